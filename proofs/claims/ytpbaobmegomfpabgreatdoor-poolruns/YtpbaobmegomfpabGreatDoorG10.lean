/-
  Texts of the proof.
-/
import Derived.Test.YtpbaobmegomfpabGreatDoorG9
import Derived.Deep.Slices
import Derived.Deep.SlicePairs
import Derived.SizedLaws
import Derived.ProofKit
import Derived.Lib.SmallJoins
set_option linter.unusedVariables false
set_option linter.unusedSimpArgs false
set_option maxRecDepth 100000
set_option maxHeartbeats 16000000
open List renaming getElem_cons_zero→aB,getElem_cons_succ→aC,getD_eq_getElem?_getD→eU,getElem?_eq_some_iff→fN,mem_cons_self→gJ,length_set→fI,mem_cons_of_mem→iZ
open Nat renaming le_refl→aI,lt_of_lt_of_le→bD,zero_add→cW
open Go.Lib renaming hid→aA
open Go.RowKit.Below renaming refl→aD,heap_setCell→bF
open Go.World renaming setCell→cE,cell?_setCell_other→jS
open Classical renaming byContradiction→gP
open Bool renaming or_eq_true→fO
open Go renaming bodyPost_ret→bE
namespace Go.Proofs.YtpbaobmegomfpabGreatDoor
open Go.RowKit
structure Alike (P:Mach PE)(H:Mach Wd):Prop where
 cl:P.cl=H.cl
 busy:P.busy=H.busy
 line:P.line=H.line
 sent:P.sent=H.sent
 deeds:P.deeds=H.deeds
 rows:P.e.w.rows=H.e.rows
 plen:P.e.w.ss.length=P.busy.length
 hlen:H.e.ss.length=6
 klen:P.e.kept.length=6
 okP:bX P.e.w
 okH:bX H.e
 hold: ∀c s,(P.get c).srv=some s->H.e.at c=P.e.w.at s
 bare: ∀c,c<6->(P.get c).srv=none->H.e.at c=⟨0,(P.e.of c).1,(P.e.of c).2,[],[]⟩
 free: ∀s,s<P.e.w.ss.length->(∀c,(P.get c).srv≠some s)->(P.e.w.at s).st=0
section
variable {P:Mach PE}{H:Mach Wd}{mode:Int}
theorem Alike.get (h:Alike P H)(c:Nat):H.get c=P.get c:=by unfold Mach.get;rw[h.cl]
theorem kN {W:Wd}{i:Nat}(h:i<W.ss.length)(rows:PL)(x:Sess)(j:Nat):(⟨rows,W.ss.set i x⟩:Wd).at j=if i=j then x else W.at j:=by
 unfold Wd.at;simp only;rw[jW];by_cases e:i=j<;>simp[e];intro hh;omega
theorem kO {W:Wd}(h:bX W){i:Nat}(hi:i<W.ss.length):nN (W.at i):=by rw[iQ hi];exact h.sess i hi
theorem Alike.srvlt (h:Alike P H)(hP:MOk mode P){c s:Nat}(hs:(P.get c).srv=some s):s<P.e.w.ss.length/\c<H.e.ss.length:=by
 refine⟨?_,?_⟩
 ·rw[h.plen];exact(fN.1 (hP.srv c s hs)).1
 ·rw[h.hlen];have:=tD hs;rw[hP.n6]at this;exact this
theorem qAm {ss:List Sess}{me:Int}{key:ByteArray}{W:Wd}(hW:W.ss=ss):eI ss me key=true ↔ ∃k,k<ss.length/\aM (W.at k).wr key=true/\(k:Int)≠me:=by
 rw[sJ]
 constructor
 ·rintro⟨k,hk,h1,h2⟩;exact⟨k,hk,by rw[iQ (by rw[hW];exact hk)];simp only[hW];exact h1,h2⟩
 ·rintro⟨k,hk,h1,h2⟩;refine⟨k,hk,?_,h2⟩;rw[iQ (by rw[hW];exact hk)]at h1;simp only[hW]at h1;exact h1
theorem Alike.like (h:Alike P H)(hP:MOk mode P){c s:Nat}(hs:(P.get c).srv=some s):Like P.e.w H.e s c:=by
 obtain⟨h1,h2⟩:=h.srvlt hP hs;refine⟨h.okP,h.okH,h1,h2,h.rows,(h.hold c s hs).symm,fun key=>?_⟩;rw[Bool.eq_iff_iff,qAm (W:=P.e.w) rfl,qAm (W:=H.e) rfl]
 constructor
 ·rintro⟨s',hs',hf,hne⟩
  have: ∃c',(P.get c').srv=some s':=gP fun hn=>by
   have h0:=h.free s' hs' (fun c' hc'=>hn ⟨c',hc'⟩);rw[(kO h.okP hs').tx (by omega)]at hf
   cases hf
  obtain⟨c',hc'⟩:=this;refine⟨c',(h.srvlt hP hc').2,by rw[h.hold c' s' hc'];exact hf,fun e=>hne ?_⟩;have:c'=c:=by omega
  subst this;rw[hs]at hc';injection hc' with hc';rw[hc']
 ·rintro⟨c',hc',hf,hne⟩
  cases hx:(P.get c').srv with
  |none=>rw[h.bare c' (by rw[h.hlen]at hc';exact hc') hx]at hf;cases hf
  |some s'=>
   refine⟨s',(h.srvlt hP hx).1,by rw[<-h.hold c' s' hx];exact hf,fun e=>hne ?_⟩;have:s'=s:=by omega
   subst this;rw[hP.inj c' c s' hx hs]
theorem Alike.turn (h:Alike P H){c:Nat}{x:Cl}(hc:c<P.cl.length)(hs:x.srv=(P.get c).srv):Alike (P.set c x) (H.set c x):=by
 have hg: ∀d,((P.set c x).get d).srv=(P.get d).srv:=fun d=>by
  rw[cZ hc]
  by_cases e:c=d
  ·subst e;rw[if_pos rfl];exact hs
  ·rw[if_neg e]
 exact⟨by show P.cl.set c x=H.cl.set c x;rw[h.cl],h.busy,h.line,h.sent,h.deeds,h.rows,h.plen,h.hlen,h.klen,h.okP,h.okH,fun d s hd=>h.hold d s (by rw[<-hg];exact hd),fun d hd hn=>h.bare d hd (by rw[<-hg];exact hn),fun s hl hn=>h.free s hl (fun d hd=>hn d (by rw[hg];exact hd))⟩
theorem Alike.tell (h:Alike P H)(c:Nat)(a:cU)(st:Int):Alike (P.tell c a st) (H.tell c a st):=by
 have e:(P.tell c a st).sent=(H.tell c a st).sent:=by unfold Mach.tell;simp only;rw[h.sent]
 exact⟨h.cl,h.busy,h.line,e,h.deeds,h.rows,h.plen,h.hlen,h.klen,h.okP,h.okH,h.hold,h.bare,h.free⟩
theorem Alike.state (h:Alike P H)(hP:MOk mode P){c:Nat}(hc:c<6):aO.state P.e c (P.get c).srv=bC.state H.e c (H.get c).srv:=by
 show P.e.state (P.get c).srv=(H.e.at c).st
 cases hx:(P.get c).srv with
 |none=>rw[h.bare c hc hx];rfl
 |some s=>rw[h.hold c s hx];rfl
theorem Alike.exec (h:Alike P H)(hP:MOk mode P){c s:Nat}(hs:(P.get c).srv=some s){r:Req}(hr:bZ r.k r.key r.val=0){P':Mach PE}{H':Mach Wd}(e1:P'.e=(aO.exec P.e c s r).1)(e2:H'.e=(bC.exec H.e c s r).1)(e3:P'.cl=P.cl)(e4:H'.cl=H.cl)
  (e5:P'.busy=P.busy) (e6:H'.busy=H.busy) (e7:P'.line=P.line) (e8:H'.line=H.line) (e9:P'.sent=H'.sent) (e10:P'.deeds=H'.deeds):Alike P' H'/\(aO.exec P.e c s r).2=(bC.exec H.e c s r).2:=by
 have hl:=h.like hP hs;obtain⟨rows,x,a,h1,h2⟩:=hl.doM r.k r.key r.val;have o1:=wO h.okP hl.hs hr;have o2:=wO h.okH hl.hc hr;have x1:P'.e=⟨⟨rows,P.e.w.ss.set s x⟩,P.e.kept⟩:=by rw[e1];show(⟨(doM P.e.w s r.k r.key r.val).1,P.e.kept⟩:PE)=_;rw[h1]
 have x2:H'.e=⟨rows,H.e.ss.set c x⟩:=by rw[e2];show(doM H.e c r.k r.key r.val).1=_;rw[h2]
 have hg: ∀d,P'.get d=P.get d:=fun d=>by unfold Mach.get;rw[e3]
 refine⟨⟨by rw[e3,e4,h.cl],by rw[e5,e6,h.busy],by rw[e7,e8,h.line],e9,e10,by rw[x1,x2],by rw[x1,e5];simp[h.plen],by rw[x2];simp[h.hlen],by rw[x1];exact h.klen,?_,?_,fun d s' hd=>?_,fun d hd hn=>?_,fun s' hl' hn=>?_⟩,?_⟩
 ·rw[x1];rw[h1]at o1;exact o1.1
 ·rw[x2];rw[h2]at o2;exact o2.1
 ·rw[hg]at hd;rw[x1,x2,kN hl.hc,kN hl.hs]
  by_cases e:c=d
  ·subst e;rw[if_pos rfl,if_pos (by rw[hs]at hd;injection hd)]
  ·rw[if_neg e,if_neg (fun e'=>e (hP.inj c d s hs (by rw[e'];exact hd)))];exact h.hold d s' hd
 ·rw[hg]at hn;rw[x2,kN hl.hc,if_neg (fun e=>by rw[<-e,hs]at hn;cases hn)];have:=h.bare d hd hn;rw[this];show _=(⟨0,(P'.e.of d).1,(P'.e.of d).2,[],[]⟩:Sess);rw[x1];rfl
 ·rw[x1]at hl' ⊢;rw[kN hl.hs,if_neg (fun e=>hn c (by rw[hg,hs,e]))];exact h.free s' (by simpa using hl') (fun d hd=>hn d (by rw[hg];exact hd))
 ·show((doM P.e.w s r.k r.key r.val).2,((doM P.e.w s r.k r.key r.val).1.at s).st)=((doM H.e c r.k r.key r.val).2,((doM H.e c r.k r.key r.val).1.at c).st);rw[h1,h2,kN hl.hs,kN hl.hc,if_pos rfl,if_pos rfl]
theorem Alike.release (h:Alike P H)(hP:MOk mode P){c s:Nat}(hs:(P.get c).srv=some s)(h0:(P.e.w.at s).st=0):Alike (P.release aO c s) (H.release bC c s):=by
 obtain⟨l1,l2⟩:=h.srvlt hP hs;have hc':=tD hs;have hg: ∀d,(P.release aO c s).get d=if c=d then{P.get c with srv:=none}else P.get d:=fun d=>cZ (m:=P) hc'
 have ho: ∀d,(P.release aO c s).e.of d=if c=d then((P.e.w.at s).set,(P.e.w.at s).prep)else P.e.of d:=fun d=>by
  show(P.e.kept.set c _).getD d ([],[])=_;rw[jW];have:c<P.e.kept.length:=by rw[h.klen,<-hP.n6];exact hc'
  by_cases e:c=d
  ·rw[if_pos e,if_pos ⟨e,this⟩]
  ·rw[if_neg e,if_neg (fun hh=>e hh.1)];rfl
 have hx:=kO h.okP l1;refine⟨?_,?_,h.line,h.sent,h.deeds,h.rows,?_,h.hlen,?_,h.okP,h.okH,fun d s' hd=>?_,fun d hd hn=>?_,fun s' hl hn=>?_⟩
 ·show P.cl.set c _=H.cl.set c _;rw[h.cl,h.get]
 ·show P.busy.set s false=H.busy.set s false;rw[h.busy]
 ·show P.e.w.ss.length=(P.busy.set s false).length;simp[h.plen]
 ·show(P.e.kept.set c _).length=6;simp[h.klen]
 ·rw[hg]at hd
  by_cases e:c=d
  ·rw[if_pos e]at hd;cases hd
  ·rw[if_neg e]at hd;exact h.hold d s' hd
 ·rw[hg]at hn;rw[ho]
  by_cases e:c=d
  ·subst e;rw[if_pos rfl];show H.e.at c=_;rw[h.hold c s hs];have:=hx.idle h0;have:=hx.tx (by omega)
   cases hy:P.e.w.at s
   simp_all
  ·rw[if_neg e]at hn ⊢;exact h.bare d hd hn
 ·by_cases e:s=s'
  ·subst e;exact h0
  ·refine h.free s' hl (fun d hd=>hn d ?_);rw[hg,if_neg (fun e'=>e (by rw[<-e',hs]at hd;injection hd))];exact hd
theorem Alike.proc (h:Alike P H)(hP:MOk mode P){c:Nat}(hc:c<6)(hr:dD mode (P.get c)=true):Alike (P.proc aO mode c) (H.proc bC mode c):=by
 have hc':c<P.cl.length:=by rw[hP.n6];exact hc
 have hn:=wU hP hr;obtain⟨r,l,hw,hs⟩:=qP hr;have t1:Alike (P.set c {P.get c with wait:=l}) (H.set c {P.get c with wait:=l}):=h.turn hc' rfl;have m1:MOk mode (P.set c {P.get c with wait:=l}):=hP.turn hc (fun q hq=>hP.fine c q (by rw[hw];exact iZ _ hq)) rfl (fun hl=>absurd hl hn);unfold Mach.proc;rw[h.get];simp only[hw]
 by_cases hf:eJ mode r=true
 ·rw[if_pos hf,if_pos hf];have:=h.state hP hc;rw[h.get]at this;rw[this];exact t1.tell _ _ _
 ·rw[if_neg hf,if_neg hf];have hsv:(P.get c).srv.isSome=true:=by rw[fO]at hs;exact hs.resolve_right hf
  obtain⟨s,hs⟩:=Option.isSome_iff_exists.1 hsv
  have hk:bZ r.k r.key r.val=0:=by
   rcases hP.fine c r (by rw[hw];exact gJ)with e|e
   ·exact absurd (by rw[e];rfl) hf
   ·exact e
  have hs1:((P.set c {P.get c with wait:=l}).get c).srv=some s:=by rw[cZ hc',if_pos rfl];exact hs
  rw[show(P.get c).srv.getD 0=s by rw[hs];rfl];generalize hxp:aO.exec P.e c s r=xp;generalize hxh:bC.exec H.e c s r=xh
  have hq:=t1.exec m1 hs1 hk (P':={P.set c {P.get c with wait:=l}with e:=xp.1,deeds:=P.deeds++[⟨c,r,xp.2.1,xp.2.2⟩]}) (H':={H.set c {P.get c with wait:=l}with e:=xh.1,deeds:=P.deeds++[⟨c,r,xp.2.1,xp.2.2⟩]})
   (by show xp.1=(aO.exec P.e c s r).1;rw[hxp]) (by show xh.1=(bC.exec H.e c s r).1;rw[hxh]) rfl rfl rfl rfl rfl rfl t1.sent rfl
  have hx2:xp.2=xh.2:=by have:=hq.2;rw[<-hxp,<-hxh];exact this
  have t2:=hq.1;rw[<-hx2,<-h.deeds];have t3:=t2.tell c xp.2.1 xp.2.2;have m3:MOk mode (Mach.tell {P.set c {P.get c with wait:=l}with e:=xp.1,deeds:=P.deeds++[⟨c,r,xp.2.1,xp.2.2⟩]} c xp.2.1 xp.2.2):=m1.same rfl rfl rfl (by simp[Mach.tell,Mach.set,hP.s6])
  by_cases hm:mode≠1/\xp.2.2=0
  ·rw[if_pos hm,if_pos hm];refine t3.release m3 (by show((P.set c {P.get c with wait:=l}).get c).srv=_;exact hs1) ?_;show(xp.1.w.at s).st=0;rw[<-hm.2,<-hxp];rfl
  ·rw[if_neg hm,if_neg hm];exact t3
theorem Alike.enq (h:Alike P H):Alike P.enq H.enq:=by
 have e:fQ H=fQ P:=by funext l c;unfold fQ;rw[h.get]
 have e2:P.enq.line=H.enq.line:=by unfold Mach.enq;simp only;rw[e,h.line]
 exact⟨h.cl,h.busy,e2,h.sent,h.deeds,h.rows,h.plen,h.hlen,h.klen,h.okP,h.okH,h.hold,h.bare,h.free⟩
theorem Alike.assign (h:Alike P H)(hP:MOk mode P):(P.assign aO).1=(H.assign bC).1/\Alike (P.assign aO).2 (H.assign bC).2:=by
 unfold Mach.assign;rw[<-h.line,<-h.busy]
 cases hl:P.line with
 |nil=>exact⟨rfl,h⟩
 |cons c l=>
  simp only
  by_cases hb:P.busy.idxOf false<P.busy.length
  ·rw[if_pos hb,if_pos hb];refine⟨rfl,?_⟩;obtain⟨hc,hs,hw,hr⟩:=hP.line c (by rw[hl];exact gJ);have hc':c<P.cl.length:=by rw[hP.n6];exact hc
   have hfree:P.busy[P.busy.idxOf false]? =some false:=qA8 hb;generalize hs0:P.busy.idxOf false=s at*;have hns: ∀d,(P.get d).srv≠some s:=fun d hd=>by rw[hP.srv d s hd]at hfree;cases hfree
   have ls:s<P.e.w.ss.length:=by rw[h.plen];exact hb
   have h0:=h.free s ls hns;have hbare:=h.bare c hc hs;have okc:=kO h.okH (i:=c) (by rw[h.hlen];exact hc);rw[hbare]at okc;have hre:=uAs h.okP ls h0 okc.set okc.prep;have hg: ∀(q:Mach PE) d,q.cl=P.cl.set c {P.get c with srv:=some s}->q.get d=if c=d then{P.get c with srv:=some s}else P.get d:=fun q d hq=>by unfold Mach.get;rw[hq];exact oX hc'
   have hek:aO.grant P.e c s=⟨P.e.w.put s ⟨0,(P.e.of c).1,(P.e.of c).2,[],[]⟩,P.e.kept⟩:=by
    show(⟨jV P.e.w s (P.e.of c),P.e.kept⟩:PE)=_;rw[hre]
   refine⟨?_,?_,rfl,h.sent,h.deeds,?_,?_,h.hlen,?_,?_,h.okH,fun d s' hd=>?_,fun d hd hn=>?_,fun s' hl' hn=>?_⟩
   ·show P.cl.set c _=H.cl.set c _;rw[h.cl,h.get]
   ·show P.busy.set s true=P.busy.set s true;rfl
   ·show(aO.grant P.e c s).w.rows=H.e.rows;rw[hek];exact h.rows
   ·show(aO.grant P.e c s).w.ss.length=(P.busy.set s true).length;rw[hek,fI];show(P.e.w.put s _).ss.length=_;rw[eY];exact h.plen
   ·show(aO.grant P.e c s).kept.length=6;rw[hek];exact h.klen
   ·show bX (aO.grant P.e c s).w;rw[hek];exact lG h.okP ls okc (fun p hp=>by cases hp)
   ·rw[hg _ d rfl]at hd;show H.e.at d=(aO.grant P.e c s).w.at s';rw[hek];show H.e.at d=(⟨P.e.w.rows,P.e.w.ss.set s _⟩:Wd).at s';rw[kN ls]
    by_cases e:c=d
    ·subst e;rw[if_pos rfl]at hd;injection hd with hd;rw[if_pos hd];exact hbare
    ·rw[if_neg e]at hd;rw[if_neg (fun e'=>hns d (by rw[e'];exact hd))];exact h.hold d s' hd
   ·rw[hg _ d rfl]at hn
    by_cases e:c=d
    ·rw[if_pos e]at hn;cases hn
    ·rw[if_neg e]at hn;show H.e.at d=⟨0,((aO.grant P.e c s).of d).1,((aO.grant P.e c s).of d).2,[],[]⟩;rw[hek];exact h.bare d hd hn
   ·show((aO.grant P.e c s).w.at s').st=0;have hl'':s'<(aO.grant P.e c s).w.ss.length:=hl';rw[hek]at hl'' ⊢;have hl''':s'<P.e.w.ss.length:=(by have:s'<(P.e.w.put s _).ss.length:=hl'';rw[eY]at this;exact this);show((⟨P.e.w.rows,P.e.w.ss.set s _⟩:Wd).at s').st=0;rw[kN ls,if_neg (fun e=>hn c (by rw[hg _ c rfl,if_pos rfl,e]))];exact h.free s' hl''' (fun d hd=>hn d (by rw[hg _ d rfl,if_neg (fun e=>by rw[<-e,hs]at hd;cases hd)];exact hd))
  ·rw[if_neg hb,if_neg hb];exact⟨rfl,h⟩
theorem Alike.first (h:Alike P H):H.firstR mode=P.firstR mode:=by
 have e:(fun c=>dD mode (H.get c))=(fun c=>dD mode (P.get c)):=by funext c;rw[h.get]
 unfold Mach.firstR;rw[e]
theorem Alike.step (h:Alike P H)(hP:MOk mode P):(P.step aO mode).1=(H.step bC mode).1/\Alike (P.step aO mode).2 (H.step bC mode).2:=by
 unfold Mach.step;rw[h.first]
 cases hf:P.firstR mode with
 |some c=>
  obtain⟨hc,hr⟩:=nY hf;exact⟨rfl,h.proc hP hc hr⟩
 |none=>exact h.enq.assign (hP.enq hf)
theorem Alike.mu (h:Alike P H):H.mu=P.mu:=by unfold Mach.mu;rw[h.cl]
theorem Alike.iter (h:Alike P H)(hP:MOk mode P)(n:Nat):Alike (P.iter aO mode n) (H.iter bC mode n):=by
 induction n generalizing P H with
 |zero=>exact h
 |succ n ih=>
  have hs:=h.step hP;unfold Mach.iter;rw[<-hs.1]
  cases ht:(P.step aO mode).1 with
  |true=>simp only[if_true];exact ih hs.2 (hP.step (o:=aO)).1
  |false=>simpa using hs.2
theorem Alike.all (h:Alike P H)(hP:MOk mode P):Alike (P.all aO mode) (H.all bC mode):=by
 unfold Mach.all;rw[h.mu];exact h.iter hP _
theorem qAn:nN Sess.zero:=⟨Int.le_refl _,(by show(0:Int)<=2;decide),jF _ _,jF _ _,jF _ _,jF _ _,fun _=>rfl,fun _=>rfl⟩
theorem Alike.leave (h:Alike P H)(hP:MOk mode P){c:Nat}(hc:c<6):Alike (P.leave aO c) (H.leave bC c):=by
 have hc':c<P.cl.length:=by rw[hP.n6];exact hc
 have hcH:c<H.e.ss.length:=by rw[h.hlen];exact hc
 have hg: ∀d,(P.leave aO c).get d=if c=d then Cl.new else P.get d:=fun d=>cZ (m:=P) hc'
 have eH: ∀d,(H.leave bC c).e.at d=if c=d then Sess.zero else H.e.at d:=fun d=>kN (W:=H.e) hcH _ _ _
 have hk: ∀(k:List (PL×PL)) d,k=P.e.kept.set c ([],[])->k.getD d ([],[])=if c=d then([],[])else P.e.of d:=fun k d hk=>by
  rw[hk,jW]
  by_cases e:c=d
  ·rw[if_pos e,if_pos ⟨e,by rw[h.klen];exact hc⟩]
  ·rw[if_neg e,if_neg (fun hh=>e hh.1)];rfl
 have okH':bX (H.leave bC c).e:=lG h.okH hcH qAn (fun p hp=>by cases hp);have e1:(P.leave aO c).cl=(H.leave bC c).cl:=by show P.cl.set c _=H.cl.set c _;rw[h.cl]
 have e2:(P.leave aO c).busy=(H.leave bC c).busy:=by unfold Mach.leave;simp only;rw[h.get,h.busy]
 have e3:(P.leave aO c).line=(H.leave bC c).line:=by unfold Mach.leave;simp only;rw[h.line]
 have hlen:(H.leave bC c).e.ss.length=6:=by show(H.e.put c _).ss.length=6;rw[eY];exact h.hlen
 cases hx:(P.get c).srv with
 |none=>
  have ee:(P.leave aO c).e=⟨P.e.w,P.e.kept.set c ([],[])⟩:=by show aO.leave P.e c (P.get c).srv=_;rw[hx];rfl
  have eb:(P.leave aO c).busy=P.busy:=by unfold Mach.leave;simp only;rw[hx]
  refine⟨e1,e2,e3,h.sent,h.deeds,by rw[ee];exact h.rows,by rw[ee,eb];exact h.plen,hlen,by rw[ee];simp[h.klen],by rw[ee];exact h.okP,okH',fun d s hd=>?_,fun d hd hn=>?_,fun s hl hn=>?_⟩
  ·rw[hg]at hd
   by_cases e:c=d
   ·rw[if_pos e]at hd;cases hd
   ·rw[if_neg e]at hd;rw[ee,eH,if_neg e];exact h.hold d s hd
  ·rw[hg]at hn;rw[eH];show _=(⟨0,((P.leave aO c).e.kept.getD d ([],[])).1,((P.leave aO c).e.kept.getD d ([],[])).2,[],[]⟩:Sess);rw[hk _ d (by rw[ee])]
   by_cases e:c=d
   ·rw[if_pos e,if_pos e];rfl
   ·rw[if_neg e]at hn ⊢;rw[if_neg e];exact h.bare d hd hn
  ·rw[ee]at hl ⊢;refine h.free s hl (fun d hd=>hn d ?_);rw[hg,if_neg (fun e=>by rw[<-e,hx]at hd;cases hd)];exact hd
 |some s=>
  obtain⟨l1,l2⟩:=h.srvlt hP hx;have ee:(P.leave aO c).e=⟨if(P.e.w.at s).st≠0 then(doM P.e.w s 3 ⟨#[]⟩ ⟨#[]⟩).1 else P.e.w,P.e.kept.set c ([],[])⟩:=by show aO.leave P.e c (P.get c).srv=_;rw[hx];rfl
  have eb:(P.leave aO c).busy=P.busy.set s false:=by unfold Mach.leave;simp only;rw[hx]
  have hsx:=kO h.okP l1
  have hroll: ∃x:Sess,(if(P.e.w.at s).st≠0 then(doM P.e.w s 3 ⟨#[]⟩ ⟨#[]⟩).1 else P.e.w)=P.e.w.put s x/\x.st=0/\nN x/\x.wr=[]:=by
   by_cases h0:(P.e.w.at s).st≠0
   ·rw[if_pos h0];refine⟨{P.e.w.at s with st:=0,set:=(P.e.w.at s).sav,sav:=[],wr:=[]},?_,rfl,⟨Int.le_refl _,(by show(0:Int)<=2;decide),hsx.sav,hsx.prep,jF _ _,jF _ _,fun _=>rfl,fun _=>rfl⟩,rfl⟩;unfold doM didM did1;simp[h0,dX]
   ·rw[if_neg h0];have h0:(P.e.w.at s).st=0:=gP h0;exact⟨P.e.w.at s,(oY l1).symm,h0,hsx,hsx.tx (by omega)⟩
  obtain⟨x,hxe,hx0,hxo,hxw⟩:=hroll;rw[hxe]at ee;have okw:bX (P.e.w.put s x):=lG h.okP l1 hxo (fun p hp=>by rw[hxw]at hp;cases hp);refine⟨e1,e2,e3,h.sent,h.deeds,by rw[ee];exact h.rows,by rw[ee,eb];show(P.e.w.put s x).ss.length=_;rw[eY,fI];exact h.plen,hlen,by rw[ee];simp[h.klen],by rw[ee];exact okw,okH',fun d s' hd=>?_,fun d hd hn=>?_,fun s' hl hn=>?_⟩
  ·rw[hg]at hd
   by_cases e:c=d
   ·rw[if_pos e]at hd;cases hd
   ·rw[if_neg e]at hd;rw[ee,eH,if_neg e];show H.e.at d=(⟨P.e.w.rows,P.e.w.ss.set s x⟩:Wd).at s';rw[kN l1,if_neg (fun e'=>e (hP.inj c d s hx (by rw[e'];exact hd)))];exact h.hold d s' hd
  ·rw[hg]at hn;rw[eH];show _=(⟨0,((P.leave aO c).e.kept.getD d ([],[])).1,((P.leave aO c).e.kept.getD d ([],[])).2,[],[]⟩:Sess);rw[hk _ d (by rw[ee])]
   by_cases e:c=d
   ·rw[if_pos e,if_pos e];rfl
   ·rw[if_neg e]at hn ⊢;rw[if_neg e];exact h.bare d hd hn
  ·rw[ee]at hl ⊢;show((⟨P.e.w.rows,P.e.w.ss.set s x⟩:Wd).at s').st=0;rw[kN l1]
   by_cases e:s=s'
   ·rw[if_pos e];exact hx0
   ·rw[if_neg e];refine h.free s' (by have:s'<(P.e.w.put s x).ss.length:=hl;rw[eY]at this;exact this) (fun d hd=>hn d ?_);rw[hg,if_neg (fun e'=>e (by rw[<-e',hx]at hd;injection hd))];exact hd
theorem Alike.feed (h:Alike P H)(hP:MOk mode P){c:Nat}(hc:c<6)(n:Nat):Alike (P.feed aO mode n c) (H.feed bC mode n c):=by
 induction n generalizing P H with
 |zero=>exact h
 |succ n ih=>
  have hc':c<P.cl.length:=by rw[hP.n6];exact hc
  unfold Mach.feed;rw[h.get]
  cases hp:pull (P.get c).bytes with
  |none=>exact h
  |some q=>
   obtain⟨k,t,j⟩:=q;simp only
   split
   ·exact(h.all hP).leave hP.all hc
   ·refine ih (h.turn hc' rfl) (hP.turn hc (wY (fun q hq=>hP.fine c q hq) (wX k t)) rfl fun hl=>⟨by simp,?_⟩);obtain⟨_,_,h3,h4⟩:=hP.line c hl;exact wZ h3 h4
theorem Alike.deliver (h:Alike P H)(hP:MOk mode P){c:Nat}(hc:c<6)(d:ByteArray):Alike (P.deliver aO mode c d) (H.deliver bC mode c d):=by
 unfold Mach.deliver;rw[h.get];exact(h.turn (x:={P.get c with bytes:=(P.get c).bytes++d}) (by rw[hP.n6];exact hc) rfl).feed (hP.bytes hc _) hc _
theorem Alike.act (h:Alike P H)(hP:MOk mode P){a:Act}(ha:dZ a=0):Alike (P.act aO mode a) (H.act bC mode a):=by
 have hc:a.c.toNat<6:=by
  unfold dZ at ha
  split at ha
  ·cases ha
  split at ha
  ·cases ha
  omega
 unfold Mach.act
 split
 ·exact(h.deliver hP hc _).all (hP.deliver hc _)
 ·exact(h.leave hP hc).all (hP.leave hc)
theorem Alike.run (h:Alike P H)(hP:MOk mode P){l:List Act}(hl:eA l=0):Alike (P.run aO mode l) (H.run bC mode l):=by
 induction l generalizing P H with
 |nil=>exact h
 |cons a l ih=>exact ih (h.act hP (lJ hl).1) (hP.act (lJ hl).1) (lJ hl).2
end
theorem qAo (rows:PL)(n i:Nat):(⟨rows,List.replicate n Sess.zero⟩:Wd).at i=Sess.zero:=by
 unfold Wd.at;simp only;rw[eU,List.getElem?_replicate];split<;>rfl
theorem qAp {n:Nat}(h:n<=8):bX ⟨[],List.replicate n Sess.zero⟩:=by
 have hz: ∀i (hi:i<(List.replicate n Sess.zero).length),(List.replicate n Sess.zero)[i]=Sess.zero:=fun i hi=>by simp
 refine⟨jF _ _,by simpa using h,fun i hi=>by rw[hz i hi];exact qAn,fun i hi p hp=>?_,?_⟩
 ·rw[hz i hi]at hp;cases hp
 ·have:(List.replicate n Sess.zero).flatMap (·.wr)=[]:=by
   induction n with
   |zero=>rfl
   |succ n ih=>rw[List.replicate_succ,List.flatMap_cons,ih (by omega) (fun i hi=>by simp)];rfl
  show(iN [] ((List.replicate n Sess.zero).flatMap (·.wr))).length<=100;rw[this];show 0<=100;omega
theorem xB {n:Nat}(h:n<=8):Alike (Mach.start (gA n) n) (Mach.start jO n):=by
 have hg: ∀c,(Mach.start (gA n) n).get c=Cl.new:=fun c=>by
  unfold Mach.get Mach.start;simp only;rw[eU,List.getElem?_replicate]
  split<;>rfl
 refine⟨rfl,rfl,rfl,rfl,rfl,rfl,by simp[Mach.start,gA],by simp[Mach.start,jO],by simp[Mach.start,gA],qAp h,qAp (by omega),(fun c s hs=>by rw[hg]at hs;cases hs),fun c hc _=>?_,fun s hl _=>?_⟩
 ·show jO.at c=_;unfold jO;rw[qAo]
  have:(Mach.start (gA n) n).e.of c=([],[]):=by
   show(List.replicate 6 ([],[])).getD c ([],[])=_;rw[eU,List.getElem?_replicate];split<;>rfl
  rw[this];rfl
 ·show((⟨[],List.replicate n Sess.zero⟩:Wd).at s).st=0;rw[qAo];rfl
theorem hA9 {n:Nat}(h:n<=8)(mode:Int){l:List Act}(hl:eA l=0):Alike ((Mach.start (gA n) n).run aO mode l) ((Mach.start jO n).run bC mode l):=
 (xB h).run (qAb _ _ _) hl
structure D where
 w:Wd
 sent:List ByteArray
 deeds:List iD
def D.tell (d:D)(c:Nat)(a:cU)(st:Int):D:={d with sent:=d.sent.set c (d.sent.getD c ⟨#[]⟩++eZ a st)}
def D.one (mode:Int)(c:Nat)(d:D)(r:Req):D:=
 if eJ mode r then d.tell c ⟨4,fG mode r⟩ (d.w.at c).st
 else D.tell ⟨(doM d.w c r.k r.key r.val).1,d.sent,d.deeds++[⟨c,r,(doM d.w c r.k r.key r.val).2,((doM d.w c r.k r.key r.val).1.at c).st⟩]⟩ c (doM d.w c r.k r.key r.val).2 ((doM d.w c r.k r.key r.val).1.at c).st
def Mach.d (m:Mach Wd):D:=⟨m.e,m.sent,m.deeds⟩
section
variable {m:Mach Wd}{mode:Int}{c:Nat}
end
def Req.ok (r:Req):Prop:=bZ r.k r.key r.val=0
theorem qT {n:Int}(h1:1<=n)(h6:n<6):bZ n ⟨#[]⟩ ⟨#[]⟩=0:=by
 refine mL (by omega) ?_ ?_
 ·rw[rT (by omega)];exact kV rfl
 ·unfold fP;rw[if_neg (by omega),qB (by omega)];exact kV rfl
def fL (W:Wd)(i:Nat)(r:Req):Wd×cU:=doM W i r.k r.key r.val
theorem mW {W:Wd}(h:bX W){i:Nat}(hi:i<W.ss.length){r:Req}(hr:r.ok):bX (fL W i r).1/\(fL W i r).1.ss.length=W.ss.length:=wO h hi hr
section
variable {W:Wd}{i:Nat}
end
section
variable {W:Wd}{i:Nat}
end
def aL {α:Type}(f:Nat->α)(c:Nat)(v:α):Nat->α:=fun x=>if x=c then v else f x
def Mach.b (m:Mach Wd):Nat->ByteArray:=fun c=>(m.get c).bytes
def Mach.q (m:Mach Wd):Nat->List Req:=fun c=>(m.get c).wait
abbrev JP:=D->(Nat->ByteArray)->(Nat->List Req)->Prop
def Mach.has (m:Mach Wd)(J:JP):Prop:=J m.d m.b m.q
section
variable {mode:Int}{J:JP}{m:Mach Wd}{c:Nat}
end
section
variable {mode:Int}{m:Mach Wd}
end
section
variable {W:Wd}{c:Nat}
end
section
variable {W:Wd}{c:Nat}
end
def PRow (w:World)(P:Nat)(f:Nat->Value):Prop:= ∃cur:Array Value,w.heap[P]? =some (.cells cur 83 (0,0))/\cur.size=48/\ ∀j,j<48->cur[j]? =some (f j)
section
variable {w w':World}{P:Nat}{f:Nat->Value}
theorem PRow.cell (h:PRow w P f){j:Nat}(hj:j<48):w.cell? ⟨P,j,none⟩=some (f j):=by
 obtain⟨cur,hh,hs,hc⟩:=h;unfold World.cell?;simp only[hh];exact hc j hj
theorem PRow.frozen (h:PRow w P f)(j:Nat):w.frozen? ⟨P,j,none⟩=false:=by
 obtain⟨cur,hh,_⟩:=h;unfold World.frozen?;simp[hh]
theorem PRow.lt (h:PRow w P f):P<w.heap.size:=by
 obtain⟨cur,hh,_⟩:=h;exact(Array.getElem?_eq_some_iff.1 hh).1
theorem PRow.same (h:PRow w P f)(e:w'.heap[P]? =w.heap[P]?):PRow w' P f:=by
 obtain⟨cur,hh,r⟩:=h;exact⟨cur,e.trans hh,r⟩
theorem PRow.set (h:PRow w P f)(j:Nat)(u:Value):PRow (w.setCell ⟨P,j,none⟩ u) P (aL f j u):=by
 obtain⟨cur,hh,hs,hc⟩:=h;refine⟨cur.setIfInBounds j u,?_,by simpa using hs,fun i hi=>?_⟩
 ·simp[cE,Array.getElem?_modify,hh]
 ·rw[Array.getElem?_setIfInBounds];unfold aL
  by_cases e:j=i
  ·subst e;rw[if_pos rfl,if_pos (by omega),if_pos rfl]
  ·rw[if_neg e,if_neg (fun h=>e h.symm)];exact hc i hi
theorem PRow.new (w:World)(cs:Array Value)(hs:cs.size=48)(f:Nat->Value)(hf: ∀j,j<48->cs[j]? =some (f j)):PRow (w.alloc (.cells cs 83)) w.heap.size f:=
 ⟨cs,heap_alloc_new w _,hs,hf⟩
end
def iG (k:Nat):Nat:=if k=1 then 4 else if k<8 then 41 else if k=8 then 3 else if k<15 then 5 else 70
def fR (k:Nat):Nat:=if k=1 then 1 else if k<8 then 3 else if k<15 then 1 else 7
def cO (k:Nat):Nat:=if k=1 then 3 else if k<8 then 4+(k-2)*6+1 else if k=8 then 40 else if k<15 then 41+(k-9)else 47
def jY (r:Req):List Value:=[.int .i64 r.k,.string r.key,.string r.val]
def gW (d:iD):List Value:=[.int .i64 d.c,.int .i64 d.r.k,.string d.r.key,.string d.r.val,.int .i64 d.a.kind,.string d.a.text,.int .i64 d.st]
def cG (m:Mach PE)(k:Nat):List (List Value):=if k=1 then m.busy.map (fun b=>[.bool b])else if k<8 then(m.get (k-2)).wait.map jY else if k=8 then m.line.map (fun(n:Nat)=>[Value.int .i64 (n:Int)])
 else if k<15 then(m.sent.getD (k-9) ⟨#[]⟩).data.toList.map (fun b=>[.int .u8 b.toNat])else m.deeds.map gW
def cX (G:Nat->Option Nat)(b:Nat):Prop:= ∀i,G i≠some b
structure PMem (X:Nat)(w:World)(base P:Nat)(f:Nat->Value)(G:Nat->Option Nat)(mode:Int)(m:Mach PE):Prop where
 row:PRow w P f
 p0:G 0=some P
 lo: ∀i b,G i=some b->base<=b/\b<w.heap.size
 inj: ∀i j b,G i=some b->G j=some b->i=j
 sl: ∀k,1<=k->k<=15->k≠X->Sl w (iG k) (fR k) (f (cO k)) (G k) (cG m k).length (cG m k).flatten
 md:f 0= .int .i64 mode
 wld:WldP w (cX G) (f 1) (f 2) m.e.w
 bytes: ∀c,c<6->f (4+c*6)= .string (m.get c).bytes
 has: ∀c,c<6->f (4+c*6+2)= .bool (m.get c).srv.isSome
 srv: ∀c,c<6-> ∃q:Int,f (4+c*6+3)= .int .i64 q/\ ∀s,(m.get c).srv=some s->q=s
 set: ∀c,c<6->Lst w w.heap.size (f (4+c*6+4)) (m.e.of c).1/\InP (cX G) (f (4+c*6+4)) (m.e.of c).1
 prep: ∀c,c<6->Lst w w.heap.size (f (4+c*6+5)) (m.e.of c).2/\InP (cX G) (f (4+c*6+5)) (m.e.of c).2
section
variable {X:Nat}{w w':World}{base P:Nat}{f:Nat->Value}{G:Nat->Option Nat}{mode:Int}{m m':Mach PE}
theorem iX {v:Value}{l:PL}(h:Lst w w.heap.size v l/\InP (cX G) v l)(hs:w.heap.size<=w'.heap.size)(hk: ∀b,cX G b->b<w.heap.size->w'.heap[b]? =w.heap[b]?):Lst w' w'.heap.size v l/\InP (cX G) v l:=
 ⟨h.1.keepP (gM h.1 h.2) (fun b hb=>hk b hb.1 hb.2) (fun b hb=>bD hb.2 hs),h.2⟩
theorem PMem.keep (h:PMem X w base P f G mode m)(hX:0<X)(hs:w.heap.size<=w'.heap.size)(hk: ∀b,b<w.heap.size->G X≠some b->w'.heap[b]? =w.heap[b]?):PMem X w' base P f G mode m:=by
 have fr: ∀b,cX G b->b<w.heap.size->w'.heap[b]? =w.heap[b]? :=fun b hb hlt=>hk b hlt (hb X)
 have hP:w'.heap[P]? =w.heap[P]? :=hk P h.row.lt (fun e=>by have:=h.inj X 0 P e h.p0;omega);refine⟨h.row.same hP,h.p0,fun i b hb=>⟨(h.lo i b hb).1,bD (h.lo i b hb).2 hs⟩,h.inj,fun k h1 h2 h3=>?_,h.md,h.wld.keep hs fr,h.bytes,h.has,h.srv,fun c hc=>iX (h.set c hc) hs fr,fun c hc=>iX (h.prep c hc) hs fr⟩;exact(h.sl k h1 h2 h3).keep fun b hb=>hk b (h.lo k b hb).2 (fun e=>h3 (h.inj k X b hb e))
theorem PMem.below (h:PMem X w base P f G mode m)(hb:Below w.heap.size w w'):PMem X w' base P f G mode m:=by
 have fr: ∀b,cX G b->b<w.heap.size->w'.heap[b]? =w.heap[b]? :=fun b _ hlt=>hb.block b hlt
 refine⟨h.row.same (hb.block P h.row.lt),h.p0,fun i b hb'=>⟨(h.lo i b hb').1,bD (h.lo i b hb').2 hb.size⟩,h.inj,fun k h1 h2 h3=>?_,h.md,h.wld.keep hb.size fr,h.bytes,h.has,h.srv,fun c hc=>iX (h.set c hc) hb.size fr,fun c hc=>iX (h.prep c hc) hb.size fr⟩;exact(h.sl k h1 h2 h3).keep fun b hb'=>hb.block b (h.lo k b hb').2
theorem PMem.but (h:PMem 0 w base P f G mode m)(X:Nat):PMem X w base P f G mode m:=⟨h.row,h.p0,h.lo,h.inj,fun k h1 h2 _=>h.sl k h1 h2 (by omega),h.md,h.wld,h.bytes,h.has,h.srv,h.set,h.prep⟩
theorem pA {G:Nat->Option Nat}{k b x:Nat}(h:cX G x)(hne:x≠b):cX (aL G k (some b)) x:=fun i=>by
 unfold aL
 by_cases e:i=k
 ·rw[if_pos e];intro h';injection h' with h';exact hne h'.symm
 ·rw[if_neg e];exact h i
theorem InP.lt_free {v:Value}{l:PL}{G:Nat->Option Nat}{k b:Nat}(hl:Lst w w.heap.size v l)(h:InP (cX G) v l)(hb:w.heap.size<=b):InP (cX (aL G k (some b))) v l:=
 (gM hl h).mono fun x hx=>pA hx.1 (by have:=hx.2;omega)
theorem PMem.move (h:PMem X w base P f G mode m)(hX:0<X)(hs:w.heap.size<=w'.heap.size)(hk: ∀b,b<w.heap.size->G X≠some b->w'.heap[b]? =w.heap[b]?){b:Nat}(hb:w.heap.size<=b)(hb':b<w'.heap.size)(hbase:base<=w.heap.size):PMem X w' base P f (aL G X (some b)) mode m:=by
 have h2:=h.keep hX hs hk;have hlt: ∀i x,G i=some x->x<w.heap.size:=fun i x hx=>(h.lo i x hx).2
 have up: ∀i,i≠X->aL G X (some b) i=G i:=fun i hi=>by unfold aL;rw[if_neg hi]
 have upX:aL G X (some b) X=some b:=by unfold aL;rw[if_pos rfl]
 refine⟨h2.row,(up 0 (by omega)).trans h.p0,fun i x hx=>?_,fun i j x hi hj=>?_,fun k h1 h3 h4=>?_,h.md,?_,h.bytes,h.has,h.srv,fun c hc=>⟨(h2.set c hc).1,?_⟩,fun c hc=>⟨(h2.prep c hc).1,?_⟩⟩
 ·by_cases e:i=X
  ·subst e;rw[upX]at hx;injection hx with hx;omega
  ·rw[up i e]at hx;exact h2.lo i x hx
 ·by_cases ei:i=X<;>by_cases ej:j=X
  ·omega
  ·subst ei;rw[upX]at hi;rw[up j ej]at hj;injection hi with hi;have:=hlt j x hj;omega
  ·subst ej;rw[upX]at hj;rw[up i ei]at hi;injection hj with hj;have:=hlt i x hi;omega
  ·rw[up i ei]at hi;rw[up j ej]at hj;exact h.inj i j x hi hj
 ·rw[up k h4];exact h2.sl k h1 h3 h4
 ·exact(h.wld.small.keep hs (fun x hx hlt'=>hk x hlt' (hx.1 X))).mono fun x hx=>pA hx.1 (by have:=hx.2;omega)
 ·exact InP.lt_free (h.set c hc).1 (h.set c hc).2 hb
 ·exact InP.lt_free (h.prep c hc).1 (h.prep c hc).2 hb
theorem Sl.ne {t size n:Nat}{v:Value}{g:Option Nat}{xs:List Value}(h:Sl w t size v g n xs)(hg:g≠some P)(hk: ∀b,b≠P->w'.heap[b]? =w.heap[b]?):Sl w' t size v g n xs:=h.keep fun b hb=>hk b fun e=>hg (by rw[hb,e])
theorem PMem.noP (h:PMem X w base P f G mode m){k:Nat}(hk:1<=k):G k≠some P:=fun e=>by have:=h.inj k 0 P e h.p0;omega
theorem PMem.free_ne (h:PMem X w base P f G mode m){b:Nat}(hb:cX G b):b≠P:=fun e=>hb 0 (by rw[h.p0,e])
theorem PMem.slK (h:PMem X w base P f G mode m)(hk: ∀b,b≠P->w'.heap[b]? =w.heap[b]?){k:Nat}(h1:1<=k)(h2:k<=15)(h3:k≠X):Sl w' (iG k) (fR k) (f (cO k)) (G k) (cG m k).length (cG m k).flatten:=(h.sl k h1 h2 h3).ne (h.noP h1) hk
theorem PMem.wldK (h:PMem X w base P f G mode m)(hs:w'.heap.size=w.heap.size)(hk: ∀b,b≠P->w'.heap[b]? =w.heap[b]?){r s:Value}{W:Wd}(hw:WldP w (cX G) r s W):WldP w' (cX G) r s W:=hw.keep (by omega) fun b hb _=>hk b (h.free_ne hb)
theorem PMem.lstK (h:PMem X w base P f G mode m)(hs:w'.heap.size=w.heap.size)(hk: ∀b,b≠P->w'.heap[b]? =w.heap[b]?){v:Value}{l:PL}(hl:Lst w w.heap.size v l/\InP (cX G) v l):Lst w' w'.heap.size v l/\InP (cX G) v l:=iX hl (by omega) fun b hb _=>hk b (h.free_ne hb)
theorem PMem.loK (h:PMem X w base P f G mode m)(hs:w'.heap.size=w.heap.size): ∀i b,G i=some b->base<=b/\b<w'.heap.size:=fun i b hb=>by rw[hs];exact h.lo i b hb
theorem cT (w:World)(p:Addr)(u:Value):(w.setCell p u).heap.size=w.heap.size:=by simp[cE]
theorem cM (w:World)(P j:Nat)(u:Value): ∀b,b≠P->(w.setCell ⟨P,j,none⟩ u).heap[b]? =w.heap[b]? :=fun b hb=>bF _ _ _ _ hb
theorem aP {f:Nat->Value}{j i:Nat}{u:Value}(h:i≠j):aL f j u i=f i:=by unfold aL;rw[if_neg h]
theorem dQ {f:Nat->Value}{j:Nat}{u:Value}:aL f j u j=u:=by unfold aL;rw[if_pos rfl]
theorem hAa {k k':Nat}(h1:1<=k)(h2:k<=15)(h1':1<=k')(h2':k'<=15)(h:cO k=cO k'):k=k':=by
 unfold cO at h
 repeat' split at h
 all_goals omega
theorem pB {k c:Nat}(h1:1<=k)(h2:k<=15)(hc:c<6):cO k≠0/\cO k≠1/\cO k≠2/\cO k≠4+c*6/\cO k≠4+c*6+2/\cO k≠4+c*6+3/\cO k≠4+c*6+4/\cO k≠4+c*6+5:=by
 unfold cO
 repeat' split
 all_goals omega
theorem PMem.fill (h:PMem X w base P f G mode m)(hs:Sl w (iG X) (fR X) (f (cO X)) (G X) (cG m' X).length (cG m' X).flatten)(ho: ∀k,k≠X->cG m' k=cG m k)(he:m'.e=m.e)(hb: ∀c,(m'.get c).bytes=(m.get c).bytes)(hv: ∀c,(m'.get c).srv=(m.get c).srv):PMem 0 w base P f G mode m':=by
 refine⟨h.row,h.p0,h.lo,h.inj,fun k h1 h2 _=>?_,h.md,by rw[he];exact h.wld,fun c hc=>by rw[hb];exact h.bytes c hc,fun c hc=>by rw[hv];exact h.has c hc,fun c hc=>by rw[hv];exact h.srv c hc,fun c hc=>by rw[he];exact h.set c hc,fun c hc=>by rw[he];exact h.prep c hc⟩
 by_cases e:k=X
 ·subst e;exact hs
 ·rw[ho k e];exact h.sl k h1 h2 e
theorem PMem.cellX (h:PMem X w base P f G mode m)(h1:1<=X)(h2:X<=15)(v:Value):PMem X (w.setCell ⟨P,cO X,none⟩ v) base P (aL f (cO X) v) G mode m:=by
 have hk:=cM w P (cO X) v;have hz:=cT w ⟨P,cO X,none⟩ v;have no:=fun c (hc:c<6)=>pB (c:=c) h1 h2 hc
 refine⟨h.row.set _ _,h.p0,h.loK hz,h.inj,fun k a b e=>?_,?_,?_,fun c hc=>?_,fun c hc=>?_,fun c hc=>?_,fun c hc=>?_,fun c hc=>?_⟩
 ·rw[aP (fun e'=>e (hAa a b h1 h2 e'))];exact h.slK hk a b e
 ·rw[aP (no 0 (by omega)).1.symm];exact h.md
 ·rw[aP (no 0 (by omega)).2.1.symm,aP (no 0 (by omega)).2.2.1.symm];exact h.wldK hz hk h.wld
 ·rw[aP (no c hc).2.2.2.1.symm];exact h.bytes c hc
 ·rw[aP (no c hc).2.2.2.2.1.symm];exact h.has c hc
 ·rw[aP (no c hc).2.2.2.2.2.1.symm];exact h.srv c hc
 ·rw[aP (no c hc).2.2.2.2.2.2.1.symm];exact h.lstK hz hk (h.set c hc)
 ·rw[aP (no c hc).2.2.2.2.2.2.2.symm];exact h.lstK hz hk (h.prep c hc)
theorem PMem.grow {k n':Nat}{w1:World}{v:Value}{xs:List Value}{b:Nat}(h:PMem 0 w base P f G mode m)(h1:1<=k)(h2:k<=15)(hbase:base<=w.heap.size)(hg:w.grownBy w1 (G k))(hs:Sl w1 (iG k) (fR k) v (some b) n' xs)(hb:G k=some b\/(w.heap.size<=b/\b<w1.heap.size))
  (hn:n'=(cG m' k).length) (hx:xs=(cG m' k).flatten) (ho: ∀k',k'≠k->cG m' k'=cG m k') (he:m'.e=m.e) (hby: ∀c,(m'.get c).bytes=(m.get c).bytes) (hv: ∀c,(m'.get c).srv=(m.get c).srv):
  PMem 0 (w1.setCell ⟨P,cO k,none⟩ v) base P (aL f (cO k) v) (aL G k (some b)) mode m':=by
 have hkb: ∀b,b<w.heap.size->G k≠some b->w1.heap[b]? =w.heap[b]? :=fun b hlt hne=>hg.block b hlt (fun e=>hne e.symm)
 have h3:PMem k w1 base P f (aL G k (some b)) mode m:=by
  rcases hb with hb|⟨hb,hb'⟩
  ·have:aL G k (some b)=G:=by
    funext i;unfold aL;split
    ·rename_i e;rw[e,hb]
    ·rfl
   rw[this];exact(h.but k).keep (by omega) hg.size hkb
  ·exact(h.but k).move (by omega) hg.size hkb hb hb' hbase
 have h4:=h3.cellX h1 h2 v;refine h4.fill ?_ ho he hby hv;have e1:aL f (cO k) v (cO k)=v:=dQ;have e2:aL G k (some b) k=some b:=by unfold aL;rw[if_pos rfl]
 rw[e1,e2,<-hn,<-hx];refine hs.ne ?_ (cM w1 P (cO k) v);intro e;injection e with e;have:=h3.inj k 0 P (by rw[e2,e]) h3.p0;omega
end
section
variable {w w':World}{base P:Nat}{f:Nat->Value}{G:Nat->Option Nat}{mode:Int}{m m':Mach PE}
theorem xC {c:Nat}(hc:c<m.cl.length){x:Cl}(hw:x.wait=(m.get c).wait)(k:Nat):cG (m.set c x) k=cG m k:=by
 unfold cG
 have:((m.set c x).get (k-2)).wait=(m.get (k-2)).wait:=by
  rw[cZ hc];split
  ·rename_i e;rw[hw,e]
  ·rfl
 rw[this];rfl
theorem qAq (h1:m'.cl=m.cl)(h2:m'.busy=m.busy)(h3:m'.line=m.line)(h4:m'.sent=m.sent)(h5:m'.deeds=m.deeds)(k:Nat):cG m' k=cG m k:=by
 unfold cG Mach.get;rw[h1,h2,h3,h4,h5]
theorem mX {c d:Nat}(hc:c<m.cl.length)(x:Cl):(m.set c x).get d=if c=d then x else m.get d:=cZ hc
theorem PMem.setBytes (h:PMem 0 w base P f G mode m){c:Nat}(hc:c<6)(hcl:m.cl.length=6)(b:ByteArray):PMem 0 (w.setCell ⟨P,4+c*6,none⟩ (.string b)) base P (aL f (4+c*6) (.string b)) G mode (m.set c {m.get c with bytes:=b}):=by
 have hk:=cM w P (4+c*6) (.string b);have hz:=cT w ⟨P,4+c*6,none⟩ (.string b);have hcl':c<m.cl.length:=by omega
 have gs: ∀d,((m.set c {m.get c with bytes:=b}).get d).srv=(m.get d).srv:=fun d=>by rw[mX hcl'];split<;>simp_all
 refine⟨h.row.set _ _,h.p0,h.loK hz,h.inj,fun k a b' e=>?_,?_,?_,fun d hd=>?_,fun d hd=>?_,fun d hd=>?_,fun d hd=>?_,fun d hd=>?_⟩
 ·have:=pB (c:=c) a b' hc;rw[aP this.2.2.2.1,xC hcl' (x:={m.get c with bytes:=b}) rfl];exact h.slK hk a b' e
 ·rw[aP (by omega)];exact h.md
 ·rw[aP (by omega),aP (by omega)];exact h.wldK hz hk h.wld
 ·rw[mX hcl']
  by_cases e:c=d
  ·subst e;rw[dQ,if_pos rfl]
  ·rw[aP (by omega),if_neg e];exact h.bytes d hd
 ·rw[aP (by omega),gs];exact h.has d hd
 ·rw[aP (by omega)];simp only[gs];exact h.srv d hd
 ·rw[aP (by omega)];exact h.lstK hz hk (h.set d hd)
 ·rw[aP (by omega)];exact h.lstK hz hk (h.prep d hd)
theorem PMem.setNone (h:PMem 0 w base P f G mode m){c:Nat}(hc:c<6)(hcl:m.cl.length=6):PMem 0 (w.setCell ⟨P,4+c*6+2,none⟩ (.bool false)) base P (aL f (4+c*6+2) (.bool false)) G mode (m.set c {m.get c with srv:=none}):=by
 have hk:=cM w P (4+c*6+2) (.bool false);have hz:=cT w ⟨P,4+c*6+2,none⟩ (.bool false);have hcl':c<m.cl.length:=by omega
 refine⟨h.row.set _ _,h.p0,h.loK hz,h.inj,fun k a b' e=>?_,?_,?_,fun d hd=>?_,fun d hd=>?_,fun d hd=>?_,fun d hd=>?_,fun d hd=>?_⟩
 ·have:=pB (c:=c) a b' hc;rw[aP this.2.2.2.2.1,xC hcl' (x:={m.get c with srv:=none}) rfl];exact h.slK hk a b' e
 ·rw[aP (by omega)];exact h.md
 ·rw[aP (by omega),aP (by omega)];exact h.wldK hz hk h.wld
 ·rw[aP (by omega),mX hcl']
  by_cases e:c=d
  ·subst e;rw[if_pos rfl];exact h.bytes c hd
  ·rw[if_neg e];exact h.bytes d hd
 ·rw[mX hcl']
  by_cases e:c=d
  ·subst e;rw[dQ,if_pos rfl];rfl
  ·rw[aP (by omega),if_neg e];exact h.has d hd
 ·rw[aP (by omega),mX hcl'];obtain⟨q,hq,hs⟩:=h.srv d hd;refine⟨q,hq,fun s hs'=>?_⟩
  by_cases e:c=d
  ·rw[if_pos e]at hs';cases hs'
  ·rw[if_neg e]at hs';exact hs s hs'
 ·rw[aP (by omega)];exact h.lstK hz hk (h.set d hd)
 ·rw[aP (by omega)];exact h.lstK hz hk (h.prep d hd)
theorem PMem.setSrv (h:PMem 0 w base P f G mode m){c:Nat}(hc:c<6)(hcl:m.cl.length=6)(s:Nat):PMem 0 ((w.setCell ⟨P,4+c*6+2,none⟩ (.bool true)).setCell ⟨P,4+c*6+3,none⟩ (.int .i64 s)) base P (aL (aL f (4+c*6+2) (.bool true)) (4+c*6+3) (.int .i64 s)) G mode (m.set c {m.get c with srv:=some s}):=by
 have hk: ∀b,b≠P->((w.setCell ⟨P,4+c*6+2,none⟩ (.bool true)).setCell ⟨P,4+c*6+3,none⟩ (.int .i64 s)).heap[b]? =w.heap[b]? :=fun b hb=>(cM _ P (4+c*6+3) _ b hb).trans (cM w P (4+c*6+2) _ b hb)
 have hz:((w.setCell ⟨P,4+c*6+2,none⟩ (.bool true)).setCell ⟨P,4+c*6+3,none⟩ (.int .i64 s)).heap.size=w.heap.size:=by rw[cT,cT]
 have hcl':c<m.cl.length:=by omega
 refine⟨(h.row.set _ _).set _ _,h.p0,h.loK hz,h.inj,fun k a b' e=>?_,?_,?_,fun d hd=>?_,fun d hd=>?_,fun d hd=>?_,fun d hd=>?_,fun d hd=>?_⟩
 ·have:=pB (c:=c) a b' hc;rw[aP this.2.2.2.2.2.1,aP this.2.2.2.2.1,xC hcl' (x:={m.get c with srv:=some s}) rfl];exact h.slK hk a b' e
 ·rw[aP (by omega),aP (by omega)];exact h.md
 ·rw[aP (by omega),aP (by omega),aP (by omega),aP (by omega)];exact h.wldK hz hk h.wld
 ·rw[aP (by omega),aP (by omega),mX hcl']
  by_cases e:c=d
  ·subst e;rw[if_pos rfl];exact h.bytes c hd
  ·rw[if_neg e];exact h.bytes d hd
 ·rw[aP (by omega),mX hcl']
  by_cases e:c=d
  ·subst e;rw[dQ,if_pos rfl];rfl
  ·rw[aP (by omega),if_neg e];exact h.has d hd
 ·rw[mX hcl']
  by_cases e:c=d
  ·subst e;rw[dQ,if_pos rfl];exact⟨s,rfl,fun s' hs'=>by injection hs' with hs';rw[hs']⟩
  ·rw[aP (by omega),aP (by omega),if_neg e];exact h.srv d hd
 ·rw[aP (by omega),aP (by omega)];exact h.lstK hz hk (h.set d hd)
 ·rw[aP (by omega),aP (by omega)];exact h.lstK hz hk (h.prep d hd)
theorem PMem.setWorld (h:PMem 0 w base P f G mode m){r s:Value}{W:Wd}(hw:WldP w (cX G) r s W):PMem 0 ((w.setCell ⟨P,1,none⟩ r).setCell ⟨P,2,none⟩ s) base P (aL (aL f 1 r) 2 s) G mode {m with e:=⟨W,m.e.kept⟩}:=by
 have hk: ∀b,b≠P->((w.setCell ⟨P,1,none⟩ r).setCell ⟨P,2,none⟩ s).heap[b]? =w.heap[b]? :=fun b hb=>(cM _ P 2 _ b hb).trans (cM w P 1 _ b hb)
 have hz:((w.setCell ⟨P,1,none⟩ r).setCell ⟨P,2,none⟩ s).heap.size=w.heap.size:=by rw[cT,cT]
 refine⟨(h.row.set _ _).set _ _,h.p0,h.loK hz,h.inj,fun k a b' e=>?_,?_,?_,fun d hd=>?_,fun d hd=>?_,fun d hd=>?_,fun d hd=>?_,fun d hd=>?_⟩
 ·have:=pB (c:=0) a b' (by omega);rw[aP this.2.2.1,aP this.2.1,qAq rfl rfl rfl rfl rfl];exact h.slK hk a b' e
 ·rw[aP (by omega),aP (by omega)];exact h.md
 ·rw[aP (by omega),dQ,dQ];exact h.wldK hz hk hw
 ·rw[aP (by omega),aP (by omega)];exact h.bytes d hd
 ·rw[aP (by omega),aP (by omega)];exact h.has d hd
 ·rw[aP (by omega),aP (by omega)];exact h.srv d hd
 ·rw[aP (by omega),aP (by omega)];exact h.lstK hz hk (h.set d hd)
 ·rw[aP (by omega),aP (by omega)];exact h.lstK hz hk (h.prep d hd)
theorem tK {e:PE}{c d:Nat}(hc:c<e.kept.length)(p:PL×PL):PE.of ⟨e.w,e.kept.set c p⟩ d=if c=d then p else e.of d:=by
 unfold PE.of;simp only;rw[jW];by_cases h:c=d
 ·rw[if_pos ⟨h,hc⟩,if_pos h]
 ·rw[if_neg (fun h'=>h h'.1),if_neg h]
theorem PMem.setLists (h:PMem 0 w base P f G mode m){c:Nat}(hc:c<6)(hkl:m.e.kept.length=6){v1 v2:Value}{l1 l2:PL}(h1:Lst w w.heap.size v1 l1/\InP (cX G) v1 l1)(h2:Lst w w.heap.size v2 l2/\InP (cX G) v2 l2):
  PMem 0 ((w.setCell ⟨P,4+c*6+4,none⟩ v1).setCell ⟨P,4+c*6+5,none⟩ v2) base P (aL (aL f (4+c*6+4) v1) (4+c*6+5) v2) G mode {m with e:=⟨m.e.w,m.e.kept.set c (l1,l2)⟩}:=by
 have hk: ∀b,b≠P->((w.setCell ⟨P,4+c*6+4,none⟩ v1).setCell ⟨P,4+c*6+5,none⟩ v2).heap[b]? =w.heap[b]? :=fun b hb=>(cM _ P (4+c*6+5) _ b hb).trans (cM w P (4+c*6+4) _ b hb)
 have hz:((w.setCell ⟨P,4+c*6+4,none⟩ v1).setCell ⟨P,4+c*6+5,none⟩ v2).heap.size=w.heap.size:=by rw[cT,cT]
 have hc':c<m.e.kept.length:=by omega
 refine⟨(h.row.set _ _).set _ _,h.p0,h.loK hz,h.inj,fun k a b' e=>?_,?_,?_,fun d hd=>?_,fun d hd=>?_,fun d hd=>?_,fun d hd=>?_,fun d hd=>?_⟩
 ·have:=pB (c:=c) a b' hc;rw[aP this.2.2.2.2.2.2.2,aP this.2.2.2.2.2.2.1,qAq rfl rfl rfl rfl rfl];exact h.slK hk a b' e
 ·rw[aP (by omega),aP (by omega)];exact h.md
 ·rw[aP (by omega),aP (by omega),aP (by omega),aP (by omega)];exact h.wldK hz hk h.wld
 ·rw[aP (by omega),aP (by omega)];exact h.bytes d hd
 ·rw[aP (by omega),aP (by omega)];exact h.has d hd
 ·rw[aP (by omega),aP (by omega)];exact h.srv d hd
 ·rw[aP (by omega),show({m with e:=⟨m.e.w,m.e.kept.set c (l1,l2)⟩}:Mach PE).e.of d=if c=d then(l1,l2)else m.e.of d from tK hc' _]
  by_cases e:c=d
  ·subst e;rw[dQ,if_pos rfl];exact h.lstK hz hk h1
  ·rw[aP (by omega),if_neg e];exact h.lstK hz hk (h.set d hd)
 ·rw[show({m with e:=⟨m.e.w,m.e.kept.set c (l1,l2)⟩}:Mach PE).e.of d=if c=d then(l1,l2)else m.e.of d from tK hc' _]
  by_cases e:c=d
  ·subst e;rw[dQ,if_pos rfl];exact h.lstK hz hk h2
  ·rw[aP (by omega),aP (by omega),if_neg e];exact h.lstK hz hk (h.prep d hd)
end
def mY (w:World)(P o:Nat):World:=(((((w.setCell ⟨P,o,none⟩ (.string ⟨#[]⟩)).setCell ⟨P,o+1,none⟩ (.slice none 0 0)).setCell ⟨P,o+2,none⟩ (.bool false)).setCell ⟨P,o+3,none⟩ (.int .i64 0)).setCell ⟨P,o+4,none⟩ (.slice none 0 0)).setCell ⟨P,o+5,none⟩ (.slice none 0 0)
def lK (f:Nat->Value)(o:Nat):Nat->Value:=aL (aL (aL (aL (aL (aL f o (.string ⟨#[]⟩)) (o+1) (.slice none 0 0)) (o+2) (.bool false)) (o+3) (.int .i64 0)) (o+4) (.slice none 0 0)) (o+5) (.slice none 0 0)
section
variable {w w':World}{base P:Nat}{f:Nat->Value}{G:Nat->Option Nat}{mode:Int}{m m':Mach PE}
theorem mG {o i:Nat}(h:i<o\/o+5<i):lK f o i=f i:=by
 unfold lK;rw[aP (by omega),aP (by omega),aP (by omega),aP (by omega),aP (by omega),aP (by omega)]
theorem hAb {o:Nat}:lK f o o= .string ⟨#[]⟩/\lK f o (o+1)= .slice none 0 0/\lK f o (o+2)= .bool false/\lK f o (o+3)= .int .i64 0/\lK f o (o+4)= .slice none 0 0/\lK f o (o+5)= .slice none 0 0:=by
 unfold lK;refine⟨?_,?_,?_,?_,?_,dQ⟩
 ·rw[aP (by omega),aP (by omega),aP (by omega),aP (by omega),aP (by omega),dQ]
 ·rw[aP (by omega),aP (by omega),aP (by omega),aP (by omega),dQ]
 ·rw[aP (by omega),aP (by omega),aP (by omega),dQ]
 ·rw[aP (by omega),aP (by omega),dQ]
 ·rw[aP (by omega),dQ]
theorem qAr (w:World)(B:Nat):Lst w B (.slice none 0 0) []:=⟨⟨none,0,rfl,aI _⟩,by simp,by simp,fun h=>absurd h (by simp),fun n c h=>by injection h with _ _ h;exact h.symm⟩
theorem qU {k b:Nat}(h:cX G b):cX (aL G k none) b:=fun i=>by
 unfold aL;split
 ·simp
 ·exact h i
theorem hAc {k c:Nat}(h1:1<=k)(h2:k<=15)(hc:c<6)(hne:k≠2+c):cO k<4+c*6\/4+c*6+5<cO k:=by
 unfold cO
 repeat' split
 all_goals omega
theorem PMem.clear (h:PMem 0 w base P f G mode m){c:Nat}(hc:c<6)(hcl:m.cl.length=6)(hkl:m.e.kept.length=6):
  PMem 0 (mY w P (4+c*6)) base P (lK f (4+c*6)) (aL G (2+c) none) mode {m with cl:=m.cl.set c Cl.new,e:=⟨m.e.w,m.e.kept.set c ([],[])⟩}:=by
 have hk: ∀b,b≠P->(mY w P (4+c*6)).heap[b]? =w.heap[b]? :=fun b hb=>by
  unfold mY;rw[cM _ P _ _ b hb,cM _ P _ _ b hb,cM _ P _ _ b hb,cM _ P _ _ b hb,cM _ P _ _ b hb,cM _ P _ _ b hb]
 have hz:(mY w P (4+c*6)).heap.size=w.heap.size:=by unfold mY;rw[cT,cT,cT,cT,cT,cT]
 have hcl':c<m.cl.length:=by omega
 have hc':c<m.e.kept.length:=by omega
 have gt: ∀d,({m with cl:=m.cl.set c Cl.new,e:=⟨m.e.w,m.e.kept.set c ([],[])⟩}:Mach PE).get d=if c=d then Cl.new else m.get d:=fun d=>cZ (m:=m) hcl'
 have at6:=hAb (f:=f) (o:=4+c*6);have up: ∀i,i≠2+c->aL G (2+c) none i=G i:=fun i hi=>by unfold aL;rw[if_neg hi]
 have upX:aL G (2+c) none (2+c)=none:=by unfold aL;rw[if_pos rfl]
 have sub: ∀i b,aL G (2+c) none i=some b->G i=some b:=fun i b hb=>by
  by_cases e:i=2+c
  ·rw[e,upX]at hb;cases hb
  ·rw[up i e]at hb;exact hb
 refine⟨(((((h.row.set _ _).set _ _).set _ _).set _ _).set _ _).set _ _,by rw[up 0 (by omega)];exact h.p0,fun i b hb=>h.loK hz i b (sub i b hb),fun i j b hi hj=>h.inj i j b (sub i b hi) (sub j b hj),fun k a b' e=>?_,?_,?_,fun d hd=>?_,fun d hd=>?_,fun d hd=>?_,fun d hd=>?_,fun d hd=>?_⟩
 ·by_cases ek:k=2+c
  ·subst ek;have e1:cO (2+c)=4+c*6+1:=by unfold cO;rw[if_neg (by omega),if_pos (by omega)];omega
   have e2:cG ({m with cl:=m.cl.set c Cl.new,e:=⟨m.e.w,m.e.kept.set c ([],[])⟩}:Mach PE) (2+c)=[]:=by
    unfold cG;rw[if_neg (by omega),if_pos (by omega),gt,if_pos (by omega)];rfl
   rw[upX,e1,e2,at6.2.1];exact Sl.nil_ _ _ _
  ·have e2:cG ({m with cl:=m.cl.set c Cl.new,e:=⟨m.e.w,m.e.kept.set c ([],[])⟩}:Mach PE) k=cG m k:=by
    unfold cG;rw[gt]
    by_cases ek':k=1
    ·rw[if_pos ek',if_pos ek']
    ·rw[if_neg ek',if_neg ek']
     by_cases e8:k<8
     ·rw[if_pos e8,if_pos e8,if_neg (by omega)]
     ·rw[if_neg e8,if_neg e8]
   rw[up k ek,mG (hAc a b' hc ek),e2];exact h.slK hk a b' e
 ·rw[mG (by omega)];exact h.md
 ·rw[mG (by omega),mG (by omega)];exact(h.wldK hz hk h.wld).mono fun b hb=>qU hb
 ·rw[gt]
  by_cases e:c=d
  ·subst e;rw[at6.1,if_pos rfl];rfl
  ·rw[mG (by omega),if_neg e];exact h.bytes d hd
 ·rw[gt]
  by_cases e:c=d
  ·subst e;rw[at6.2.2.1,if_pos rfl];rfl
  ·rw[mG (by omega),if_neg e];exact h.has d hd
 ·rw[gt]
  by_cases e:c=d
  ·subst e;rw[at6.2.2.2.1,if_pos rfl];exact⟨0,rfl,fun s hs=>by cases hs⟩
  ·rw[mG (by omega),if_neg e];exact h.srv d hd
 ·rw[show({m with cl:=m.cl.set c Cl.new,e:=⟨m.e.w,m.e.kept.set c ([],[])⟩}:Mach PE).e.of d=if c=d then([],[])else m.e.of d from tK hc' _]
  by_cases e:c=d
  ·subst e;rw[at6.2.2.2.2.1,if_pos rfl];exact⟨qAr _ _,InP.nil_ _ _⟩
  ·rw[mG (by omega),if_neg e];have:=h.lstK hz hk (h.set d hd);exact⟨this.1,this.2.mono fun b hb=>qU hb⟩
 ·rw[show({m with cl:=m.cl.set c Cl.new,e:=⟨m.e.w,m.e.kept.set c ([],[])⟩}:Mach PE).e.of d=if c=d then([],[])else m.e.of d from tK hc' _]
  by_cases e:c=d
  ·subst e;rw[at6.2.2.2.2.2,if_pos rfl];exact⟨qAr _ _,InP.nil_ _ _⟩
  ·rw[mG (by omega),if_neg e];have:=h.lstK hz hk (h.prep d hd);exact⟨this.1,this.2.mono fun b hb=>qU hb⟩
end
def cC (P o:Nat):Value:= .pointer (some ⟨P,o,none⟩)
theorem qAs (P:Nat)(mode k:Int)(key val:ByteArray)(w:World)(h0:w.cell? ⟨P,0,none⟩=some (.int .i64 mode))(hP:P<w.heap.size):
  Calls Tryz.prog 118 #[cC P 0,.agg #[.int .i64 k,.string key,.string val]] w fun e w'=>e= .returned (.string (fG mode ⟨k,key,val⟩))/\Below w.heap.size w w':=by
 have nn:=(aD w.heap.size w).alloc (aI _) (.cells #[.int .i64 k,.string key,.string val] 41);have HN:=aA nn;unfold cC
 by_cases h1:k=0
 ·have t1:(k==0)=true:=by simp[h1]
  have HE:=aA (show fG mode ⟨k,key,val⟩=nV by unfold fG;rw[if_pos h1]);clear h1 nn;go_enter Tryz.func118,Tryz.ntmps118;go_wp2;go_ret;exact⟨by rw[HE.out];rfl,HN.out⟩
 have t1:(k==0)=false:=by simp[h1]
 by_cases h2:k=1
 ·have t2:(k==1)=true:=by simp[h2]
  by_cases h3:mode=3
  ·have t3:(mode==3)=true:=by simp[h3]
   have HE:=aA (show fG mode ⟨k,key,val⟩=nW by unfold fG;rw[if_neg h1,if_pos ⟨h2,h3⟩]);clear h1 h2 h3 nn;go_enter Tryz.func118,Tryz.ntmps118;go_wp2;go_ret;exact⟨by rw[HE.out];rfl,HN.out⟩
  ·have t3:(mode==3)=false:=by simp[h3]
   have HE:=aA (show fG mode ⟨k,key,val⟩=⟨#[]⟩ by unfold fG;rw[if_neg h1,if_neg (fun h=>h3 h.2)]);clear h1 h2 h3 nn;go_enter Tryz.func118,Tryz.ntmps118;go_wp2;go_ret;exact⟨by rw[HE.out];rfl,HN.out⟩
 have t2:(k==1)=false:=by simp[h2]
 have HE:=aA (show fG mode ⟨k,key,val⟩=⟨#[]⟩ by unfold fG;rw[if_neg h1,if_neg (fun h=>h2 h.1)]);clear h1 h2 nn;go_enter Tryz.func118,Tryz.ntmps118;go_wp2;go_ret;exact⟨by rw[HE.out];rfl,HN.out⟩
section
variable {base P:Nat}{f:Nat->Value}{G:Nat->Option Nat}{mode:Int}{m:Mach PE}
theorem xD (w:World)(h:PMem 0 w base P f G mode m)(hm:MOk mode m)(hp:m.e.w.ss.length=m.busy.length){c:Nat}(hc:c<6):
  Calls Tryz.prog 74 #[cC P 0,cC P (4+c*6)] w fun e w'=>e= .returned (.int .i64 (m.e.state (m.get c).srv))/\ ∃n,w'=w.drewN n:=by
 have h2:=h.row.cell (j:=4+c*6+2) (by omega);have h3:=h.row.cell (j:=4+c*6+3) (by omega);have h5:=h.row.cell (j:=2) (by omega);rw[h.has c hc]at h2;obtain⟨q,hq,hqs⟩:=h.srv c hc;rw[hq]at h3;have hP:=h.row.lt;unfold cC
 cases hs:(m.get c).srv with
 |none=>
  have HE:=aA (show m.e.state none=0 from rfl);rw[hs]at h2;simp only[Option.isSome]at h2;clear hqs hs hq;go_enter Tryz.func74,Tryz.ntmps74;go_wp2;go_ret;exact⟨by rw[HE.out];rfl,0,rfl⟩
 |some s=>
  have HE:=aA (show m.e.state (some s)=(m.e.w.at s).st from rfl);rw[hs]at h2;simp only[Option.isSome]at h2;have hb:=(fN.1 (hm.srv c s hs)).1;have hlt:s<m.e.w.ss.length:=by omega
  obtain rfl:=hqs s hs;obtain⟨A,cc,hv,_⟩:=h.wld.wld.sess.form;rw[hv]at h5;have hss:=h.wld.wld.sess;rw[hv]at hss;obtain⟨g,o,v1,v2,v3,v4,rfl,hg,sA⟩:=hss.pt hlt;have s0:=sA.c0;rw[<-iQ hlt]at s0;have hbd:=hss.bytes;clear hqs hs hq hv hss sA h hm hp hb;generalize m.e.w.ss.length=n at*;go_enter Tryz.func74,Tryz.ntmps74;go_wp2
  go_quiet (fail)
  go_wp2;go_ret;exact⟨by rw[HE.out];rfl,_,rfl⟩
end
theorem EndR.wldP {w:World}{base X S:Nat}{r:Value}{W:Wd}(h:EndR w base X S r W):WldP w (fun b=>base<=b) r (slc S W.ss.length W.ss.length) W:=by
 obtain⟨hbox,hw,hlr⟩:=h.box;refine⟨hw,fun _ b off n c e=>hlr ⟨b,off,none⟩ n c e,fun hn b off n c e=>?_⟩;unfold slc at e;injection e with e;injection e with e;injection e with e1 e2;subst e1 e2;refine⟨h.loS,fun k j v hk hj hv _ b off n c e=>?_⟩;rw[cW]at hv;exact h.los k j v hk hj hv ⟨b,off,none⟩ n c e
theorem hAd (r s:Value)(W:Wd)(i:Nat)(k:Int)(key val:ByteArray)(w:World)(hW:Wld w w.heap.size r s W)(hWo:Words w)(hkz:key.size<=maxLen)(hvz:val.size<=maxLen)(he:kK W i k key val=0):
  Calls Tryz.prog 23 #[.agg #[r,s],.int .i64 i,.agg #[.int .i64 k,.string key,.string val]] w fun e w'=> ∃r' s',e= .returned (iV r' s' (doM W i k key val).2 ((doM W i k key val).1.at i).st)/\WldP w' (fun b=>w.heap.size<=b) r' s' (doM W i k key val).1/\Below w.heap.size w w':=by
 obtain⟨A,c,rfl,hc⟩:=hW.sess.form;obtain⟨D,d,rfl,hd⟩:=hW.rows.form;have HW:=aA hW;have HWo:=aA hWo;have t:(kK W i k key val !=0)=false:=bne_eq_false_iff_eq.2 he
 obtain⟨hwb,hi,hchk⟩:iA W=true/\i<W.ss.length/\bZ k key val=0:=by
  unfold kK at he
  split at he
  ·cases he
  ·rename_i h1
   split at he
   ·cases he
   ·rename_i h2
    exact⟨by simpa using h1,by omega,he⟩
 have hwo:=kA0.1 hwb;have hz:=dN hwo;have HZ:=aA hz;have HK:=aA hchk;have HWK:=aA hwo;clear hwb hwo hz hchk;have H0:=aA (sZ w (.slice D W.rows.length d) (.slice A W.ss.length c) k key val);clear hW hWo he;go_enter Tryz.func23,Tryz.ntmps23;go_wp2_with fail;refine(uA6 _ _ W i k key val _ (HW.out.step H0.out.bel) (HWo.out.below H0.out.bel) hkz hvz).mono ?_;rintro e w1 ⟨rfl,hb1⟩;have h1:=H0.out.below hb1;have x0:=h1.X.cell (j:=0) (by simp);have x1:=h1.X.cell (j:=1) (by simp);have y0:=h1.Y.cell (j:=0) (by simp);have y1:=h1.Y.cell (j:=1) (by simp);have y2:=h1.Y.cell (j:=2) (by simp);simp only[aB,aC]at x0 x1 y0 y1 y2;have H1:=aA h1;clear hb1 h1;go_wp2_with fail;refine(uAa _ _ W _ (HW.out.step H1.out.bel)).mono ?_;rintro e w2 ⟨gR,S,G,rfl,hown,hb2⟩;have h2:=H1.out.below hb2;have hD:=hown.ownD h2.X (by have:=H1.out.size;omega) HZ.out;have hlo:LoD w.heap.size w.heap.size S gR G W.ss.length:=⟨aI _,by have:=hown.loS;have:=H1.out.size;omega,by have:=hown.loR;have:=H1.out.size;omega,fun i j hi hj=>by have:=hown.sess.lo i j hi hj;have:=H1.out.size;omega⟩;have HD:=aA hD;have HO:=aA hown;have H2:=aA h2;have HLO:=aA hlo;obtain⟨u0,x0⟩:=h2.X.any (j:=0) (by omega);obtain⟨u1,x1⟩:=h2.X.any (j:=1) (by omega);have f0:=h2.X.frozen 0;have f1:=h2.X.frozen 1;have y0:=h2.Y.cell (j:=0) (by simp);have y1:=h2.Y.cell (j:=1) (by simp);have y2:=h2.Y.cell (j:=2) (by simp);simp only[aB,aC]at y0 y1 y2;clear hb2 h2 hD hown hlo;unfold sl at HD ⊢;go_wp2_with fail;have hfine:=wN HWK.out hi HK.out;have htx:=(wQ HWK.out hi k key val).len;obtain⟨q,hq⟩: ∃q,q=didM W i k key val:=⟨_,rfl⟩;have HE:=aA (jAv w.heap.size w.heap.size S gR W.rows.length G (fun i j=>((W.at i).li j).length) W i k key val _ HD.out HLO.out HWK.out (by have:=H2.out.size;simp[cE];omega) hi HK.out (HWo.out.below ((H2.out.bel.setCell (aI _) _).setCell (aI _) _)));rw[<-hq]at HE hfine htx;refine HE.out.mono ?_;rintro e w4 hp;obtain rfl:=hp.1;have hsz: ∀u v,((w2.setCell ⟨w.heap.size,0,none⟩ u).setCell ⟨w.heap.size,1,none⟩ v).heap.size=w2.heap.size:=fun u v=>by simp[cE]
 have hrest: ∀b,w.heap.size<b->b<w.heap.size+1+1+1+1->w4.heap[b]? =w2.heap[b]? :=fun b h1 h2=>by
  have h3:=H2.out.size;have h4:=HO.out.loS;have h5:=HO.out.loR;have h6:=H1.out.size;rw[hp.2.2.2 b (by rw[hsz];omega) (by omega) (by omega) (by omega) (fun i j hi hj=>by have:=HO.out.sess.lo i j hi hj;omega),bF _ _ _ _ (by show b≠w.heap.size;omega),bF _ _ _ _ (by show b≠w.heap.size;omega)]
 have R4:=H2.out.R.same (hrest _ (by omega) (by omega));have A4:=H2.out.A.same (hrest _ (by omega) (by omega));obtain⟨rv,hEnd⟩:=hp.2.1.r;have hBel:Below w.heap.size w w4:=((H2.out.bel.setCell (aI _) _).setCell (aI _) _).trans hp.2.2.1;obtain⟨hbox,hwl,hlr⟩:=hEnd.box;have hqi:i<q.1.ss.length:=by rw[hfine.2];exact hi
 obtain⟨v1,v2,v3,v4,hses⟩:=hEnd.sess hqi;have hsi:=hses.c0;obtain⟨rA,rc,rfl,_⟩:=hwl.rows.form;have z0:=hbox.cell (j:=0) (by simp);have z1:=hbox.cell (j:=1) (by simp);simp only[aB,aC]at z0 z1;unfold slc at z1;have hqi':(i:Int)<(q.1.ss.length:Int):=by omega
 have hSw:=hEnd.blk.lt;have hXw:=hbox.lt;have fS0:=hEnd.blk.frozen (i*5);have fS4:=hEnd.blk.frozen (i*5+4);obtain⟨u4,uS4⟩:=hEnd.blk.any (j:=i*5+4) (by omega);have hRw:=R4.lt;have hAw:=A4.lt;have hXS:w.heap.size≠S:=fun e=>by have:=HO.out.loS;have:=H1.out.size;omega
 have HP:=aA hEnd;have HB:=aA hBel;have HR:=aA R4;have HA:=aA A4;have HF:=aA hfine;have HQ:=aA hq;clear hp hrest R4 A4 hEnd hBel hbox hwl hlr hses hfine hq HE hsz x0 x1 f0 f1 y0 y1 y2;unfold bQ;have hRS:w.heap.size+1+1≠S:=fun e=>by have:=HO.out.loS;have:=H1.out.size;omega
 have hRS3:w.heap.size+1+1+1≠S:=fun e=>by have:=HO.out.loS;have:=H1.out.size;omega
 by_cases hcase:q.2.kind=4/\q.1.ss[i].st=1
 ·have c1:(q.2.kind==4)=true:=beq_iff_eq.2 hcase.1;have c2:(q.1.ss[i].st==1)=true:=beq_iff_eq.2 hcase.2;have HC:=aA hcase;clear hcase;go_wp2;have hE5:=(HP.out.failed hqi hXS).below ((aD _ _).alloc (aI _) (.cells #[.int .i64 q.2.kind,.string q.2.text,.int .i64 0] 46));have hR5:=((HR.out.other (p:=⟨S,i*5,none⟩) (fun e=>hRS e.symm) (.int .i64 2)).other (p:=⟨S,i*5+4,none⟩) (fun e=>hRS e.symm) (.slice none 0 0)).alloc (.cells #[.int .i64 q.2.kind,.string q.2.text,.int .i64 0] 46);have hA5':=((HA.out.other (p:=⟨S,i*5,none⟩) (fun e=>hRS3 e.symm) (.int .i64 2)).other (p:=⟨S,i*5+4,none⟩) (fun e=>hRS3 e.symm) (.slice none 0 0)).alloc (.cells #[.int .i64 q.2.kind,.string q.2.text,.int .i64 0] 46);have hB5:=((HB.out.setCell (p:=⟨S,i*5,none⟩) HLO.out.s (.int .i64 2)).setCell (p:=⟨S,i*5+4,none⟩) HLO.out.s (.slice none 0 0)).alloc (by simp[cE];omega) (.cells #[.int .i64 q.2.kind,.string q.2.text,.int .i64 0] 46);have hz5:(((w4.setCell ⟨S,i*5,none⟩ (.int .i64 2)).setCell ⟨S,i*5+4,none⟩ (.slice none 0 0)).alloc (.cells #[.int .i64 q.2.kind,.string q.2.text,.int .i64 0] 46)).heap.size=w4.heap.size+1:=by simp[cE]
  have hNew:=RowTo.whole ((w4.setCell ⟨S,i*5,none⟩ (.int .i64 2)).setCell ⟨S,i*5+4,none⟩ (.slice none 0 0)) #[.int .i64 q.2.kind,.string q.2.text,.int .i64 0] 46;rw[show((w4.setCell ⟨S,i*5,none⟩ (.int .i64 2)).setCell ⟨S,i*5+4,none⟩ (.slice none 0 0)).heap.size=w4.heap.size by simp[cE]]at hNew;have hq5:i<(q.1.put i {q.1.ss[i]with st:=2,wr:=[]}).ss.length:=by rw[eY];exact hqi
  have hst5:(q.1.put i {q.1.ss[i]with st:=2,wr:=[]}).ss[i].st=2:=by simp[Wd.put]
  obtain⟨u1,u2,u3,u5,hs5⟩:=hE5.sess hq5;have s0:=hs5.c0;rw[hst5]at s0;have zn: ∀j u,w4.cell? ⟨w.heap.size,j,none⟩=some u->(((w4.setCell ⟨S,i*5,none⟩ (.int .i64 2)).setCell ⟨S,i*5+4,none⟩ (.slice none 0 0)).alloc (.cells #[.int .i64 q.2.kind,.string q.2.text,.int .i64 0] 46)).cell? ⟨w.heap.size,j,none⟩=some u:=fun j u h=>by rw[World.cell?_alloc_lt _ _ _ (by simp[cE];omega),jS _ _ _ _ (fun e=>by injection e with e;exact hXS e.symm),jS _ _ _ _ (fun e=>by injection e with e;exact hXS e.symm)];exact h
  have z0:=zn 0 _ z0;have z1:=zn 1 _ z1;have a0:=hNew.cell (j:=0) (by simp);have a1:=hNew.cell (j:=1) (by simp);simp only[aB,aC]at a0 a1;have hX5:w.heap.size<(((w4.setCell ⟨S,i*5,none⟩ (.int .i64 2)).setCell ⟨S,i*5+4,none⟩ (.slice none 0 0)).alloc (.cells #[.int .i64 q.2.kind,.string q.2.text,.int .i64 0] 46)).heap.size:=by rw[hz5];omega
  have hA5:w4.heap.size<(((w4.setCell ⟨S,i*5,none⟩ (.int .i64 2)).setCell ⟨S,i*5+4,none⟩ (.slice none 0 0)).alloc (.cells #[.int .i64 q.2.kind,.string q.2.text,.int .i64 0] 46)).heap.size:=by rw[hz5];omega
  have hS5:S<(((w4.setCell ⟨S,i*5,none⟩ (.int .i64 2)).setCell ⟨S,i*5+4,none⟩ (.slice none 0 0)).alloc (.cells #[.int .i64 q.2.kind,.string q.2.text,.int .i64 0] 46)).heap.size:=by rw[hz5];omega
  have HDM:=aA (show doM W i k key val=(q.1.put i {q.1.ss[i]with st:=2,wr:=[]},q.2) by rw[doM,<-HQ.out];simp only[fY hqi];rw[if_pos HC.out]);have hXR:w.heap.size≠w.heap.size+1+1:=by omega
  have hAR:w4.heap.size≠w.heap.size+1+1:=by omega
  have hSR:S≠w.heap.size+1+1:=fun e=>hRS e.symm
  have hXA:w.heap.size≠w.heap.size+1+1+1:=by omega
  have hAA:w4.heap.size≠w.heap.size+1+1+1:=by omega
  have hSA:S≠w.heap.size+1+1+1:=fun e=>hRS3 e.symm
  have HR5:=aA hR5;have HA5:=aA hA5';have HE5:=aA hE5;have HB5:=aA hB5;have hRw5:=hR5.lt;have hAw5:=hA5'.lt;clear hR5 hA5' hE5 hB5 zn hz5 hNew hs5 hst5 hq5;generalize((w4.setCell ⟨S,i*5,none⟩ (.int .i64 2)).setCell ⟨S,i*5+4,none⟩ (.slice none 0 0)).alloc (.cells #[.int .i64 q.2.kind,.string q.2.text,.int .i64 0] 46)=W5 at*;have kb:=aD W5.heap.size W5;have HS:=aA (show W5.drew.cell? ⟨w.heap.size,0,none⟩=some (.slice rA q.1.rows.length rc)/\W5.drew.cell? ⟨w.heap.size,1,none⟩=some (.slice (some ⟨S,0,none⟩) q.1.ss.length q.1.ss.length)/\W5.drew.cell? ⟨w4.heap.size,0,none⟩=some (.int .i64 q.2.kind)/\W5.drew.cell? ⟨w4.heap.size,1,none⟩=some (.string q.2.text)/\W5.drew.cell? ⟨S,i*5,none⟩=some (.int .i64 2)from⟨z0,z1,a0,a1,s0⟩)
  go_region_held3 (fun wx=>wx.cell? ⟨w.heap.size,0,none⟩=some (.slice rA q.1.rows.length rc)/\wx.cell? ⟨w.heap.size,1,none⟩=some (.slice (some ⟨S,0,none⟩) q.1.ss.length q.1.ss.length)/\wx.cell? ⟨w4.heap.size,0,none⟩=some (.int .i64 q.2.kind)/\wx.cell? ⟨w4.heap.size,1,none⟩=some (.string q.2.text)/\wx.cell? ⟨S,i*5,none⟩=some (.int .i64 2))
   (first
    |with_reducible exact⟨z0,z1,a0,a1,s0⟩
    |with_reducible exact HS.out
    |with_reducible exact⟨(kb.cell (p:=⟨w.heap.size,0,none⟩) hX5).trans z0,(kb.cell (p:=⟨w.heap.size,1,none⟩) hX5).trans z1,(kb.cell (p:=⟨w4.heap.size,0,none⟩) hA5).trans a0,(kb.cell (p:=⟨w4.heap.size,1,none⟩) hA5).trans a1,(kb.cell (p:=⟨S,i*5,none⟩) hS5).trans s0⟩
    |with_reducible exact⟨iB (eD ((kb.cell (p:=⟨w.heap.size,0,none⟩) hX5).trans z0) hXR) hXA,iB (eD ((kb.cell (p:=⟨w.heap.size,1,none⟩) hX5).trans z1) hXR) hXA,iB (eD ((kb.cell (p:=⟨w4.heap.size,0,none⟩) hA5).trans a0) hAR) hAA,iB (eD ((kb.cell (p:=⟨w4.heap.size,1,none⟩) hA5).trans a1) hAR) hAA,iB (eD ((kb.cell (p:=⟨S,i*5,none⟩) hS5).trans s0) hSR) hSA⟩
    | with_reducible exact ⟨eD ((kb.cell (p := ⟨w.heap.size, 0, none⟩) hX5).trans z0) hXR, eD ((kb.cell (p := ⟨w.heap.size, 1, none⟩) hX5).trans z1) hXR, eD ((kb.cell (p := ⟨w4.heap.size, 0, none⟩) hA5).trans a0) hAR, eD ((kb.cell (p := ⟨w4.heap.size, 1, none⟩) hA5).trans a1) hAR, eD ((kb.cell (p := ⟨S, i * 5, none⟩) hS5).trans s0) hSR⟩)
   (first
    | (
     go_at_call 46
     refine(jT q.2.text _ (by omega)).mono ?_;rintro e w6 ⟨rfl,hy⟩;have kb:Below W5.heap.size W5 w6:=by first|exact hy|exact mB kb hy kb.size|exact jB kb hy kb.size
     have R6:=HR5.out.below kb hRw5;have A6:=HA5.out.below kb hAw5;have r0:=R6.cell (j:=0) (by simp);have r1:=R6.cell (j:=1) (by simp);have b0:=A6.cell (j:=0) (by simp);have b1:=A6.cell (j:=1) (by simp);have b2:=A6.cell (j:=2) (by simp);have g0:=R6.frozen 0;have g1:=R6.frozen 1;have k0:=A6.frozen 0;have k1:=A6.frozen 1;have k2:=A6.frozen 2
     simp only [aB, aC] at r0 r1 b0 b1 b2))
  all_goals go_wp2
  all_goals refine bE (v:=iV (.slice rA q.1.rows.length rc) (.slice (some ⟨S,0,none⟩) q.1.ss.length q.1.ss.length) q.2 2) (by simp[results,Tryz.results23,go_sem,r0,r1,b0,b1,b2,iV]) rfl ?_
  all_goals
   have hk1: ∀b,b≠w.heap.size+1+1->((w6.setCell ⟨w.heap.size+1+1,0,none⟩ (.slice rA q.1.rows.length rc)).setCell ⟨w.heap.size+1+1,1,none⟩ (.slice (some ⟨S,0,none⟩) q.1.ss.length q.1.ss.length)).heap[b]? =w6.heap[b]? :=fun b hb=>by rw[bF _ _ _ _ hb,bF _ _ _ _ hb]
   have e1:=(HE5.out.below kb).offN (R:=w.heap.size+1+1) (by omega) hSR (nU R6) (by simp[cE]) hk1;have A7:=(A6.other (p:=⟨w.heap.size+1+1,0,none⟩) (by show w.heap.size+1+1≠_;omega) (.slice rA q.1.rows.length rc)).other (p:=⟨w.heap.size+1+1,1,none⟩) (by show w.heap.size+1+1≠_;omega) (.slice (some ⟨S,0,none⟩) q.1.ss.length q.1.ss.length);have hk2: ∀(x y z:Value) b,b≠w.heap.size+1+1+1->(((((w6.setCell ⟨w.heap.size+1+1,0,none⟩ (.slice rA q.1.rows.length rc)).setCell ⟨w.heap.size+1+1,1,none⟩ (.slice (some ⟨S,0,none⟩) q.1.ss.length q.1.ss.length)).setCell ⟨w.heap.size+1+1+1,0,none⟩ x).setCell ⟨w.heap.size+1+1+1,1,none⟩ y).setCell ⟨w.heap.size+1+1+1,2,none⟩ z).heap[b]? =((w6.setCell ⟨w.heap.size+1+1,0,none⟩ (.slice rA q.1.rows.length rc)).setCell ⟨w.heap.size+1+1,1,none⟩ (.slice (some ⟨S,0,none⟩) q.1.ss.length q.1.ss.length)).heap[b]? :=fun x y z b hb=>by rw[bF _ _ _ _ hb,bF _ _ _ _ hb,bF _ _ _ _ hb]
   have e2:=e1.offN (R:=w.heap.size+1+1+1) (w':=((((w6.setCell ⟨w.heap.size+1+1,0,none⟩ (.slice rA q.1.rows.length rc)).setCell ⟨w.heap.size+1+1,1,none⟩ (.slice (some ⟨S,0,none⟩) q.1.ss.length q.1.ss.length)).setCell ⟨w.heap.size+1+1+1,0,none⟩ (.int .i64 q.2.kind)).setCell ⟨w.heap.size+1+1+1,1,none⟩ (.string q.2.text)).setCell ⟨w.heap.size+1+1+1,2,none⟩ (.int .i64 2)) (by omega) (fun e=>hRS3 e.symm) (mT A7) (by simp[cE]) (hk2 _ _ _);have bf:=(((((HB5.out.trans (kb.mono (by omega))).setCell (p:=⟨w.heap.size+1+1,0,none⟩) (by show w.heap.size<=w.heap.size+1+1;omega) (.slice rA q.1.rows.length rc)).setCell (p:=⟨w.heap.size+1+1,1,none⟩) (by show w.heap.size<=w.heap.size+1+1;omega) (.slice (some ⟨S,0,none⟩) q.1.ss.length q.1.ss.length)).setCell (p:=⟨w.heap.size+1+1+1,0,none⟩) (by show w.heap.size<=w.heap.size+1+1+1;omega) (.int .i64 q.2.kind)).setCell (p:=⟨w.heap.size+1+1+1,1,none⟩) (by show w.heap.size<=w.heap.size+1+1+1;omega) (.string q.2.text)).setCell (p:=⟨w.heap.size+1+1+1,2,none⟩) (by show w.heap.size<=w.heap.size+1+1+1;omega) (.int .i64 2);rw[HDM.out];refine⟨.slice rA q.1.rows.length rc,.slice (some ⟨S,0,none⟩) q.1.ss.length q.1.ss.length,(by simp only[uAi hqi]),?_,bf⟩;have HNl:=e2.wldP;rw[eY]at HNl;exact HNl
 ·have HC:=aA hcase
  cases c1:(q.2.kind==4)
  ·clear hcase;go_wp2;have hE5:=HP.out.below ((aD _ _).alloc (aI _) (.cells #[.int .i64 q.2.kind,.string q.2.text,.int .i64 0] 46));have hR5:=HR.out.alloc (.cells #[.int .i64 q.2.kind,.string q.2.text,.int .i64 0] 46);have hA5':=HA.out.alloc (.cells #[.int .i64 q.2.kind,.string q.2.text,.int .i64 0] 46);have hB5:=HB.out.alloc (by omega) (.cells #[.int .i64 q.2.kind,.string q.2.text,.int .i64 0] 46);have hz5:(w4.alloc (.cells #[.int .i64 q.2.kind,.string q.2.text,.int .i64 0] 46)).heap.size=w4.heap.size+1:=by simp
   have hNew:=RowTo.whole w4 #[.int .i64 q.2.kind,.string q.2.text,.int .i64 0] 46;obtain⟨u1,u2,u3,u5,hs5⟩:=hE5.sess hqi;have s0:=hs5.c0;have zn: ∀j u,w4.cell? ⟨w.heap.size,j,none⟩=some u->(w4.alloc (.cells #[.int .i64 q.2.kind,.string q.2.text,.int .i64 0] 46)).cell? ⟨w.heap.size,j,none⟩=some u:=fun j u h=>by rw[World.cell?_alloc_lt _ _ _ hXw];exact h
   have z0:=zn 0 _ z0;have z1:=zn 1 _ z1;have a0:=hNew.cell (j:=0) (by simp);have a1:=hNew.cell (j:=1) (by simp);simp only[aB,aC]at a0 a1;have hX5:w.heap.size<(w4.alloc (.cells #[.int .i64 q.2.kind,.string q.2.text,.int .i64 0] 46)).heap.size:=by rw[hz5];omega
   have hA5:w4.heap.size<(w4.alloc (.cells #[.int .i64 q.2.kind,.string q.2.text,.int .i64 0] 46)).heap.size:=by rw[hz5];omega
   have hS5:S<(w4.alloc (.cells #[.int .i64 q.2.kind,.string q.2.text,.int .i64 0] 46)).heap.size:=by rw[hz5];omega
   have HDM:=aA (show doM W i k key val=q by rw[doM,<-HQ.out];simp only[fY hqi];rw[if_neg HC.out]);have hXR:w.heap.size≠w.heap.size+1+1:=by omega
   have hAR:w4.heap.size≠w.heap.size+1+1:=by omega
   have hSR:S≠w.heap.size+1+1:=fun e=>hRS e.symm
   have hXA:w.heap.size≠w.heap.size+1+1+1:=by omega
   have hAA:w4.heap.size≠w.heap.size+1+1+1:=by omega
   have hSA:S≠w.heap.size+1+1+1:=fun e=>hRS3 e.symm
   have HR5:=aA hR5;have HA5:=aA hA5';have HE5:=aA hE5;have HB5:=aA hB5;have hRw5:=hR5.lt;have hAw5:=hA5'.lt;clear hR5 hA5' hE5 hB5 zn hz5 hNew hs5;generalize w4.alloc (.cells #[.int .i64 q.2.kind,.string q.2.text,.int .i64 0] 46)=W5 at*;have kb:=aD W5.heap.size W5;have HS:=aA (show W5.drew.cell? ⟨w.heap.size,0,none⟩=some (.slice rA q.1.rows.length rc)/\W5.drew.cell? ⟨w.heap.size,1,none⟩=some (.slice (some ⟨S,0,none⟩) q.1.ss.length q.1.ss.length)/\W5.drew.cell? ⟨w4.heap.size,0,none⟩=some (.int .i64 q.2.kind)/\W5.drew.cell? ⟨w4.heap.size,1,none⟩=some (.string q.2.text)/\W5.drew.cell? ⟨S,i*5,none⟩=some (.int .i64 q.1.ss[i].st)from⟨z0,z1,a0,a1,s0⟩)
   go_region_held3 (fun wx=>wx.cell? ⟨w.heap.size,0,none⟩=some (.slice rA q.1.rows.length rc)/\wx.cell? ⟨w.heap.size,1,none⟩=some (.slice (some ⟨S,0,none⟩) q.1.ss.length q.1.ss.length)/\wx.cell? ⟨w4.heap.size,0,none⟩=some (.int .i64 q.2.kind)/\wx.cell? ⟨w4.heap.size,1,none⟩=some (.string q.2.text)/\wx.cell? ⟨S,i*5,none⟩=some (.int .i64 q.1.ss[i].st))
    (first
     |with_reducible exact⟨z0,z1,a0,a1,s0⟩
     |with_reducible exact HS.out
     |with_reducible exact⟨(kb.cell (p:=⟨w.heap.size,0,none⟩) hX5).trans z0,(kb.cell (p:=⟨w.heap.size,1,none⟩) hX5).trans z1,(kb.cell (p:=⟨w4.heap.size,0,none⟩) hA5).trans a0,(kb.cell (p:=⟨w4.heap.size,1,none⟩) hA5).trans a1,(kb.cell (p:=⟨S,i*5,none⟩) hS5).trans s0⟩
     |with_reducible exact⟨iB (eD ((kb.cell (p:=⟨w.heap.size,0,none⟩) hX5).trans z0) hXR) hXA,iB (eD ((kb.cell (p:=⟨w.heap.size,1,none⟩) hX5).trans z1) hXR) hXA,iB (eD ((kb.cell (p:=⟨w4.heap.size,0,none⟩) hA5).trans a0) hAR) hAA,iB (eD ((kb.cell (p:=⟨w4.heap.size,1,none⟩) hA5).trans a1) hAR) hAA,iB (eD ((kb.cell (p:=⟨S,i*5,none⟩) hS5).trans s0) hSR) hSA⟩
     | with_reducible exact ⟨eD ((kb.cell (p := ⟨w.heap.size, 0, none⟩) hX5).trans z0) hXR, eD ((kb.cell (p := ⟨w.heap.size, 1, none⟩) hX5).trans z1) hXR, eD ((kb.cell (p := ⟨w4.heap.size, 0, none⟩) hA5).trans a0) hAR, eD ((kb.cell (p := ⟨w4.heap.size, 1, none⟩) hA5).trans a1) hAR, eD ((kb.cell (p := ⟨S, i * 5, none⟩) hS5).trans s0) hSR⟩)
    (first
     | (
      go_at_call 46
      refine(jT q.2.text _ (by omega)).mono ?_;rintro e w6 ⟨rfl,hy⟩;have kb:Below W5.heap.size W5 w6:=by first|exact hy|exact mB kb hy kb.size|exact jB kb hy kb.size
      have R6:=HR5.out.below kb hRw5;have A6:=HA5.out.below kb hAw5;have r0:=R6.cell (j:=0) (by simp);have r1:=R6.cell (j:=1) (by simp);have b0:=A6.cell (j:=0) (by simp);have b1:=A6.cell (j:=1) (by simp);have b2:=A6.cell (j:=2) (by simp);have g0:=R6.frozen 0;have g1:=R6.frozen 1;have k0:=A6.frozen 0;have k1:=A6.frozen 1;have k2:=A6.frozen 2
      simp only [aB, aC] at r0 r1 b0 b1 b2))
   all_goals go_wp2
   all_goals refine bE (v:=iV (.slice rA q.1.rows.length rc) (.slice (some ⟨S,0,none⟩) q.1.ss.length q.1.ss.length) q.2 q.1.ss[i].st) (by simp[results,Tryz.results23,go_sem,r0,r1,b0,b1,b2,iV]) rfl ?_
   all_goals
    have hk1: ∀b,b≠w.heap.size+1+1->((w6.setCell ⟨w.heap.size+1+1,0,none⟩ (.slice rA q.1.rows.length rc)).setCell ⟨w.heap.size+1+1,1,none⟩ (.slice (some ⟨S,0,none⟩) q.1.ss.length q.1.ss.length)).heap[b]? =w6.heap[b]? :=fun b hb=>(by rw[bF _ _ _ _ hb,bF _ _ _ _ hb]);have e1:=(HE5.out.below kb).offN (R:=w.heap.size+1+1) (by omega) hSR (nU R6) (by simp[cE]) hk1;have A7:=(A6.other (p:=⟨w.heap.size+1+1,0,none⟩) (by show w.heap.size+1+1≠_;omega) (.slice rA q.1.rows.length rc)).other (p:=⟨w.heap.size+1+1,1,none⟩) (by show w.heap.size+1+1≠_;omega) (.slice (some ⟨S,0,none⟩) q.1.ss.length q.1.ss.length);have hk2: ∀(x y z:Value) b,b≠w.heap.size+1+1+1->(((((w6.setCell ⟨w.heap.size+1+1,0,none⟩ (.slice rA q.1.rows.length rc)).setCell ⟨w.heap.size+1+1,1,none⟩ (.slice (some ⟨S,0,none⟩) q.1.ss.length q.1.ss.length)).setCell ⟨w.heap.size+1+1+1,0,none⟩ x).setCell ⟨w.heap.size+1+1+1,1,none⟩ y).setCell ⟨w.heap.size+1+1+1,2,none⟩ z).heap[b]? =((w6.setCell ⟨w.heap.size+1+1,0,none⟩ (.slice rA q.1.rows.length rc)).setCell ⟨w.heap.size+1+1,1,none⟩ (.slice (some ⟨S,0,none⟩) q.1.ss.length q.1.ss.length)).heap[b]? :=fun x y z b hb=>(by rw[bF _ _ _ _ hb,bF _ _ _ _ hb,bF _ _ _ _ hb]);have e2:=e1.offN (R:=w.heap.size+1+1+1) (w':=((((w6.setCell ⟨w.heap.size+1+1,0,none⟩ (.slice rA q.1.rows.length rc)).setCell ⟨w.heap.size+1+1,1,none⟩ (.slice (some ⟨S,0,none⟩) q.1.ss.length q.1.ss.length)).setCell ⟨w.heap.size+1+1+1,0,none⟩ (.int .i64 q.2.kind)).setCell ⟨w.heap.size+1+1+1,1,none⟩ (.string q.2.text)).setCell ⟨w.heap.size+1+1+1,2,none⟩ (.int .i64 q.1.ss[i].st)) (by omega) (fun e=>hRS3 e.symm) (mT A7) (by simp[cE]) (hk2 _ _ _);have bf:=(((((HB5.out.trans (kb.mono (by omega))).setCell (p:=⟨w.heap.size+1+1,0,none⟩) (by show w.heap.size<=w.heap.size+1+1;omega) (.slice rA q.1.rows.length rc)).setCell (p:=⟨w.heap.size+1+1,1,none⟩) (by show w.heap.size<=w.heap.size+1+1;omega) (.slice (some ⟨S,0,none⟩) q.1.ss.length q.1.ss.length)).setCell (p:=⟨w.heap.size+1+1+1,0,none⟩) (by show w.heap.size<=w.heap.size+1+1+1;omega) (.int .i64 q.2.kind)).setCell (p:=⟨w.heap.size+1+1+1,1,none⟩) (by show w.heap.size<=w.heap.size+1+1+1;omega) (.string q.2.text)).setCell (p:=⟨w.heap.size+1+1+1,2,none⟩) (by show w.heap.size<=w.heap.size+1+1+1;omega) (.int .i64 q.1.ss[i].st);rw[HDM.out];refine⟨.slice rA q.1.rows.length rc,.slice (some ⟨S,0,none⟩) q.1.ss.length q.1.ss.length,(by rw[fY hqi]),?_,bf⟩;exact e2.wldP
  ·have c2:(q.1.ss[i].st==1)=false:=bJ.2 fun h1=>hcase ⟨beq_iff_eq.1 c1,h1⟩
   clear hcase;go_wp2;have hE5:=HP.out.below ((aD _ _).alloc (aI _) (.cells #[.int .i64 q.2.kind,.string q.2.text,.int .i64 0] 46));have hR5:=HR.out.alloc (.cells #[.int .i64 q.2.kind,.string q.2.text,.int .i64 0] 46);have hA5':=HA.out.alloc (.cells #[.int .i64 q.2.kind,.string q.2.text,.int .i64 0] 46);have hB5:=HB.out.alloc (by omega) (.cells #[.int .i64 q.2.kind,.string q.2.text,.int .i64 0] 46);have hz5:(w4.alloc (.cells #[.int .i64 q.2.kind,.string q.2.text,.int .i64 0] 46)).heap.size=w4.heap.size+1:=by simp
   have hNew:=RowTo.whole w4 #[.int .i64 q.2.kind,.string q.2.text,.int .i64 0] 46;obtain⟨u1,u2,u3,u5,hs5⟩:=hE5.sess hqi;have s0:=hs5.c0;have zn: ∀j u,w4.cell? ⟨w.heap.size,j,none⟩=some u->(w4.alloc (.cells #[.int .i64 q.2.kind,.string q.2.text,.int .i64 0] 46)).cell? ⟨w.heap.size,j,none⟩=some u:=fun j u h=>by rw[World.cell?_alloc_lt _ _ _ hXw];exact h
   have z0:=zn 0 _ z0;have z1:=zn 1 _ z1;have a0:=hNew.cell (j:=0) (by simp);have a1:=hNew.cell (j:=1) (by simp);simp only[aB,aC]at a0 a1;have hX5:w.heap.size<(w4.alloc (.cells #[.int .i64 q.2.kind,.string q.2.text,.int .i64 0] 46)).heap.size:=by rw[hz5];omega
   have hA5:w4.heap.size<(w4.alloc (.cells #[.int .i64 q.2.kind,.string q.2.text,.int .i64 0] 46)).heap.size:=by rw[hz5];omega
   have hS5:S<(w4.alloc (.cells #[.int .i64 q.2.kind,.string q.2.text,.int .i64 0] 46)).heap.size:=by rw[hz5];omega
   have HDM:=aA (show doM W i k key val=q by rw[doM,<-HQ.out];simp only[fY hqi];rw[if_neg HC.out]);have hXR:w.heap.size≠w.heap.size+1+1:=by omega
   have hAR:w4.heap.size≠w.heap.size+1+1:=by omega
   have hSR:S≠w.heap.size+1+1:=fun e=>hRS e.symm
   have hXA:w.heap.size≠w.heap.size+1+1+1:=by omega
   have hAA:w4.heap.size≠w.heap.size+1+1+1:=by omega
   have hSA:S≠w.heap.size+1+1+1:=fun e=>hRS3 e.symm
   have HR5:=aA hR5;have HA5:=aA hA5';have HE5:=aA hE5;have HB5:=aA hB5;have hRw5:=hR5.lt;have hAw5:=hA5'.lt;clear hR5 hA5' hE5 hB5 zn hz5 hNew hs5;generalize w4.alloc (.cells #[.int .i64 q.2.kind,.string q.2.text,.int .i64 0] 46)=W5 at*;have kb:=aD W5.heap.size W5;have HS:=aA (show W5.drew.cell? ⟨w.heap.size,0,none⟩=some (.slice rA q.1.rows.length rc)/\W5.drew.cell? ⟨w.heap.size,1,none⟩=some (.slice (some ⟨S,0,none⟩) q.1.ss.length q.1.ss.length)/\W5.drew.cell? ⟨w4.heap.size,0,none⟩=some (.int .i64 q.2.kind)/\W5.drew.cell? ⟨w4.heap.size,1,none⟩=some (.string q.2.text)/\W5.drew.cell? ⟨S,i*5,none⟩=some (.int .i64 q.1.ss[i].st)from⟨z0,z1,a0,a1,s0⟩)
   go_region_held3 (fun wx=>wx.cell? ⟨w.heap.size,0,none⟩=some (.slice rA q.1.rows.length rc)/\wx.cell? ⟨w.heap.size,1,none⟩=some (.slice (some ⟨S,0,none⟩) q.1.ss.length q.1.ss.length)/\wx.cell? ⟨w4.heap.size,0,none⟩=some (.int .i64 q.2.kind)/\wx.cell? ⟨w4.heap.size,1,none⟩=some (.string q.2.text)/\wx.cell? ⟨S,i*5,none⟩=some (.int .i64 q.1.ss[i].st))
    (first
     |with_reducible exact⟨z0,z1,a0,a1,s0⟩
     |with_reducible exact HS.out
     |with_reducible exact⟨(kb.cell (p:=⟨w.heap.size,0,none⟩) hX5).trans z0,(kb.cell (p:=⟨w.heap.size,1,none⟩) hX5).trans z1,(kb.cell (p:=⟨w4.heap.size,0,none⟩) hA5).trans a0,(kb.cell (p:=⟨w4.heap.size,1,none⟩) hA5).trans a1,(kb.cell (p:=⟨S,i*5,none⟩) hS5).trans s0⟩
     |with_reducible exact⟨iB (eD ((kb.cell (p:=⟨w.heap.size,0,none⟩) hX5).trans z0) hXR) hXA,iB (eD ((kb.cell (p:=⟨w.heap.size,1,none⟩) hX5).trans z1) hXR) hXA,iB (eD ((kb.cell (p:=⟨w4.heap.size,0,none⟩) hA5).trans a0) hAR) hAA,iB (eD ((kb.cell (p:=⟨w4.heap.size,1,none⟩) hA5).trans a1) hAR) hAA,iB (eD ((kb.cell (p:=⟨S,i*5,none⟩) hS5).trans s0) hSR) hSA⟩
     | with_reducible exact ⟨eD ((kb.cell (p := ⟨w.heap.size, 0, none⟩) hX5).trans z0) hXR, eD ((kb.cell (p := ⟨w.heap.size, 1, none⟩) hX5).trans z1) hXR, eD ((kb.cell (p := ⟨w4.heap.size, 0, none⟩) hA5).trans a0) hAR, eD ((kb.cell (p := ⟨w4.heap.size, 1, none⟩) hA5).trans a1) hAR, eD ((kb.cell (p := ⟨S, i * 5, none⟩) hS5).trans s0) hSR⟩)
    (first
     | (
      go_at_call 46
      refine(jT q.2.text _ (by omega)).mono ?_;rintro e w6 ⟨rfl,hy⟩;have kb:Below W5.heap.size W5 w6:=by first|exact hy|exact mB kb hy kb.size|exact jB kb hy kb.size
      have R6:=HR5.out.below kb hRw5;have A6:=HA5.out.below kb hAw5;have r0:=R6.cell (j:=0) (by simp);have r1:=R6.cell (j:=1) (by simp);have b0:=A6.cell (j:=0) (by simp);have b1:=A6.cell (j:=1) (by simp);have b2:=A6.cell (j:=2) (by simp);have g0:=R6.frozen 0;have g1:=R6.frozen 1;have k0:=A6.frozen 0;have k1:=A6.frozen 1;have k2:=A6.frozen 2
      simp only [aB, aC] at r0 r1 b0 b1 b2))
   all_goals go_wp2
   all_goals refine bE (v:=iV (.slice rA q.1.rows.length rc) (.slice (some ⟨S,0,none⟩) q.1.ss.length q.1.ss.length) q.2 q.1.ss[i].st) (by simp[results,Tryz.results23,go_sem,r0,r1,b0,b1,b2,iV]) rfl ?_
   all_goals
    have hk1: ∀b,b≠w.heap.size+1+1->((w6.setCell ⟨w.heap.size+1+1,0,none⟩ (.slice rA q.1.rows.length rc)).setCell ⟨w.heap.size+1+1,1,none⟩ (.slice (some ⟨S,0,none⟩) q.1.ss.length q.1.ss.length)).heap[b]? =w6.heap[b]? :=fun b hb=>(by rw[bF _ _ _ _ hb,bF _ _ _ _ hb]);have e1:=(HE5.out.below kb).offN (R:=w.heap.size+1+1) (by omega) hSR (nU R6) (by simp[cE]) hk1;have A7:=(A6.other (p:=⟨w.heap.size+1+1,0,none⟩) (by show w.heap.size+1+1≠_;omega) (.slice rA q.1.rows.length rc)).other (p:=⟨w.heap.size+1+1,1,none⟩) (by show w.heap.size+1+1≠_;omega) (.slice (some ⟨S,0,none⟩) q.1.ss.length q.1.ss.length);have hk2: ∀(x y z:Value) b,b≠w.heap.size+1+1+1->(((((w6.setCell ⟨w.heap.size+1+1,0,none⟩ (.slice rA q.1.rows.length rc)).setCell ⟨w.heap.size+1+1,1,none⟩ (.slice (some ⟨S,0,none⟩) q.1.ss.length q.1.ss.length)).setCell ⟨w.heap.size+1+1+1,0,none⟩ x).setCell ⟨w.heap.size+1+1+1,1,none⟩ y).setCell ⟨w.heap.size+1+1+1,2,none⟩ z).heap[b]? =((w6.setCell ⟨w.heap.size+1+1,0,none⟩ (.slice rA q.1.rows.length rc)).setCell ⟨w.heap.size+1+1,1,none⟩ (.slice (some ⟨S,0,none⟩) q.1.ss.length q.1.ss.length)).heap[b]? :=fun x y z b hb=>(by rw[bF _ _ _ _ hb,bF _ _ _ _ hb,bF _ _ _ _ hb]);have e2:=e1.offN (R:=w.heap.size+1+1+1) (w':=((((w6.setCell ⟨w.heap.size+1+1,0,none⟩ (.slice rA q.1.rows.length rc)).setCell ⟨w.heap.size+1+1,1,none⟩ (.slice (some ⟨S,0,none⟩) q.1.ss.length q.1.ss.length)).setCell ⟨w.heap.size+1+1+1,0,none⟩ (.int .i64 q.2.kind)).setCell ⟨w.heap.size+1+1+1,1,none⟩ (.string q.2.text)).setCell ⟨w.heap.size+1+1+1,2,none⟩ (.int .i64 q.1.ss[i].st)) (by omega) (fun e=>hRS3 e.symm) (mT A7) (by simp[cE]) (hk2 _ _ _);have bf:=(((((HB5.out.trans (kb.mono (by omega))).setCell (p:=⟨w.heap.size+1+1,0,none⟩) (by show w.heap.size<=w.heap.size+1+1;omega) (.slice rA q.1.rows.length rc)).setCell (p:=⟨w.heap.size+1+1,1,none⟩) (by show w.heap.size<=w.heap.size+1+1;omega) (.slice (some ⟨S,0,none⟩) q.1.ss.length q.1.ss.length)).setCell (p:=⟨w.heap.size+1+1+1,0,none⟩) (by show w.heap.size<=w.heap.size+1+1+1;omega) (.int .i64 q.2.kind)).setCell (p:=⟨w.heap.size+1+1+1,1,none⟩) (by show w.heap.size<=w.heap.size+1+1+1;omega) (.string q.2.text)).setCell (p:=⟨w.heap.size+1+1+1,2,none⟩) (by show w.heap.size<=w.heap.size+1+1+1;omega) (.int .i64 q.1.ss[i].st);rw[HDM.out];refine⟨.slice rA q.1.rows.length rc,.slice (some ⟨S,0,none⟩) q.1.ss.length q.1.ss.length,(by rw[fY hqi]),?_,bf⟩;exact e2.wldP
theorem hAe (r s:Value)(W:Wd)(i:Nat)(k:Int)(key val:ByteArray)(w:World)(hW:Wld w w.heap.size r s W)(hWo:Words w)(hok:bX W)(hi:i<W.ss.length)(hc:bZ k key val=0):
  Calls Tryz.prog 23 #[.agg #[r,s],.int .i64 i,.agg #[.int .i64 k,.string key,.string val]] w fun e w'=> ∃r' s',e= .returned (iV r' s' (doM W i k key val).2 ((doM W i k key val).1.at i).st)/\WldP w' (fun b=>w.heap.size<=b) r' s' (doM W i k key val).1/\Below w.heap.size w w':=by
 have g:=kE hc
 exact hAd r s W i k key val w hW hWo (by have := g.key8; unfold maxLen; omega) (by have := g.v60; unfold maxLen; omega) (by
  unfold kK
  rw [if_neg (by rw [kA0.2 hok]; simp), if_neg (by omega)]; exact hc)
end Go.Proofs.YtpbaobmegomfpabGreatDoor
namespace Go.Proofs.YtpbaobmegomfpabGreatDoor
open Go.RowKit Go.ChangeShapes Go.WideShapes Go.Deep Go.Joins
theorem hAf {w:World}{a:Addr}{u:Value}(h:w.cell? a=some u):a=⟨a.block,a.off,none⟩:=by
 obtain⟨b,o,s⟩:=a
 cases s with
 |none=>rfl
 |some x=>unfold World.cell? at h;simp at h;split at h<;>simp at h
section
variable {H:Type}{enc:TypeId×Value->H}{w:World}{base:Nat}{spare:Nat->Bool}{held:Bool}
end
section
variable {H:Type}{enc:TypeId×Value->H}{w:World}{base:Nat}{spare:Nat->Bool}{held:Bool}
end
end Go.Proofs.YtpbaobmegomfpabGreatDoor
namespace Go.Proofs.YtpbaobmegomfpabGreatDoor
open Go.RowKit Go.ChangeShapes Go.WideShapes Go.Deep Go.Joins
section
variable {H:Type}{enc:TypeId×Value->H}{w:World}{base:Nat}{spare:Nat->Bool}{held:Bool}
end
end Go.Proofs.YtpbaobmegomfpabGreatDoor
namespace Go.Proofs.YtpbaobmegomfpabGreatDoor
open Go.RowKit
end Go.Proofs.YtpbaobmegomfpabGreatDoor

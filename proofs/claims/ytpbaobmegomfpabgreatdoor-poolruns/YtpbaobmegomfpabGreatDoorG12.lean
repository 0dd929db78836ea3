/-
  Texts of the proof.
-/
import Derived.Test.YtpbaobmegomfpabGreatDoorG11
set_option linter.unusedVariables false
set_option linter.unusedSimpArgs false
set_option maxRecDepth 100000
set_option maxHeartbeats 16000000
open List renaming getElem_cons_succ→aC,set_cons_succ→aF,getD_eq_getElem?_getD→eU,take_succ_eq_append_getElem→gO,mem_cons_self→gJ,length_cons→fC
open Nat renaming le_refl→aI
open Go.Lib renaming hid→aA
open Go.RowKit.Below renaming refl→aD
open And renaming intro→aJ
open Classical renaming byContradiction→gP
open Bool renaming or_eq_true→fO
namespace Go.Proofs.YtpbaobmegomfpabGreatDoor
open Go.RowKit
def gN (x:Cl):Nat:=x.wait.length+x.bytes.size
def eM (l:List Cl):Nat:=(l.map gN).sum
theorem tP: ∀{l:List Cl} {c:Nat} {x:Cl} (h:c<l.length),eM (l.set c x)+gN l[c]=eM l+gN x
 |a::l,0,x,h=>by simp[eM];omega
 |a::l,c+1,x,h=>by
  have:=tP (l:=l) (c:=c) (x:=x) (by simpa using h);simp only[eM,aF,List.map_cons,List.sum_cons,aC]at this ⊢;omega
theorem gAa: ∀k,k<=4->(dJ k).size<=4:=by decide
theorem xA2 {a:cU}{st:Int}(ha:fZ a)(hst:0<=st/\st<=2):(eZ a st).size<=122:=by
 unfold eZ;rw[rO];unfold bM;have h1:=gAa a.kind.toNat (by have:=ha.hi;omega)
 have h2:(tA st.toNat).size<=1:=by
  obtain h|h|h:st.toNat=0\/st.toNat=1\/st.toNat=2:=by omega
  all_goals (rw[h];decide)
 have h3:=ha.len;rw[ByteArray.size_append,ByteArray.size_append];omega
theorem qV {mode:Int}{r:Req}(h:eJ mode r=true):fZ ⟨4,fG mode r⟩:=by
 unfold eJ at h;have h:=of_decide_eq_true h;unfold fG
 by_cases h1:r.k=0
 ·rw[if_pos h1];exact qO (t:=nV) (by decide) (by decide)
 ·rw[if_neg h1,if_pos (h.resolve_left h1)];exact qO (t:=nW) (by decide) (by decide)
section
variable {E:Type}{m m':Mach E}{N:Nat}
structure Bnd (m:Mach E)(N:Nat):Prop where
 sent: ∀c,(m.sent.getD c ⟨#[]⟩).size+122*gN (m.get c)<=122*N
 deeds:m.deeds.length+eM m.cl<=N
theorem Bnd.same (h:Bnd m N)(h1: ∀d,gN (m'.get d)<=gN (m.get d))(h2:eM m'.cl<=eM m.cl)(h3:m'.sent=m.sent)(h4:m'.deeds=m.deeds):Bnd m' N:=
 ⟨fun c=>by rw[h3];have:=h.sent c;have:=h1 c;omega,by rw[h4];have:=h.deeds;omega⟩
theorem Bnd.turn (h:Bnd m N){c:Nat}(hc:c<m.cl.length){x:Cl}(hx:gN x<=gN (m.get c))(h1:m'.cl=m.cl.set c x)(h3:m'.sent=m.sent)(h4:m'.deeds=m.deeds):Bnd m' N:=by
 refine h.same (fun d=>?_) ?_ h3 h4
 ·have:m'.get d=if c=d then x else m.get d:=by unfold Mach.get;rw[h1];exact oX hc
  rw[this]
  split
  ·rename_i e;rw[<-e];exact hx
  ·exact aI _
 ·have:=tP (x:=x) hc;rw[<-nX hc]at this;rw[h1];omega
theorem Bnd.more (h:Bnd m N){c n:Nat}(hc:c<m.cl.length){x:Cl}(hx:gN x<=gN (m.get c)+n)(h1:m'.cl=m.cl.set c x)(h3:m'.sent=m.sent)(h4:m'.deeds=m.deeds):Bnd m' (N+n):=by
 have ht:=tP (x:=x) hc;rw[<-nX hc]at ht;refine⟨fun d=>?_,by rw[h1,h4];have:=h.deeds;omega⟩;have:m'.get d=if c=d then x else m.get d:=by unfold Mach.get;rw[h1];exact oX hc
 rw[this,h3];have:=h.sent d
 split
 ·rename_i e;rw[<-e]at this ⊢;omega
 ·omega
theorem Bnd.did (h:Bnd m N){c:Nat}(hs:c<m.sent.length)(hc:c<m.cl.length){x:Cl}(hx:gN x+1<=gN (m.get c)){a:cU}{st:Int}(ha:fZ a)(hst:0<=st/\st<=2)(h1:m'.cl=m.cl.set c x)(h2:m'.sent=m.sent.set c (m.sent.getD c ⟨#[]⟩++eZ a st))(h3:m'.deeds.length<=m.deeds.length+1):Bnd m' N:=by
 have ht:=tP (x:=x) hc;rw[<-nX hc]at ht;refine⟨fun d=>?_,by rw[h1];have:=h.deeds;omega⟩;have e1:m'.get d=if c=d then x else m.get d:=by unfold Mach.get;rw[h1];exact oX hc
 rw[e1,h2,jW];have:=h.sent d
 by_cases e:c=d
 ·rw[if_pos ⟨e,hs⟩,if_pos e,ByteArray.size_append];subst e;have:=xA2 ha hst;omega
 ·rw[if_neg (fun hh=>e hh.1),if_neg e];exact this
end
section
variable {m:Mach PE}{mode:Int}{N:Nat}
structure Inv (mode:Int)(m:Mach PE)(N:Nat):Prop where
 ok:MOk mode m
 al: ∃H,Alike m H
 bnd:Bnd m N
theorem Inv.w (h:Inv mode m N):bX m.e.w:=by obtain⟨H,a⟩:=h.al;exact a.okP
theorem Inv.plen (h:Inv mode m N):m.e.w.ss.length=m.busy.length:=by obtain⟨H,a⟩:=h.al;exact a.plen
theorem Inv.klen (h:Inv mode m N):m.e.kept.length=6:=by obtain⟨H,a⟩:=h.al;exact a.klen
theorem Inv.srvlt (h:Inv mode m N){c s:Nat}(hs:(m.get c).srv=some s):s<m.e.w.ss.length:=by obtain⟨H,a⟩:=h.al;exact(a.srvlt h.ok hs).1
theorem Inv.state (h:Inv mode m N){c:Nat}(hc:c<6):0<=m.e.state (m.get c).srv/\m.e.state (m.get c).srv<=2:=by
 unfold PE.state
 cases hs:(m.get c).srv with
 |none=>exact⟨Int.le_refl _,by show(0:Int)<=2;decide⟩
 |some s=>have:=kO h.w (h.srvlt hs);exact⟨this.lo,this.hi⟩
theorem Inv.req (h:Inv mode m N){c:Nat}{r:Req}{l:List Req}(hw:(m.get c).wait=r::l)(hf:eJ mode r=false):r.ok:=by
 rcases h.ok.fine c r (by rw[hw];exact gJ)with e|e
 ·rw[e]at hf;exact absurd hf (by simp[eJ,Req.none_])
 ·exact e
theorem Inv.sent (h:Inv mode m N)(hN:N<=300000)(c:Nat):(m.sent.getD c ⟨#[]⟩).size<=100000000:=by have:=h.bnd.sent c;omega
theorem Inv.deeds (h:Inv mode m N)(hN:N<=300000):m.deeds.length<=300000:=by have:=h.bnd.deeds;omega
theorem Inv.waits (h:Inv mode m N)(hN:N<=300000)(c:Nat):(m.get c).wait.length<=300000/\(m.get c).bytes.size<=300000:=by have:=h.bnd.sent c;unfold gN at this;omega
theorem Inv.proc (h:Inv mode m N){c:Nat}(hc:c<6)(hr:dD mode (m.get c)=true):Inv mode (m.proc aO mode c) N:=by
 obtain⟨H,al⟩:=h.al;refine⟨(h.ok.proc (o:=aO) hc hr).1,⟨_,al.proc h.ok hc hr⟩,?_⟩;have hc':c<m.cl.length:=by rw[h.ok.n6];exact hc
 have hs6:c<m.sent.length:=by rw[h.ok.s6];exact hc
 obtain⟨r,l,hw,hs⟩:=qP hr;have hx:gN {m.get c with wait:=l}+1<=gN (m.get c):=by unfold gN;rw[hw];simp;omega
 unfold Mach.proc;simp only[hw]
 by_cases hf:eJ mode r=true
 ·rw[if_pos hf];exact h.bnd.did hs6 hc' hx (qV hf) (h.state hc) rfl rfl (by show m.deeds.length<=_;omega)
 ·rw[if_neg hf];have hsv:(m.get c).srv.isSome=true:=by rw[fO]at hs;exact hs.resolve_right hf
  obtain⟨s,hs⟩:=Option.isSome_iff_exists.1 hsv;rw[show(m.get c).srv.getD 0=s by rw[hs];rfl];have hlt:=h.srvlt hs;have hok:=h.req hw (by simpa using hf);have ha:fZ (aO.exec m.e c s r).2.1:=sX h.w hlt _ _ _
  have hst:0<=(aO.exec m.e c s r).2.2/\(aO.exec m.e c s r).2.2<=2:=by
   have:=mW h.w hlt hok;have:=kO this.1 (i:=s) (by rw[this.2];exact hlt);exact⟨this.lo,this.hi⟩
  have b2:Bnd (Mach.tell {m.set c {m.get c with wait:=l}with e:=(aO.exec m.e c s r).1,deeds:=m.deeds++[⟨c,r,(aO.exec m.e c s r).2.1,(aO.exec m.e c s r).2.2⟩]} c (aO.exec m.e c s r).2.1 (aO.exec m.e c s r).2.2) N:=
   h.bnd.did hs6 hc' hx ha hst rfl rfl (by show(m.deeds++[_]).length<=_;simp)
  split
  ·exact b2.turn (c:=c) (x:={Mach.get _ c with srv:=none}) (by show c<(m.cl.set c _).length;simpa using hc') (aI _) rfl rfl rfl
  ·exact b2
theorem Inv.enq (h:Inv mode m N)(hr:m.firstR mode=none):Inv mode m.enq N:=by
 obtain⟨H,al⟩:=h.al;exact⟨h.ok.enq hr,⟨_,al.enq⟩,h.bnd.same (fun d=>aI _) (aI _) rfl rfl⟩
theorem Inv.assign (h:Inv mode m N):Inv mode (m.assign aO).2 N:=by
 obtain⟨H,al⟩:=h.al
 cases ht:(m.assign aO).1 with
 |false=>rw[qA9 ht];exact h
 |true=>
  refine⟨(h.ok.assign ht).1,⟨_,(al.assign h.ok).2⟩,?_⟩;unfold Mach.assign
  split
  ·exact h.bnd
  ·rename_i c l hl
   split
   ·have hc:=(h.ok.line c (by rw[hl];exact gJ)).1;exact h.bnd.turn (c:=c) (x:={m.get c with srv:=some (m.busy.idxOf false)}) (by rw[h.ok.n6];exact hc) (aI _) rfl rfl rfl
   ·exact h.bnd
theorem Inv.step (h:Inv mode m N):Inv mode (m.step aO mode).2 N:=by
 unfold Mach.step
 cases hf:m.firstR mode with
 |some c=>obtain⟨hc,hr⟩:=nY hf;exact h.proc hc hr
 |none=>exact(h.enq hf).assign
theorem Inv.all (h:Inv mode m N):Inv mode (m.all aO mode) N:=
 wW (fun m=>Inv mode m N) (fun _ r=>Inv mode r N) (fun m _ h _=>⟨h.step,fun r hr=>hr⟩) (fun m _ h _=>h.step) _ m (aI _) h.ok h
theorem Inv.leave (h:Inv mode m N){c:Nat}(hc:c<6):Inv mode (m.leave aO c) N:=by
 obtain⟨H,al⟩:=h.al;exact⟨h.ok.leave hc,⟨_,al.leave h.ok hc⟩,h.bnd.turn (c:=c) (x:=Cl.new) (by rw[h.ok.n6];exact hc) (by show 0<=_;omega) rfl rfl rfl⟩
theorem Inv.bytes (h:Inv mode m N){c:Nat}(hc:c<6)(d:ByteArray):Inv mode (m.set c {m.get c with bytes:=(m.get c).bytes++d}) (N+d.size):=by
 obtain⟨H,al⟩:=h.al;have hc':c<m.cl.length:=by rw[h.ok.n6];exact hc
 exact⟨h.ok.bytes hc _,⟨_,al.turn hc' rfl⟩,h.bnd.more hc' (by unfold gN;simp[ByteArray.size_append];omega) rfl rfl rfl⟩
theorem xH {b:ByteArray}{k:UInt8}{t:ByteArray}{j:Nat}(h:pull b=some (k,t,j)):2<=j/\j<=b.size:=by
 unfold pull at h
 split at h
 ·split at h
  ·rename_i h1 h2
   injection h with h;injection h with _ h;injection h with _ h;omega
  ·cases h
 ·cases h
theorem Inv.pull (h:Inv mode m N){c:Nat}(hc:c<6){k:UInt8}{t:ByteArray}{j:Nat}(hp:Proofs.YtpbaobmegomfpabGreatDoor.pull (m.get c).bytes=some (k,t,j)):
  Inv mode (m.set c {m.get c with bytes:=(m.get c).bytes.extract j (m.get c).bytes.size,wait:=(m.get c).wait++[fK k t]}) N:=by
 obtain⟨H,al⟩:=h.al;have hc':c<m.cl.length:=by rw[h.ok.n6];exact hc
 have hj:=xH hp;refine⟨h.ok.turn hc (wY (fun q hq=>h.ok.fine c q hq) (wX k t)) rfl fun hl=>⟨by simp,?_⟩,⟨_,al.turn hc' rfl⟩,h.bnd.turn hc' (by unfold gN;simp;omega) rfl rfl rfl⟩;obtain⟨_,_,h3,h4⟩:=h.ok.line c hl;exact wZ h3 h4
theorem Inv.feed (h:Inv mode m N){c:Nat}(hc:c<6)(n:Nat):Inv mode (m.feed aO mode n c) N:=by
 induction n generalizing m with
 |zero=>exact h
 |succ n ih=>
  unfold Mach.feed
  cases hp:Proofs.YtpbaobmegomfpabGreatDoor.pull (m.get c).bytes with
  |none=>exact h
  |some q=>
   obtain⟨k,t,j⟩:=q;simp only
   split
   ·exact h.all.leave hc
   ·exact ih (h.pull hc hp)
theorem tQ {a:Act}(h:dZ a=0):(a.kind=1\/a.kind=2)/\0<=a.c/\a.c<6/\a.data.size<=1000:=by
 unfold dZ at h
 split at h
 ·cases h
 ·rename_i h1
  split at h
  ·cases h
  ·split at h
   ·cases h
   ·exact⟨gP h1,by omega,by omega,by omega⟩
theorem Inv.deliver (h:Inv mode m N){c:Nat}(hc:c<6)(d:ByteArray):Inv mode (m.deliver aO mode c d) (N+d.size):=(h.bytes hc d).feed hc _
theorem Inv.mono {M:Nat}(h:Inv mode m N)(hN:N<=M):Inv mode m M:=⟨h.ok,h.al,fun c=>by have:=h.bnd.sent c;omega,by have:=h.bnd.deeds;omega⟩
theorem Inv.act (h:Inv mode m N){a:Act}(ha:dZ a=0):Inv mode (m.act aO mode a) (N+1000):=by
 obtain⟨h1,h2,h3,h4⟩:=tQ ha;have hc:a.c.toNat<6:=by omega
 unfold Mach.act
 split
 ·exact(h.deliver hc a.data).all.mono (by omega)
 ·exact(h.leave hc).all.mono (by omega)
theorem Inv.run: ∀{l:List Act} {m:Mach PE} {N:Nat},Inv mode m N->eA l=0->Inv mode (m.run aO mode l) (N+1000*l.length)
 |[],m,N,h,_=>h.mono (by simp)
 |a::l,m,N,h,hl=>(Inv.run (h.act (lJ hl).1) (lJ hl).2).mono (by simp only[fC];omega)
theorem Inv.start {n:Nat}(hn:n<=8):Inv mode (Mach.start (gA n) n) 0:=by
 refine⟨qAb _ _ _,⟨_,xB hn⟩,fun c=>?_,by simp[Mach.start,eM,gN,Cl.new,ByteArray.size]⟩
 have h1:(Mach.start (gA n) n).get c=Cl.new:=by
  unfold Mach.get Mach.start;simp only;rw[eU,List.getElem?_replicate]
  split<;>rfl
 have h2:(Mach.start (gA n) n).sent.getD c ⟨#[]⟩=⟨#[]⟩:=by
  unfold Mach.start;simp only;rw[eU,List.getElem?_replicate]
  split<;>rfl
 rw[h1,h2];decide
theorem xI: ∀(n:Nat) (l:List Nat),l.Nodup->(∀x∈l,x<n)->l.length<=n
 |0,l,_,h=>by
  cases l with
  |nil=>exact aI _
  |cons a l=>exact absurd (h a gJ) (by omega)
 |n+1,l,hd,h=>by
  by_cases hn:n∈l
  ·have h1 := xI n (l.erase n) (hd.erase n) (fun x hx => by
    have:=(hd.mem_erase_iff).1 hx;have:=h x this.2
    omega)
   rw[List.length_erase_of_mem hn]at h1;omega
  ·have := xI n l hd (fun x hx => by
    have h1:=h x hx;have:x≠n:=fun e=>hn (e▸hx)
    omega)
   omega
theorem Inv.line (h:Inv mode m N):m.line.length<=6:=xI 6 _ h.ok.nodup fun c hc=>(h.ok.line c hc).1
end
theorem gAb (W:Wd)(s:Nat)(k:Int){l:PL}{j:Nat}(hj:j<l.length):eR W s k (l.take (j+1))=(fL (eR W s k (l.take j)) s ⟨k,l[j].1,l[j].2⟩).1:=by
 unfold eR;rw[gO hj,List.foldl_append];rfl
section
variable {base P:Nat}{f:Nat->Value}{G:Nat->Option Nat}{mode:Int}{m:Mach PE}
theorem pF (w:World)(h:PMem 0 w base P f G mode m)(hT:Tabs w base)(hok:bX m.e.w)(s:Nat)(hs:s<m.e.w.ss.length)(k:Int)(v:Value)(l:PL)(hl:Lst w w.heap.size v l)(hin:InP (fun b=>b≠P) v l)(hr: ∀q∈l,bZ k q.1 q.2=0):
  Calls Tryz.prog 139 #[cC P 0,.int .i64 s,.int .i64 k,v] w fun e w'=>(∃f',e= .returned (.tuple #[])/\PMem 0 w' base P f' G mode {m with e:=⟨eR m.e.w s k l,m.e.kept⟩})/\bX (eR m.e.w s k l)/\(eR m.e.w s k l).ss.length=m.e.w.ss.length/\Below base w w'/\Only P w w':=by
 obtain⟨A,c,rfl,hc⟩:=hl.form;have hby:=hl.bytes;have hbP:=(h.lo 0 P h.p0).1;have hPl:=h.row.lt;have HL:=aA (aJ hl hin);have HT:=aA hT;have HR:=aA hr;have H0:=aA (aJ h (aJ hok hs));clear hl hin hT hr h hok;unfold cC;go_enter Tryz.func139,Tryz.ntmps139;go_wp2
 go_loopw [12] (fun i wr=> ∃j:Nat,j<=l.length/\i= .int .i64 j/\Hid ((∃f',PMem 0 wr base P f' G mode {m with e:=⟨eR m.e.w s k (l.take j),m.e.kept⟩})/\bX (eR m.e.w s k (l.take j))/\(eR m.e.w s k (l.take j)).ss.length=m.e.w.ss.length/\Below base w wr/\Only P w wr)) (fun i _=>l.length-(intOf i).toNat)
 case atStart=>exact⟨0,by omega,rfl,⟨f,H0.out.1⟩,H0.out.2.1,rfl,aD _ _,Only.refl _ _⟩
 case round=>
  obtain⟨j,hj,rfl,HZ⟩:=hrel
  by_cases hlt:j<l.length
  ·obtain⟨⟨f',hM⟩,hW,hlen,hB,hO⟩:=HZ.out;obtain⟨b,off,rfl,hb,c0,c1⟩:=(hO.lst HL.out.1 HL.out.2).pt hlt;have HC:=aA (fun(wc:World) (h1:PMem 0 wc base P f' G mode {m with e:=⟨eR m.e.w s k (l.take j),m.e.kept⟩}) (h2:Tabs wc base)=>pE wc h1 h2 hW s (by rw[hlen];exact hs) ⟨k,l[j].1,l[j].2⟩ (HR.out _ (List.getElem_mem hlt)));have HK:=aA (mW hW (i:=s) (by rw[hlen];exact hs) (r:=⟨k,l[j].1,l[j].2⟩) (HR.out _ (List.getElem_mem hlt)));have HS:=aA (gAb m.e.w s k hlt);have HLN:=aA hlen;have n1:=(aD wr.heap.size wr).alloc (aI _) (.cells #[.string l[j].1,.string l[j].2] 60);have HM1:=aA (aJ (hM.below n1) (aJ ((HT.out.below hB).below (n1.mono (by have:=hB.size;omega))) (aJ (hB.trans (n1.mono (by have:=hB.size;omega))) (hO.trans (Only.below n1)))));have X:=RowTo.whole wr #[.string l[j].1,.string l[j].2] 60;obtain⟨x0,x1⟩:=bR X;unfold cC at HC;obtain⟨Wj,HWj⟩: ∃W,Hid (eR m.e.w s k (l.take j)=W):=⟨_,aA rfl⟩;rw[HWj.out]at HC HM1 HK HS HLN;generalize l[j]=q at*;clear hM hW hlen hB hO n1 X HZ HWj;go_wp2_with fail;refine(HC.out _ HM1.out.1 HM1.out.2.1).mono ?_;rintro e w2 ⟨f2,rfl,hM2,hB2,hO2⟩;have HF:=aA (aJ hM2 (aJ (HM1.out.2.2.1.trans hB2) (HM1.out.2.2.2.trans hO2)));clear hM2 hB2 hO2 HC HM1 c0 c1 x0 x1;go_wp2;go_roundw
   case rel=>exact⟨j+1,by omega,by go_num,by rw[HS.out];exact⟨⟨f2,HF.out.1⟩,HK.out.1,HK.out.2.trans HLN.out,HF.out.2.1,HF.out.2.2⟩⟩
   case measure=>simp[intOf];omega
  ·obtain rfl:j=l.length:=by omega
   rw[List.take_length]at HZ;go_wp2;go_end0;obtain⟨⟨f',hM⟩,hW,hlen,hB,hO⟩:=HZ.out;exact⟨⟨f',rfl,hM⟩,hW,hlen,hB,hO⟩
end
end Go.Proofs.YtpbaobmegomfpabGreatDoor

/-
  Texts of the proof.
-/
import Derived.Test.YtpbaobmegomfpabGreatDoorG21
set_option linter.unusedVariables false
set_option linter.unusedSimpArgs false
set_option maxRecDepth 100000
set_option maxHeartbeats 16000000
open List renaming getElem_toArray→aE,getElem_cons_zero→aB,getElem_cons_succ→aC,setIfInBounds_toArray→aH,set_cons_zero→aG,set_cons_succ→aF,getD_cons_zero→aS,getD_cons_succ→aT,getElem?_eq_getElem→dP,take_succ_eq_append_getElem→gO,getElem?_eq_some_iff→fN,length_append→eN,length_map→dR,mem_cons_self→gJ,length_cons→fC,length_take→gK
open Nat renaming le_refl→aI,lt_of_lt_of_le→bD,le_trans→bL
open Go.Lib renaming hid→aA
open Go.RowKit.Below renaming refl→aD
open Go.World renaming cell?_of_block→aV,frozen?_of_block→iR
open And renaming intro→aJ
open Go.Act renaming put→aQ
namespace Go.Proofs.YtpbaobmegomfpabGreatDoor
open Go.RowKit
section
variable {w:World}{base H A S:Nat}{f g:Nat->Value}{G:Nat->Option Nat}{mode:Int}{m:Mach Wd}{q:Nat->List Ask}{ow:List Int}{N:Nat}
theorem yAc {m:Mach Wd}{c:Nat}(hc:c<6)(h0: ∀d,d<c->dD mode (m.get d)=false)(h1:dD mode (m.get c)=true):m.firstR mode=some c:=by
 cases hf:m.firstR mode with
 |none=>have:=wT hf hc;rw[h1]at this;cases this
 |some d=>
  obtain⟨hd,hr⟩:=nY hf;rcases Nat.lt_trichotomy d c with h|h|h
  ·rw[h0 d h]at hr;cases hr
  ·rw[h]
  ·unfold Mach.firstR at hf;rw[List.find?_eq_some_iff_append]at hf;obtain⟨_,xs,ys,e,ha⟩:=hf
   have hm:c∈xs:=by
    have hcr:c∈List.range 6:=List.mem_range.2 hc;have hs:List.Pairwise (· < ·) (List.range 6):=List.pairwise_lt_range;rw[e]at hcr hs;rcases List.mem_append.1 hcr with hh|hh
    ·exact hh
    ·rcases List.mem_cons.1 hh with hh|hh
     ·omega
     ·have:=(List.pairwise_cons.1 (List.pairwise_append.1 hs).2.1).1 c hh;omega
   have:=ha c hm;rw[h1]at this
   cases this
theorem bAm {m:Mach Wd}(h0: ∀d,d<6->dD mode (m.get d)=false):m.firstR mode=none:=by
 cases hf:m.firstR mode with
 |none=>rfl
 |some d=>obtain⟨hd,hr⟩:=nY hf;rw[h0 d hd]at hr;cases hr
theorem HInv.ok (h:HInv mode m N):MOk mode m:=by
 obtain⟨P,i,a⟩:=h;have k:=i.ok;obtain⟨e,cl,busy,line,sent,deeds⟩:=m;obtain⟨e',cl',busy',line',sent',deeds'⟩:=P;obtain rfl:cl'=cl:=a.cl;obtain rfl:busy'=busy:=a.busy;obtain rfl:line'=line:=a.line;obtain rfl:sent'=sent:=a.sent;obtain⟨k1,k2,k3,k4,k5,k6,k7⟩:=k
 constructor
 all_goals assumption
def OnI (w:World)(base H A S:Nat)(mode:Int)(N:Nat)(m:Mach Wd)(gg:Nat)(wr:World):Prop:= ∃(m1:Mach Wd) (f1 g1:Nat->Value) (G1:Nat->Option Nat) (q1:Nat->List Ask) (ow1:List Int),m1.mu<=gg/\HMem 0 wr base H A S f1 g1 G1 mode m1 q1 ow1/\HInv mode m1 N/\HRel m1 q1 ow1/\m1.all bC mode=m.all bC mode/\m1.busy.length<=8/\Below base w wr
def rJ (wr0:World)(base H A S:Nat)(mode:Int)(m1:Mach Wd)(f1 g1:Nat->Value)(G1:Nat->Option Nat)(q1:Nat->List Ask)(ow1:List Int)(k:Nat)(d:Value)(wr:World):Prop:=
 (d= .bool false/\(∀j,j<k->dD mode (m1.get j)=false)/\HMem 0 wr base H A S f1 g1 G1 mode m1 q1 ow1/\Below base wr0 wr)\/
 (d= .bool true/\ ∃c,m1.firstR mode=some c/\ ∃f2 g2 G2 q2 ow2,HMem 0 wr base H A S f2 g2 G2 mode (m1.proc bC mode c) q2 ow2/\HRel (m1.proc bC mode c) q2 ow2/\Below base wr0 wr)
theorem HMem.lined {w1:World}{b off cap:Nat}(h:HMem 0 w base H A S f g G mode m q ow)(x:Nat)(hg:w.grownBy w1 (G 10))
  (hs:Sl w1 3 1 (.slice (some ⟨b,off,none⟩) (m.line.length+1) cap) (some b) (m.line.length+1) ((m.line.map fun(n:Nat)=>Value.int .i64 (n:Int))++[.int .i64 (x:Int)])) (hb:G 10=some b\/(w.heap.size<=b/\b<w1.heap.size)):
  HMem 0 (w1.setCell ⟨H,6,none⟩ (.slice (some ⟨b,off,none⟩) (m.line.length+1) cap)) base H A S (aL f 6 (.slice (some ⟨b,off,none⟩) (m.line.length+1) cap)) g (aL G 10 (some b)) mode {m with line:=m.line++[x]} q ow:=by
 have h0:=(h.but 10).grown (by omega) h.bH.2.2 hg hb;have h1:=h0.cellH (by omega) (by omega) (.slice (some ⟨b,off,none⟩) (m.line.length+1) cap);refine h1.fill ?_ (fun k _ h2 h3=>?_) rfl (fun _ _=>rfl) (fun _ _=>rfl) (fun _ _=>rfl)
 ·have e2:aL G 10 (some b) 10=some b:=by unfold aL;rw[if_pos rfl]
  have e3:hV (aL f 6 (.slice (some ⟨b,off,none⟩) (m.line.length+1) cap)) g 10= .slice (some ⟨b,off,none⟩) (m.line.length+1) cap:=by unfold hV;rw[if_neg (by omega)];exact dQ
  rw[show hT 10=3 from rfl,show hZ 10=1 from rfl,uJ,e2,e3,dR,eN,uK,List.map_append];refine(by simpa using hs:Sl w1 _ 1 _ (some b) (m.line.length+1) _).keep fun x hx=>cM w1 H 6 _ x (h0.ne (i:=10) (by rw[e2,hx]) h0.g0 (by omega))
 ·unfold hI
  split
  ·rfl
  ·split
   ·rfl
   ·rfl
theorem HMem.lineRun (h:HMem 0 w base H A S f g G mode m q ow){n:Nat}(hn:m.line.length=n)(hl:n<=1000){ad:Nat}(x:Nat)(hx:w.cell? ⟨ad,0,none⟩=some (.int .i64 (x:Int))):
  ∃b off cap w',(Builtin.append_ #[79,79] 79 #[f 6,.slice (some ⟨ad,0,none⟩) 1 1]).run Tryz.prog w= .ok (.slice (some ⟨b,off,none⟩) (n+1) cap) w'/\w'.cell? ⟨H,6,none⟩=some (f 6)/\w'.frozen? ⟨H,6,none⟩=false/\H<w'.heap.size/\
   HMem 0 (w'.setCell ⟨H,6,none⟩ (.slice (some ⟨b,off,none⟩) (n+1) cap)) base H A S (aL f 6 (.slice (some ⟨b,off,none⟩) (n+1) cap)) g (aL G 10 (some b)) mode {m with line:=m.line++[x]} q ow/\Below base w (w'.setCell ⟨H,6,none⟩ (.slice (some ⟨b,off,none⟩) (n+1) cap)):=by
 subst hn;obtain⟨i0,hi,hz0,hz1,hz2⟩:=info_parts qX;have hbH:=h.bH
 obtain ⟨b, off, cap, w', hrun, hs, hg, hb⟩ := h.lineSl.append (P := Tryz.prog) 79 79 i0 _ 8 Tryz.underlying79 hi hz0 hz1 hz2 rfl (by omega) ⟨ad, 0, none⟩ 1 [.int .i64 (x : Int)] rfl (fun j u hu => by
  cases j with
  |zero=>simp at hu;rw[<-hu];exact hx
  | succ j => simp at hu) (fun u hu => by simp at hu; rw [hu]; rfl) (by unfold maxLen; omega) (by omega)
 have hP':=hg.block H h.h.lt (fun e=>h.ne (i:=10) (j:=0) (b:=H) (c:=H) e.symm h.g0 (by omega) rfl);exact⟨b,off,cap,w',hrun,(aV (a:=⟨H,6,none⟩) hP').trans (h.h.cell (j:=6) (by omega)),(iR (a:=⟨H,6,none⟩) hP').trans (h.h.frozen _),bD h.h.lt hg.size,h.lined x hg hs hb,((aD base w).grown hg hbH.2.2 (fun x hx=>(h.lo _ _ hx).1)).setCell hbH.1 _⟩
def jJ (m:Mach Wd)(k:Nat):List Nat:=(List.range k).foldl (fQ m) m.line
theorem bAn (m:Mach Wd)(k:Nat):jJ m (k+1)=fQ m (jJ m k) k:=by unfold jJ;rw[List.range_succ,List.foldl_append];rfl
def uR (wr0:World)(base H A S:Nat)(mode:Int)(m1:Mach Wd)(g1:Nat->Value)(q1:Nat->List Ask)(ow1:List Int)(k:Nat)(wr:World):Prop:=
 (∃f2 G2,HMem 0 wr base H A S f2 g1 G2 mode {m1 with line:=jJ m1 k} q1 ow1)/\(jJ m1 k).length<=6+k/\Below base wr0 wr
theorem HMem.cutLine (h:HMem 0 w base H A S f g G mode m q ow){c:Nat}{l:List Nat}(hl:m.line=c::l){b off cap:Nat}(hv:f 6= .slice (some ⟨b,off,none⟩) (l.length+1) cap):
  HMem 0 (w.setCell ⟨H,6,none⟩ (fH b off 1 l.length cap)) base H A S (aL f 6 (fH b off 1 l.length cap)) g G mode {m with line:=l} q ow:=by
 have hsl:=h.lineSl;rw[hv,hl]at hsl;have hcut:=Sl.cut hsl;have h1:=(h.but 10).cellH (by omega) (by omega) (fH b off 1 l.length cap);refine h1.fill ?_ (fun k _ h2 h3=>?_) rfl (fun _ _=>rfl) (fun _ _=>rfl) (fun _ _=>rfl)
 ·have e3:hV (aL f 6 (fH b off 1 l.length cap)) g 10=fH b off 1 l.length cap:=by unfold hV;rw[if_neg (by omega)];exact dQ
  rw[show hT 10=3 from rfl,show hZ 10=1 from rfl,uJ,e3,dR,uK];exact(show Sl w _ 1 _ (G 10) l.length (l.map fun(n:Nat)=>Value.int .i64 (n:Int))from hcut).keep fun x hx=>cM w H 6 _ x (h.ne (i:=10) hx h.g0 (by omega))
 ·unfold hI
  split
  ·rfl
  ·split
   ·rfl
   ·rfl
theorem HRel.first (h:HRel m q ow){k:Nat}(hk:k<ow.length)(hno: ∀j (hj:j<ow.length),j<k->ow[j]≠ -1)(h1:ow[k]= -1):m.busy.idxOf false=k/\m.busy.idxOf false<m.busy.length:=by
 obtain⟨hkb,e⟩:=fN.1 ((h.free k hk).1 h1);have h2:=xJ hkb e;have h3:m.busy.idxOf false<m.busy.length:=Nat.lt_of_le_of_lt h2 hkb;refine⟨?_,h3⟩;rcases Nat.lt_or_ge (m.busy.idxOf false) k with h4|h4
 ·have h5:m.busy[m.busy.idxOf false]? =some false:=by rw[dP h3,List.getElem_idxOf]
  exact absurd ((h.free _ (by rw[h.own];exact h3)).2 h5) (hno _ _ h4)
 ·omega
theorem HRel.full (h:HRel m q ow)(hno: ∀j (hj:j<ow.length),ow[j]≠ -1): ¬m.busy.idxOf false<m.busy.length:=fun h3=>by
 have h5:m.busy[m.busy.idxOf false]? =some false:=by rw[dP h3,List.getElem_idxOf]
 exact absurd ((h.free _ (by rw[h.own];exact h3)).2 h5) (hno _ _)
def yK (wr0:World)(base H A S:Nat)(mode:Int)(m2:Mach Wd)(g1:Nat->Value)(q1:Nat->List Ask)(ow1:List Int)(k:Nat)(d:Value)(wr:World):Prop:=
 (d= .bool false/\(∀j (hj:j<ow1.length),j<k->ow1[j]≠ -1)/\(∃f2 G2,HMem 0 wr base H A S f2 g1 G2 mode m2 q1 ow1)/\Below base wr0 wr)\/
 (d= .bool true/\ ∃m3,m2.assign bC=(true,m3)/\ ∃f2 g2 G2 q2 ow2,HMem 0 wr base H A S f2 g2 G2 mode m3 q2 ow2/\HRel m3 q2 ow2/\Below base wr0 wr)
theorem bAo (h:m.line=[]):m.assign bC=(false,m):=by unfold Mach.assign;rw[h]
theorem bAp (h: ¬m.busy.idxOf false<m.busy.length):m.assign bC=(false,m):=by
 unfold Mach.assign
 split
 ·rfl
 ·rw[if_neg h]
theorem bAq {c k:Nat}{l:List Nat}(hl:m.line=c::l)(h1:m.busy.idxOf false=k)(h2:m.busy.idxOf false<m.busy.length):m.assign bC=(true,Mach.set {m with line:=l,busy:=m.busy.set k true} c {m.get c with srv:=some k}):=by
 subst h1;unfold Mach.assign;rw[hl];simp only;rw[if_pos h2];rfl
theorem OnI.next {w wr wr':World}{m1 m2 m:Mach Wd}(hI:HInv mode m1 N)(hall:m1.all bC mode=m.all bC mode)(hb8:m1.busy.length<=8)(hB:Below base w wr)(hst:m1.step bC mode=(true,m2)){f2 g2:Nat->Value}{G2:Nat->Option Nat}{q2:Nat->List Ask}{ow2:List Int}(hM:HMem 0 wr' base H A S f2 g2 G2 mode m2 q2 ow2)(hR:HRel m2 q2 ow2)(hB2:Below base wr wr'):
  OnI w base H A S mode N m m2.mu wr'/\m2.mu<m1.mu:=by
 have h1:=hI.step;have h2:=(hI.ok.step (o:=bC)).2 (by rw[hst]);have h3:=wV (o:=bC) hI.ok (by rw[hst]);have h4:=tW (o:=bC) (mode:=mode) m1;rw[hst]at h1 h2 h3 h4;exact⟨⟨m2,f2,g2,G2,q2,ow2,aI _,hM,h1,hR,by rw[<-hall,h3],by rw[h4];exact hb8,hB.trans hB2⟩,h2⟩
theorem uS (w:World)(h:HMem 0 w base H A S f g G mode m q ow)(hI:HInv mode m N)(hN:N<=300000)(hrel:HRel m q ow)(hbl:m.busy.length<=8):
  Calls Tryz.prog 30 #[.pointer (some ⟨H,0,none⟩)] w (HQ w base H A S mode (m.all bC mode)):=by
 have H0:=aA (aJ h (aJ hI (aJ hrel (aJ hbl hN))));clear h hI hN hrel hbl;go_enter Tryz.func30,Tryz.ntmps30;go_wp2_with fail
 go_loopg [2,3,4,5,6] m.mu (fun gg _ _ _ _ _ wr=>Hid (OnI w base H A S mode N m gg wr))
 case atStart=>exact⟨m,f,g,G,q,ow,aI _,H0.out.1,H0.out.2.1,H0.out.2.2.1,rfl,H0.out.2.2.2.1,aD _ _⟩
 case round=>
  obtain⟨m1,f1,g1,G1,q1,ow1,hmu,hM,hI,hR,hall,hb8,hB⟩:=hrel.out;have HO:=aA (aJ hM (aJ hI (aJ hR (aJ hall (aJ hb8 hB)))));have HMU:=aA hmu;clear hM hI hR hall hb8 hB hrel hmu;go_wp2_with fail
  go_loopg [2,3] 6 (fun gk d i wi=> ∃k:Nat,k<=6/\gk=6-k/\i= .int .i64 k/\Hid (rJ wr base H A S mode m1 f1 g1 G1 q1 ow1 k d wi))
  case atStart=>exact⟨0,by omega,rfl,rfl,Or.inl ⟨rfl,fun j hj=>absurd hj (by omega),HO.out.1,aD _ _⟩⟩
  case round=>
   obtain⟨k,hk,rfl,rfl,HZ⟩:=hrel;rcases HZ.out with⟨rfl,hno,hM,hB⟩|⟨rfl,HD⟩
   ·have h4:wr.cell? ⟨H,4,none⟩=some (.slice (some ⟨A,0,none⟩) 6 6):=(by rw[hM.h.cell (by omega),hM.f4]);have hHl:=hM.h.lt;have hAl:=hM.a.lt
    by_cases hlt:k<6
    ·have hkI:(k:Int)<6:=(by omega);have ga1:=hM.a.cell (j:=k*4+1) (by omega);have ga2:=hM.a.cell (j:=k*4+2) (by omega);rw[hM.srv k hlt]at ga2;obtain⟨Aw,cw,hv,_⟩:=(hM.waitSl hlt).shape;rw[hv]at ga1;have HMM:=aA (aJ hM (aJ hB hno));have hwt:=HO.out.2.2.1.wait k hlt
     cases hq:q1 k with
     |nil=>
      rw[hq]at ga1 hwt;simp only[List.length_nil]at ga1
      have HF := aA (show rJ _ base H A S mode m1 f1 g1 G1 q1 ow1 (k + 1) (.bool false) wr from Or.inl ⟨rfl, fun j hj => by
       by_cases e:j=k
       ·subst e;unfold dD;rw[hwt];rfl
       ·exact HMM.out.2.2 j (by omega), HMM.out.1, HMM.out.2.1⟩)
      clear hM hB hno HMM hv hwt hq HZ ga2;go_wp2
      go_roundg (6-(k+1))
      case measure=>omega
      case rel=>exact⟨k+1,by omega,rfl,by go_num,HF.out⟩
     |cons a l=>
      rw[hq]at ga1 hwt;simp only[fC]at ga1;have hpos:(0:Int)<((l.length+1:Nat):Int):=(by omega);have HQ:=aA hq;have HWT:=aA hwt;clear hM hB hno hv hwt hq HZ
      cases hs:(m1.get k).srv with
      |some s=>
       rw[hs]at ga2;unfold lP at ga2;simp only at ga2;have hrd:dD mode (m1.get k)=true:=(by unfold dD;rw[HWT.out];simp[hs]);have HFC:=aA (yAc hlt HMM.out.2.2 hrd);have HON:=aA (yAb wr HMM.out.1 HO.out.2.1 H0.out.2.2.2.2 HO.out.2.2.1 k hlt a l HQ.out hrd);clear hs hrd HQ HWT;generalize l.length=nl at*;go_wp2_with fail;refine HON.out.mono ?_;rintro e w1 ⟨q2,ow2,⟨f2,g2,G2,rfl,hM2,hB2⟩,hR2⟩;have HF:=aA (show rJ _ base H A S mode m1 f1 g1 G1 q1 ow1 (k+1) (.bool true) w1 from Or.inr ⟨rfl,k,HFC.out,f2,g2,G2,q2,ow2,hM2,hR2,HMM.out.2.1.trans hB2⟩);clear hM2 hB2 hR2 HON HFC HMM h4 ga1 ga2 hHl hAl;go_wp2
       go_roundg (6-(k+1))
       case measure=>omega
       case rel=>exact⟨k+1,by omega,rfl,by go_num,HF.out⟩
      |none=>
       rw[hs]at ga2;unfold lP at ga2;simp only at ga2;have HAL:=aA (yA3 wr HMM.out.1 k hlt a l HQ.out (HO.out.2.2.1.good k hlt a (by rw[HQ.out];exact gJ)));have hre:dD mode (m1.get k)=eJ mode a.req:=by unfold dD;rw[HWT.out];simp[hs]
       cases hrf:eJ mode a.req with
       |true=>
        rw[hrf]at HAL hre;have HFC:=aA (yAc hlt HMM.out.2.2 hre);have HON:=aA (fun(w1:World) (hb:Below wr.heap.size wr w1)=>yAb w1 (HMM.out.1.below hb) HO.out.2.1 H0.out.2.2.2.2 HO.out.2.2.1 k hlt a l HQ.out hre);clear hs hre hrf HQ HWT;generalize l.length=nl at*;go_wp2_with fail;refine HAL.out.mono ?_;rintro e w1 ⟨rfl,hb1⟩;have HB1:=aA hb1;have HON1:=aA (HON.out w1 hb1);clear hb1 HON HAL h4 ga1 ga2;go_wp2_with fail;refine HON1.out.mono ?_;rintro e w2 ⟨q2,ow2,⟨f2,g2,G2,rfl,hM2,hB2⟩,hR2⟩;have HF:=aA (show rJ _ base H A S mode m1 f1 g1 G1 q1 ow1 (k+1) (.bool true) w2 from Or.inr ⟨rfl,k,HFC.out,f2,g2,G2,q2,ow2,hM2,hR2,(HMM.out.2.1.trans (HB1.out.mono HMM.out.1.bH.2.2)).trans hB2⟩);clear hM2 hB2 hR2 HON1 HFC HMM HB1 hHl hAl;go_wp2
        go_roundg (6-(k+1))
        case measure=>omega
        case rel=>exact⟨k+1,by omega,rfl,by go_num,HF.out⟩
       |false=>
        rw[hrf]at HAL hre;have HRE:=aA hre;clear hs hre hrf HQ HWT;generalize l.length=nl at*;go_wp2_with fail;refine HAL.out.mono ?_;rintro e w1 ⟨rfl,hb1⟩
        have HF := aA (show rJ _ base H A S mode m1 f1 g1 G1 q1 ow1 (k + 1) (.bool false) w1 from Or.inl ⟨rfl, fun j hj => by
         by_cases e:j=k
         ·subst e;exact HRE.out
         ·exact HMM.out.2.2 j (by omega), HMM.out.1.below hb1, HMM.out.2.1.trans (hb1.mono HMM.out.1.bH.2.2)⟩)
        clear hb1 HAL HRE HMM h4 ga1 ga2 hHl hAl;go_wp2
        go_roundg (6-(k+1))
        case measure=>omega
        case rel=>exact⟨k+1,by omega,rfl,by go_num,HF.out⟩
    ·obtain rfl:k=6:=(by omega);have HS:=aA (aJ (bAm hno) (aJ hM hB));clear hno hM hB HZ h4 hHl hAl;go_wp2_with fail
     go_loopg [4] 6 (fun gk i wi=> ∃k:Nat,k<=6/\gk=6-k/\i= .int .i64 k/\Hid (uR wr base H A S mode m1 g1 q1 ow1 k wi))
     case atStart=>exact⟨0,by omega,rfl,rfl,⟨f1,G1,HS.out.2.1⟩,by have:=HO.out.2.1.line;show m1.line.length<=_;omega,aD _ _⟩
     case round=>
      obtain⟨k,hk,rfl,rfl,HZ⟩:=hrel;obtain⟨⟨f2,G2,hM⟩,hlen,hB⟩:=HZ.out;have h4:wr.cell? ⟨H,4,none⟩=some (.slice (some ⟨A,0,none⟩) 6 6):=(by rw[hM.h.cell (by omega),hM.f4]);have hHl:=hM.h.lt;have hAl:=hM.a.lt;have HLS:=aA (bAn m1 k)
      by_cases hlt:k<6
      ·have hkI:(k:Int)<6:=(by omega);have ga1:=hM.a.cell (j:=k*4+1) (by omega);obtain⟨Aw,cw,hv,_⟩:=(hM.waitSl hlt).shape;rw[hv]at ga1;have hwt:=HO.out.2.2.1.wait k hlt
       cases hq:q1 k with
       |nil=>
        rw[hq]at ga1 hwt;simp only[List.length_nil]at ga1;have HE:=aA (show jJ m1 (k+1)=jJ m1 k by rw[HLS.out];unfold fQ;rw[if_neg (fun hh=>hh.1 (by rw[hwt];rfl))]);have HF:=aA (show uR _ base H A S mode m1 g1 q1 ow1 (k+1) wr from⟨⟨f2,G2,by rw[HE.out];exact hM⟩,by rw[HE.out];omega,hB⟩);clear hM hB hlen hv hwt hq HZ HE HLS;go_wp2
        go_roundg (6-(k+1))
        case measure=>omega
        case rel=>exact⟨k+1,by omega,rfl,by go_num,HF.out⟩
       |cons a l=>
        rw[hq]at ga1 hwt;simp only[fC]at ga1;have hpos:(0:Int)<((l.length+1:Nat):Int):=(by omega);have h6:=hM.h.cell (j:=6) (by omega);have hsl:=hM.lineSl;have HCN:=aA (bAk (f2 6) (G2 10) (jJ m1 k) k wr hsl (by omega));have HSH:=aA hsl.shape
        cases hin:(jJ m1 k).contains k with
        |true=>
         rw[hin]at HCN;have HE:=aA (show jJ m1 (k+1)=jJ m1 k by rw[HLS.out];unfold fQ;rw[if_neg (fun hh=>hh.2 (List.contains_iff_mem.1 hin))]);have HF:=aA (show uR _ base H A S mode m1 g1 q1 ow1 (k+1) wr from⟨⟨f2,G2,by rw[HE.out];exact hM⟩,by rw[HE.out];omega,hB⟩);clear hM hB hlen hv hwt hq HZ HE HLS hin hsl;obtain⟨A',c',hv',_⟩:=HSH.out;generalize f2 6=v6 at*;subst hv';generalize l.length=nl at*;go_wp2_with fail;refine HCN.out.mono ?_;rintro e w1 ⟨rfl,rfl⟩;go_wp2
         go_roundg (6-(k+1))
         case measure=>omega
         case rel=>exact⟨k+1,by omega,rfl,by go_num,HF.out⟩
        |false=>
         rw[hin]at HCN;have HE:=aA (show jJ m1 (k+1)=jJ m1 k++[k] by rw[HLS.out];unfold fQ;rw[if_pos ⟨by rw[hwt];simp,fun hh=>by rw[List.contains_iff_mem.2 hh]at hin;cases hin⟩]);have n1:=(aD wr.heap.size wr).alloc (aI _) (.cells #[.int .i64 (k:Int)] 3);have X:=(RowTo.whole wr #[.int .i64 (k:Int)] 3).cell (j:=0) (by simp);obtain⟨nk,hnk⟩: ∃n,(jJ m1 k).length=n:=⟨_,rfl⟩;obtain⟨b,off,cap,w2,hrun,u0,z0,hH2,hM2,hB2⟩:=(hM.below n1).lineRun (n:=nk) hnk (by omega) (ad:=wr.heap.size) k X;have HF:=aA (show uR _ base H A S mode m1 g1 q1 ow1 (k+1) _ from⟨⟨_,_,by rw[HE.out];exact hM2⟩,by rw[HE.out];simp;omega,hB.trans ((n1.mono hM.bH.2.2).trans hB2)⟩);have h61:=(n1.cell (p:=⟨H,6,none⟩) hHl).trans h6;obtain⟨A',c',hv',_⟩:=HSH.out;have hv2:f2 6= .slice A' nk c':=(by rw[<-hnk];exact hv');clear hM hB hlen hv hwt hq HZ HE HLS hin hsl hM2 hB2 n1 X hv' hnk;rw[hv2]at hrun u0 h6 h61 HCN;clear hv2 HSH;generalize l.length=nl at*;go_wp2_with fail;refine HCN.out.mono ?_;rintro e w1 ⟨rfl,rfl⟩;go_wp2_with (at_builtin;refine Lib.wpList_append_run _ rfl _ _ _ _ rfl _ _ rfl rfl _ _ hrun ?_)
         go_roundg (6-(k+1))
         case measure=>omega
         case rel=>exact⟨k+1,by omega,rfl,by go_num,HF.out⟩
      ·obtain rfl:k=6:=(by omega);have HST:=aA (show m1.step bC mode=m1.enq.assign bC by unfold Mach.step;rw[HS.out.1]);have HI2:=aA (HO.out.2.1.enq HS.out.1);have HR2:=aA (show HRel m1.enq q1 ow1 from HO.out.2.2.1.same (fun _ _=>rfl) rfl);have HS2:=aA (show(∃f2 G2,HMem 0 wr base H A S f2 g1 G2 mode m1.enq q1 ow1)/\Below base _ wr from⟨⟨f2,G2,hM⟩,hB⟩);have hnb:ow1.length<=8:=(by rw[HR2.out.own];exact HO.out.2.2.2.2.1);have HBS:=aA ((HO.out.2.2.2.2.2.trans HS.out.2.2).trans hB);have h5:=hM.h.cell (j:=5) (by omega);obtain⟨Ao,co,hvo,_⟩:=hM.ownSl.shape;rw[hvo]at h5;clear hM hB hlen HZ h4 hAl HLS hvo;go_wp2_with fail
       go_loopg [2,5,6] ow1.length (fun gk d s c wi=> ∃k:Nat,k<=ow1.length/\gk=ow1.length-k/\s= .int .i64 k/\Hid (yK wr base H A S mode m1.enq g1 q1 ow1 k d wi))
       case atStart=>exact⟨0,by omega,rfl,rfl,Or.inl ⟨rfl,fun j hj hj'=>absurd hj' (by omega),HS2.out.1,aD _ _⟩⟩
       case round=>
        obtain⟨k,hk,rfl,rfl,HZ⟩:=hrel;rcases HZ.out with⟨rfl,hno,⟨f2,G2,hM⟩,hB⟩|⟨rfl,HD⟩
        ·have hHl:=hM.h.lt;have h5:=hM.h.cell (j:=5) (by omega);have h6:=hM.h.cell (j:=6) (by omega);obtain⟨Ao,co,hvo,_⟩:=hM.ownSl.shape;obtain⟨Al,cl,hvl,_⟩:=hM.lineSl.shape;rw[hvo]at h5
         by_cases hlt:k<ow1.length
         ·have hkI:(k:Int)<(ow1.length:Int):=by omega
          cases hl:m1.enq.line with
          |nil=>
           have HAS:=aA (bAo hl);rw[hvl,hl]at h6;simp only[List.length_nil]at h6;clear hno hvo hvl hl;have HQ:=aA (show m.all bC mode=m1.enq by rw[<-HO.out.2.2.2.1,qQ (o:=bC) (m:=m1) (by rw[HST.out,HAS.out]),HST.out,HAS.out]);have HF:=aA (aJ hM (HBS.out.trans hB));clear hM hB HZ;go_wp2_with fail;go_end0;exact⟨q1,ow1,⟨f2,g1,G2,rfl,by rw[HQ.out];exact HF.out.1,HF.out.2⟩,by rw[HQ.out];exact HR2.out⟩
          |cons c l=>
           obtain⟨bo,oo,co2,hG9,hvo2,_,hcs⟩:=hM.ownSl.at (by omega);have c0:=hcs k (by simpa using hlt);rw[List.getElem_map]at c0;obtain⟨rfl,rfl⟩:Ao=some ⟨bo,oo,none⟩/\co=co2:=(by rw[hvo]at hvo2;injection hvo2 with e1 e2 e3;exact⟨e1,e3⟩);have hpos:(0:Int)<((l.length+1:Nat):Int):=by omega
           by_cases hfr:ow1[k]= -1
           ·have t1:(ow1[k]== -1)=true:=by simpa using hfr
            have hbf:=HR2.out.first hlt hno hfr;have hc6:=(HI2.out.ok.line c (by rw[hl];exact gJ)).1;have hcI:(c:Int)<6:=(by omega);have hsl:=hM.lineSl;rw[hl]at hsl;obtain⟨b,off,cap,hG10,hv6,hcap,hls⟩:=hsl.at (by simp);have l0:=hls 0 (by simp);simp only[List.map_cons,aB,Nat.add_zero]at l0;simp only[fC]at hv6;have hcapl:l.length+1<=cap:=by simpa using hcap
            rw[hv6]at h6;have hM1:=hM.cutLine hl hv6;obtain⟨vq,hvq⟩: ∃v,fH b off 1 l.length cap=v:=⟨_,rfl⟩;rw[hvq]at hM1;obtain⟨bo',oo',co',hG',hf5,_,⟨y,hy⟩,hfz,hbo,hM2⟩:=hM1.setOwn (j:=k) hlt (c:Int) (m1.busy.set k true);have h5':=hM1.h.cell (j:=5) (by omega);rw[hf5]at h5';have hf5':f2 5= .slice (some ⟨bo',oo',none⟩) ow1.length co':=(by rw[<-hf5];exact(aP (by omega)).symm);obtain⟨rfl,rfl,rfl⟩:bo=bo'/\oo=oo'/\co=co':=(by rw[hvo]at hf5';injection hf5' with e1 e2 e3;injection e1 with e1;injection e1 with e1 e4;exact⟨e1,e4,e3⟩);have h4:=hM2.h.cell (j:=4) (by omega);rw[hM2.f4]at h4;have s2:=hM2.a.cell (j:=c*4+2) (by omega);have z2:=hM2.a.frozen (c*4+2);have z6:=hM.h.frozen 6;have hM3:=hM2.setSrv hc6 HI2.out.n6 (some k);have hB3:=(((aD base wr).setCell (p:=⟨H,6,none⟩) hM.bH.1 vq).setCell (p:=⟨bo,oo+k,none⟩) (hM.lo 9 bo hG').1 (.int .i64 (c:Int))).setCell (p:=⟨A,c*4+2,none⟩) hM.bH.2.1 (.int .i64 (k:Int))
            have hrl : HRel (Mach.set { m1.enq with line := l, busy := m1.busy.set k true } c { m1.enq.get c with srv := some k }) q1 (ow1.set k (c : Int)) := HR2.out.taken (s := k) (c := c) (fun d hd => by
             have hgs:=cZ (m:={m1.enq with line:=l,busy:=m1.busy.set k true}) (c:=c) (d:=d) (x:={m1.enq.get c with srv:=some k}) (by show c<m1.enq.cl.length;rw[HI2.out.n6];exact hc6);rw[hgs]
             split
             ·rename_i e;rw[<-e]
             ·rfl) rfl
            have HF:=aA (show yK _ base H A S mode m1.enq g1 q1 ow1 (k+1) (.bool true) _ from Or.inr ⟨rfl,_,bAq hl hbf.1 hbf.2,_,_,_,_,_,hM3,hrl,hB.trans hB3⟩);clear hM hB HZ hno hvo hvl hl hvo2 hcs hfr hbf hsl hv6 hls hcap hM1 hM2 hM3 hB3 hrl hf5 hf5' hG9 hG' hG10 hbo;unfold lP at HF;generalize ow1[k]=ov at*;generalize l.length=nl at*
            by_cases hcp:cap=1
            ·subst hcp;obtain rfl:nl=0:=(by omega);have hvq:Value.slice (some ⟨b,off,none⟩) 0 0=vq:=hvq;subst hvq;go_wp2_with fail
             go_roundg (ow1.length-(k+1))
             case measure=>omega
             case rel=>exact⟨k+1,by omega,rfl,by go_num,HF.out⟩
            ·have hvq:Value.slice (some ⟨b,off+1,none⟩) nl (cap-1)=vq:=(by rw[<-hvq];unfold fH;rw[if_neg hcp]);subst hvq;have hcp2:cap-1≠0:=(by omega);have hcp3: ¬cap<=1:=(by omega);have hlI: ¬((nl:Int)+1<1):=(by omega);go_wp2_with fail
             go_roundg (ow1.length-(k+1))
             case measure=>omega
             case rel=>exact⟨k+1,by omega,rfl,by go_num,HF.out⟩
           ·have t1:(ow1[k]== -1)=false:=by simpa using hfr
            have HF := aA (show yK _ base H A S mode m1.enq g1 q1 ow1 (k + 1) (.bool false) wr from Or.inl ⟨rfl, fun j hj hj' => by
             by_cases e:j=k
             ·subst e;exact hfr
             ·exact hno j hj (by omega), ⟨f2, G2, hM⟩, hB⟩)
            rw[hvl,hl]at h6;simp only[fC]at h6;clear hM hB HZ hno hvo hvl hl hvo2 hcs hfr;generalize ow1[k]=ov at*;generalize l.length=nl at*;go_wp2_with fail
            go_roundg (ow1.length-(k+1))
            case measure=>omega
            case rel=>exact⟨k+1,by omega,rfl,by go_num,HF.out⟩
         ·obtain rfl:k=ow1.length:=(by omega);have HAS:=aA (bAp (HR2.out.full (fun j hj=>hno j hj hj)));rw[hvl]at h6;clear hno hvo hvl;have HQ:=aA (show m.all bC mode=m1.enq by rw[<-HO.out.2.2.2.1,qQ (o:=bC) (m:=m1) (by rw[HST.out,HAS.out]),HST.out,HAS.out]);have HF:=aA (aJ hM (HBS.out.trans hB));clear hM hB HZ;go_wp2_with fail;go_end0;exact⟨q1,ow1,⟨f2,g1,G2,rfl,by rw[HQ.out];exact HF.out.1,HF.out.2⟩,by rw[HQ.out];exact HR2.out⟩
        ·obtain⟨m3,has,f3,g3,G3,q3,ow3,hM3,hR3,hB3⟩:=HD;have h5:=hM3.h.cell (j:=5) (by omega);obtain⟨Ao,co,hvo,_⟩:=hM3.ownSl.shape;rw[hvo]at h5;have hHl:=hM3.h.lt;obtain⟨hn,hmu⟩:=OnI.next (m:=m) HO.out.2.1 HO.out.2.2.2.1 HO.out.2.2.2.2.1 HBS.out (HST.out.trans has) hM3 hR3 hB3;have HN:=aA hn;clear hM3 hR3 hB3 has hn hvo HZ
         by_cases hlt:(k:Int)<(ow3.length:Int)
         all_goals
          go_wp2_with fail
          go_roundg (m3.mu)
          case measure=>have:=HMU.out;omega
          case rel=>exact HN.out
   ·have HF:=aA HD;clear HD HZ
    by_cases hlt:k<6
    ·have hkI:(k:Int)<6:=(by omega);obtain⟨c,hfc,f2,g2,G2,q2,ow2,hM2,hR2,hB2⟩:=HF.out;obtain⟨hn,hmu⟩:=OnI.next (m:=m) HO.out.2.1 HO.out.2.2.2.1 HO.out.2.2.2.2.1 HO.out.2.2.2.2.2 (show m1.step bC mode=(true,m1.proc bC mode c) by unfold Mach.step;rw[hfc]) hM2 hR2 hB2;have HN:=aA hn;clear hfc hM2 hR2 hB2 hn HF;go_wp2
     go_roundg ((m1.proc bC mode c).mu)
     case measure=>have:=HMU.out;omega
     case rel=>exact HN.out
    ·obtain rfl:k=6:=(by omega);obtain⟨c,hfc,f2,g2,G2,q2,ow2,hM2,hR2,hB2⟩:=HF.out;obtain⟨hn,hmu⟩:=OnI.next (m:=m) HO.out.2.1 HO.out.2.2.2.1 HO.out.2.2.2.2.1 HO.out.2.2.2.2.2 (show m1.step bC mode=(true,m1.proc bC mode c) by unfold Mach.step;rw[hfc]) hM2 hR2 hB2;have HN:=aA hn;clear hfc hM2 hR2 hB2 hn HF;go_wp2
     go_roundg ((m1.proc bC mode c).mu)
     case measure=>have:=HMU.out;omega
     case rel=>exact HN.out
end
section
variable {w w':World}{base H A S:Nat}{f g:Nat->Value}{G:Nat->Option Nat}{mode:Int}{m:Mach Wd}{q:Nat->List Ask}{ow:List Int}{N:Nat}
theorem HMem.sess (h:HMem 0 w base H A S f g G mode m q ow)(ho:Only S w w'){W:Wd}(hr:RefP (cX G) w' S 6 (f 2) W):HMem 0 w' base H A S f g G mode {m with e:=W} q ow:=
 ⟨h.h.same (ho.2 H h.h.lt (h.ne h.g0 h.g2 (by omega))), h.a.same (ho.2 A h.a.lt (h.ne h.g1 h.g2 (by omega))), hr, h.g0, h.g1, h.g2, fun i b hi => ⟨(h.lo i b hi).1, bD (h.lo i b hi).2 ho.1⟩, h.inj,
  fun k h1 h2 h3 => (show Sl w (hT k) (hZ k) (hV f g k) (G k) (hI { m with e := W } q ow k).length (hI { m with e := W } q ow k).flatten from h.sl k h1 h2 h3).keep fun b hb => ho.2 b (h.lo k b hb).2 (fun e => by have := h.inj k 2 S (by rw [hb, e]) h.g2; omega), h.md, h.f3, h.f4, h.bytes, h.srv, h.sent⟩
def kR (g:Nat->Value)(c:Nat):Nat->Value:=aL (aL (aL (aL g (c*4) (.string ⟨#[]⟩)) (c*4+1) (.slice none 0 0)) (c*4+2) (.int .i64 (-1))) (c*4+3) (g (c*4+3))
theorem bAr (g:Nat->Value)(c:Nat):kR g c (c*4)= .string ⟨#[]⟩/\kR g c (c*4+1)= .slice none 0 0/\kR g c (c*4+2)= .int .i64 (-1)/\kR g c (c*4+3)=g (c*4+3):=by
 unfold kR;refine⟨?_,?_,?_,dQ⟩
 ·rw[aP (by omega),aP (by omega),aP (by omega),dQ]
 ·rw[aP (by omega),aP (by omega),dQ]
 ·rw[aP (by omega),dQ]
theorem uT {c d j:Nat}(h:d≠c)(hj:j<4):kR g c (d*4+j)=g (d*4+j):=by
 unfold kR;rw[aP (by omega),aP (by omega),aP (by omega),aP (by omega)]
theorem HMem.fresh (h:HMem 0 w base H A S f g G mode m q ow){c:Nat}(hc:c<6)(hcl:m.cl.length=6):
  HMem 0 ((((w.setCell ⟨A,c*4,none⟩ (.string ⟨#[]⟩)).setCell ⟨A,c*4+1,none⟩ (.slice none 0 0)).setCell ⟨A,c*4+2,none⟩ (.int .i64 (-1))).setCell ⟨A,c*4+3,none⟩ (g (c*4+3))) base H A S f (kR g c) (aL G (c+3) none) mode (m.set c Cl.new) (aL q c []) ow:=by
 have hcl':c<m.cl.length:=by omega
 have hk: ∀b,b≠A->((((w.setCell ⟨A,c*4,none⟩ (.string ⟨#[]⟩)).setCell ⟨A,c*4+1,none⟩ (.slice none 0 0)).setCell ⟨A,c*4+2,none⟩ (.int .i64 (-1))).setCell ⟨A,c*4+3,none⟩ (g (c*4+3))).heap[b]? =w.heap[b]? :=fun b hb=>by
  rw[cM _ A _ _ b hb,cM _ A _ _ b hb,cM _ A _ _ b hb,cM _ A _ _ b hb]
 have hz:((((w.setCell ⟨A,c*4,none⟩ (.string ⟨#[]⟩)).setCell ⟨A,c*4+1,none⟩ (.slice none 0 0)).setCell ⟨A,c*4+2,none⟩ (.int .i64 (-1))).setCell ⟨A,c*4+3,none⟩ (g (c*4+3))).heap.size=w.heap.size:=by rw[cT,cT,cT,cT]
 have up: ∀i,i≠c+3->aL G (c+3) none i=G i:=fun i hi=>by unfold aL;rw[if_neg hi]
 have upX:aL G (c+3) none (c+3)=none:=by unfold aL;rw[if_pos rfl]
 have sub: ∀i b,aL G (c+3) none i=some b->G i=some b:=fun i b hb=>by
  by_cases e:i=c+3
  ·rw[e,upX]at hb;cases hb
  ·rw[up i e]at hb;exact hb
 have hHA:=h.ne h.g0 h.g1 (by omega);have hSA:=h.ne h.g2 h.g1 (by omega);have at4:=bAr g c;have gt: ∀d,(m.set c Cl.new).get d=if c=d then Cl.new else m.get d:=fun d=>cZ hcl'
 refine⟨h.h.same (hk H hHA),(((h.a.set _ _).set _ _).set _ _).set _ _,(h.ref.keep (by omega) (hk S hSA) (fun b hb _=>hk b (fun e=>hb 1 (by rw[e];exact h.g1)))).mono fun b hb=>qU hb,(up 0 (by omega)).trans h.g0,(up 1 (by omega)).trans h.g1,(up 2 (by omega)).trans h.g2,fun i b hi=>by rw[hz];exact h.lo i b (sub i b hi),fun i j b hi hj=>h.inj i j b (sub i b hi) (sub j b hj),fun k h1 h2 h3=>?_,h.md,h.f3,h.f4,fun d hd=>?_,fun d hd=>?_,fun d hd=>?_⟩
 ·by_cases ek:k=c+3
  ·subst ek;have e2:aL q c [] c=[]:=by unfold aL;rw[if_pos rfl]
   rw[upX,uH _ _ hc,uI _ _ _ hc,e2,at4.2.1];exact Sl.nil_ _ _ _
  ·have e1:hV f (kR g c) k=hV f g k:=by
    unfold hV
    split
    ·exact uT (d:=k-3) (j:=1) (by omega) (by omega)
    ·rfl
   have e2:hI (m.set c Cl.new) (aL q c []) ow k=hI m q ow k:=yE rfl rfl (fun d hd=>by unfold aL;rw[if_neg hd]) k h1 ek;rw[up k ek,e1,e2];exact(h.sl k h1 h2 h3).keep fun b hb=>hk b (h.ne hb h.g1 (by omega))
 ·rw[gt]
  by_cases e:c=d
  ·subst e;rw[at4.1,if_pos rfl];rfl
  ·rw[if_neg e];exact(uT (j:=0) (fun e'=>e e'.symm) (by omega)).trans (h.bytes d hd)
 ·rw[gt]
  by_cases e:c=d
  ·subst e;rw[at4.2.2.1,if_pos rfl];rfl
  ·rw[if_neg e];exact(uT (j:=2) (fun e'=>e e'.symm) (by omega)).trans (h.srv d hd)
 ·by_cases e:c=d
  ·subst e;rw[at4.2.2.2];exact h.sent _ hd
  ·exact(uT (j:=3) (fun e'=>e e'.symm) (by omega)).trans (h.sent d hd)
theorem HMem.dropG {X:Nat}(h:HMem X w base H A S f g G mode m q ow)(hX:3<=X):HMem X w base H A S f g (aL G X none) mode m q ow:=by
 have up: ∀i,i≠X->aL G X none i=G i:=fun i hi=>by unfold aL;rw[if_neg hi]
 have upX:aL G X none X=none:=by unfold aL;rw[if_pos rfl]
 have sub: ∀i b,aL G X none i=some b->G i=some b:=fun i b hb=>by
  by_cases e:i=X
  ·rw[e,upX]at hb;cases hb
  ·rw[up i e]at hb;exact hb
 exact⟨h.h,h.a,h.ref.mono fun b hb=>qU hb,(up 0 (by omega)).trans h.g0,(up 1 (by omega)).trans h.g1,(up 2 (by omega)).trans h.g2,fun i b hi=>h.lo i b (sub i b hi),fun i j b hi hj=>h.inj i j b (sub i b hi) (sub j b hj),fun k h1 h2 h3=>by rw[up k h3];exact h.sl k h1 h2 h3,h.md,h.f3,h.f4,h.bytes,h.srv,h.sent⟩
theorem HMem.newLine (h:HMem 0 w base H A S f g G mode m q ow)(hb:Below w.heap.size w w'){v:Value}{g':Option Nat}(l:List Nat)(hs:Sl w' 3 1 v g' l.length (l.map iY))(hg: ∀b,g'=some b->w.heap.size<=b/\b<w'.heap.size):
  HMem 0 (w'.setCell ⟨H,6,none⟩ v) base H A S (aL f 6 v) g (aL G 10 g') mode {m with line:=l} q ow:=by
 have h0:HMem 10 w' base H A S f g (aL G 10 g') mode m q ow:=by
  cases g' with
  |none=>exact((h.but 10).below hb).dropG (by omega)
  |some b=>exact(h.but 10).move (by omega) hb.size (fun x hx _=>hb.block x hx) (hg b rfl).1 (hg b rfl).2 h.bH.2.2
 have h1:=h0.cellH (by omega) (by omega) v;refine h1.fill ?_ (fun k _ h2 h3=>?_) rfl (fun _ _=>rfl) (fun _ _=>rfl) (fun _ _=>rfl)
 ·have e2:aL G 10 g' 10=g':=by unfold aL;rw[if_pos rfl]
  have e3:hV (aL f 6 v) g 10=v:=by unfold hV;rw[if_neg (by omega)];exact dQ
  rw[show hT 10=3 from rfl,show hZ 10=1 from rfl,uJ,e2,e3,dR,uK];exact(show Sl w' _ 1 v g' l.length (l.map fun(n:Nat)=>Value.int .i64 (n:Int))from hs).keep fun x hx=>cM w' H 6 _ x (fun e=>by have:=(hg x hx).1;have:=h.h.lt;omega)
 ·unfold hI
  split
  ·rfl
  ·split
   ·rfl
   ·rfl
theorem HMem.zeroS (h:HMem 0 w base H A S f g G mode m q ow){c:Nat}(hc:c<m.e.ss.length):HMem 0 (cJ w S (c*5) (.int .i64 0) (.slice none 0 0) (.slice none 0 0) (.slice none 0 0) (.slice none 0 0)) base H A S f g G mode {m with e:=m.e.put c Sess.zero} q ow:=by
 have hS:=h.g2
 have hk: ∀b,b≠S->(cJ w S (c*5) (.int .i64 0) (.slice none 0 0) (.slice none 0 0) (.slice none 0 0) (.slice none 0 0)).heap[b]? =w.heap[b]? :=fun b hb=>by
  unfold cJ;rw[cM _ S _ _ b hb,cM _ S _ _ b hb,cM _ S _ _ b hb,cM _ S _ _ b hb,cM _ S _ _ b hb]
 have hz:(cJ w S (c*5) (.int .i64 0) (.slice none 0 0) (.slice none 0 0) (.slice none 0 0) (.slice none 0 0)).heap.size=w.heap.size:=by unfold cJ;rw[cT,cT,cT,cT,cT]
 have hQ: ∀b,cX G b->b≠S:=fun b hb e=>hb 2 (by rw[e];exact hS)
 refine h.sess ⟨by omega,fun b _ hb=>hk b hb⟩ ?_;have nn: ∀(Q:Nat->Prop),InP Q (.slice none 0 0) []:=fun Q=>InP.nil_ Q _
 exact h.ref.put (s':=Sess.zero) (rows':=m.e.rows) (r':=f 2) (T:=fun b=>b≠S) hc hQ hz (fun b hb _=>hk b (hQ b hb)) (fun b hb=>hk b hb) (aD _ _) rfl h.ref.rows (Lst.none_ _ _) (Lst.none_ _ _) (Lst.none_ _ _) (Lst.none_ _ _) (h.ref.rin.mono fun b hb=>⟨hb,hQ b hb⟩) (nn _) (nn _) (nn _) (nn _)
end
section
variable {w:World}{base H A S:Nat}{f g:Nat->Value}{G:Nat->Option Nat}{mode:Int}{m:Mach Wd}{q:Nat->List Ask}{ow:List Int}{N:Nat}
def yL (m:Mach Wd)(c:Nat):List Bool:=match(m.get c).srv with
 |some s=>m.busy.set s false
 |none=>m.busy
def rK (m:Mach Wd)(ow:List Int)(c:Nat):List Int:=match(m.get c).srv with
 |some s=>ow.set s (-1)
 |none=>ow
def lQ (W3:World)(c:Nat)(ln:List Nat)(k:Nat)(v:Value)(wr:World):Prop:= ∃g',Sl wr 3 1 v g' ((ln.take k).filter (fun n=>n !=c)).length (((ln.take k).filter (fun n=>n !=c)).map iY)/\(∀b,g'=some b->W3.heap.size<=b/\b<wr.heap.size)/\Below W3.heap.size W3 wr
theorem HRel.left (h:HRel m q ow){c:Nat}(hc:c<6)(hcl:m.cl.length=6):HRel (m.leave bC c) (aL q c []) (rK m ow c):=by
 have h1:=h.turn (x:=Cl.new) hc hcl (l:=[]) rfl (by simp);unfold rK
 cases hs:(m.get c).srv with
 |some s=>exact h1.freed (m':=m.leave bC c) (fun _ _=>rfl) (by unfold Mach.leave;simp only[hs];rfl)
 |none=>exact h1.same (m':=m.leave bC c) (fun _ _=>rfl) (by unfold Mach.leave;simp only[hs];rfl)
theorem yAd (w:World)(h:HMem 0 w base H A S f g G mode m q ow)(hI:HInv mode m N)(hN:N<=300000)(hrel:HRel m q ow)(c:Nat)(hc:c<6):
  Calls Tryz.prog 32 #[.pointer (some ⟨H,0,none⟩),.int .i64 c] w (HQ w base H A S mode (m.leave bC c)):=by
 have hcI:(c:Int)<6:=by omega
 have h4:w.cell? ⟨H,4,none⟩=some (.slice (some ⟨A,0,none⟩) 6 6):=by rw[h.h.cell (by omega),h.f4]
 have ga:=h.a.cell (j:=c*4+2) (by omega);rw[h.srv c hc]at ga;have hHl:=h.h.lt;have hAl:=h.a.lt;have H0:=aA (aJ h (aJ hI (aJ hrel hN)));obtain⟨bs,HBS⟩: ∃u,Hid (yL m c=u):=⟨_,aA rfl⟩;obtain⟨ol,HOL⟩: ∃u,Hid (rK m ow c=u):=⟨_,aA rfl⟩;clear h hI hrel hN;go_enter Tryz.func32,Tryz.ntmps32
 cases hs:(m.get c).srv with
 |some s=>
  rw[hs]at ga;unfold lP at ga;simp only at ga;have HSV:=aA hs;have hs3:s<ow.length:=by have:=H0.out.2.1.srv hs;rw[H0.out.2.2.1.own];exact(fN.1 this).1
  have hsI:(s:Int)<(ow.length:Int):=by omega
  obtain⟨bo,oo,co,_,hf5,hco,_,_,_,_⟩:=H0.out.1.setOwn (j:=s) hs3 (-1) (m.busy.set s false);have h5:=H0.out.1.h.cell (j:=5) (by omega);rw[hf5]at h5;have HF5:=aA hf5;clear hf5 hs;go_wp2_with fail;refine fV 13 [(0,15),(1,16),(2,17),(3,18),(4,19),(5,20),(6,21),(7,22),(8,23),(9,24),(10,25),(11,26),(12,27)] [[],[(0,15)],[(1,16)],[(2,17)],[],[(4,19)],[(5,20)],[(6,21)],[],[(7,22),(8,23)],[(9,24)],[(10,25)],[(3,18),(11,26)]] [.pointer (some ⟨H,0,none⟩),.pointer (some ⟨H,0,none⟩),.pointer (some ⟨H,5,none⟩),.slice (some ⟨bo,oo,none⟩) ow.length co,.pointer (some ⟨H,0,none⟩),.pointer (some ⟨H,0,none⟩),.pointer (some ⟨H,4,none⟩),.slice (some ⟨A,0,none⟩) 6 6,.int .i64 c,.pointer (some ⟨A,c*4,none⟩),.pointer (some ⟨A,c*4+2,none⟩),.int .i64 s,.pointer (some ⟨bo,oo+s,none⟩)] (fun _ w w'=>Below w.heap.size w w') (fun wc=>Below w.heap.size w wc) 1 (by kernel_rfl) (by rfl) (by kernel_rfl) (fun _ _ _ _ _ h=>h) (aD _ _).drew (fun _ _=>aD _ _) (fun k w w' h hb=>bU h hb) ?_ ?_
  ·intro i hi wc hR;have h4':=(hR.cell (p:=⟨H,4,none⟩) hHl).trans h4;have h5':=(hR.cell (p:=⟨H,5,none⟩) hHl).trans h5;have ga':=(hR.cell (p:=⟨A,c*4+2,none⟩) hAl).trans ga;rcases i with _|_|_|_|_|_|_|_|_|_|_|_|_|i
   all_goals (first|contradiction|exact fU|exact absurd hi (by simp))
  ·intro wf hR;have hS:=True.intro
   (try simp only[aN,aT,aS,aQ,aH,aG,aF])
   obtain⟨bo',oo',co',hG',hf',_,⟨yo,hyo⟩,hfo,hbo,hM1⟩:=(H0.out.1.below hR).setOwn (j:=s) (by exact hs3) (-1) (m.busy.set s false);obtain⟨rfl,rfl,rfl⟩:bo=bo'/\oo=oo'/\co=co':=by have e:=HF5.out.symm.trans hf';injection e with e1 e2 e3;injection e1 with e1;injection e1 with e1 e4;exact⟨e1,e4,e3⟩
   have hb1:=(hR.mono H0.out.1.bH.2.2).setCell (p:=⟨bo,oo+s,none⟩) (H0.out.1.lo 9 bo hG').1 (.int .i64 (-1));have H1:=aA (show HMem 0 (wf.setCell ⟨bo,oo+s,none⟩ (.int .i64 (-1))) base H A S f g G mode {m with busy:=bs} q ol/\Below base w (wf.setCell ⟨bo,oo+s,none⟩ (.int .i64 (-1))) by rw[<-HBS.out,<-HOL.out];unfold yL rK;rw[HSV.out];exact⟨hM1,hb1⟩);clear hM1 hb1 hR h4 h5 ga hHl hAl hG' hf';refine bY (fun K hK=>?_)
   (try simp only[aE,aB,aC])
   go_simp;refine hK.out _ _ ?_;clear hK K
   (try simp only[aE,aB,aC,aQ,aH,aG,aF])
   clear hyo hfo hbo;obtain⟨W1,HW1⟩: ∃u,Hid (wf.setCell ⟨bo,oo+s,none⟩ (.int .i64 (-1))=u):=⟨_,aA rfl⟩;rw[HW1.out]at H1 ⊢;clear HW1 HF5;have hc6:c<m.e.ss.length:=by rw[H0.out.2.1.h6];exact hc
   have h3:W1.cell? ⟨H,3,none⟩=some (.slice (some ⟨S,0,none⟩) 6 6):=by rw[H1.out.1.h.cell (by omega),H1.out.1.f3]
   have hHl:=H1.out.1.h.lt;obtain⟨v1,v2,v3,v4,hss⟩:=H1.out.1.ref.ses c hc6;have s0:=hss.core.c0;have s1:=hss.core.c1;have s2:=hss.core.c2;have s3:=hss.core.c3;have s4:=hss.core.c4;have zs0:=H1.out.1.ref.blk.frozen (c*5);have zs1:=H1.out.1.ref.blk.frozen (c*5+1);have zs2:=H1.out.1.ref.blk.frozen (c*5+2);have zs3:=H1.out.1.ref.blk.frozen (c*5+3);have zs4:=H1.out.1.ref.blk.frozen (c*5+4);have hSl:=H1.out.1.ref.blk.lt;have hM2:=H1.out.1.zeroS hc6
   have H2 := aA (show HMem 0 (((((W1.setCell ⟨S, c * 5, none⟩ (.int .i64 0)).setCell ⟨S, c * 5 + 1, none⟩ (.slice none 0 0)).setCell ⟨S, c * 5 + 2, none⟩ (.slice none 0 0)).setCell ⟨S, c * 5 + 3, none⟩ (.slice none 0 0)).setCell ⟨S, c * 5 + 4, none⟩ (.slice none 0 0)) base H A S f g G mode { m with e := m.e.put c Sess.zero, busy := bs } q ol ∧ Below base w (((((W1.setCell ⟨S, c * 5, none⟩ (.int .i64 0)).setCell ⟨S, c * 5 + 1, none⟩ (.slice none 0 0)).setCell ⟨S, c * 5 + 2, none⟩ (.slice none 0 0)).setCell ⟨S, c * 5 + 3, none⟩ (.slice none 0 0)).setCell ⟨S, c * 5 + 4, none⟩ (.slice none 0 0)) from ⟨hM2, by
    have hbS:=(H1.out.1.lo 2 S H1.out.1.g2).1
    exact ((((H1.out.2.setCell (p := ⟨S, c * 5, none⟩) hbS _).setCell (p := ⟨S, c * 5 + 1, none⟩) hbS _).setCell (p := ⟨S, c * 5 + 2, none⟩) hbS _).setCell (p := ⟨S, c * 5 + 3, none⟩) hbS _).setCell (p := ⟨S, c * 5 + 4, none⟩) hbS _⟩)
   clear hM2 hss;go_wp2_with fail;clear h3 hHl s0 s1 s2 s3 s4 zs0 zs1 zs2 zs3 zs4 hSl;obtain⟨W2,HW2⟩: ∃u,Hid ((((((W1.setCell ⟨S,c*5,none⟩ (.int .i64 0)).setCell ⟨S,c*5+1,none⟩ (.slice none 0 0)).setCell ⟨S,c*5+2,none⟩ (.slice none 0 0)).setCell ⟨S,c*5+3,none⟩ (.slice none 0 0)).setCell ⟨S,c*5+4,none⟩ (.slice none 0 0))=u):=⟨_,aA rfl⟩;rw[HW2.out]at H2 ⊢;clear HW2;obtain⟨sx,HSX⟩: ∃u,Hid (g (c*4+3)= .string u):=⟨_,aA (H0.out.1.sent c hc)⟩;have h4:W2.cell? ⟨H,4,none⟩=some (.slice (some ⟨A,0,none⟩) 6 6):=by rw[H2.out.1.h.cell (by omega),H2.out.1.f4]
   have hHl:=H2.out.1.h.lt;have hAl:=H2.out.1.a.lt;have a0:=H2.out.1.a.cell (j:=c*4) (by omega);have a1:=H2.out.1.a.cell (j:=c*4+1) (by omega);have a2:=H2.out.1.a.cell (j:=c*4+2) (by omega);have a3:=H2.out.1.a.cell (j:=c*4+3) (by omega);rw[HSX.out]at a3;refine fV 15 [(0,36),(1,37),(2,38),(3,39),(4,40),(5,41),(6,42),(7,43),(8,44),(9,45),(10,46),(11,47),(12,48),(13,49),(14,50)] [[],[(0,36)],[(1,37)],[(2,38)],[],[],[(5,41)],[(6,42)],[(7,43)],[],[(8,44),(9,45)],[(10,46)],[(11,47)],[(12,48)],[(3,39),(4,40)]] [.pointer (some ⟨H,0,none⟩),.pointer (some ⟨H,0,none⟩),.pointer (some ⟨H,4,none⟩),.slice (some ⟨A,0,none⟩) 6 6,.int .i64 c,.pointer (some ⟨H,0,none⟩),.pointer (some ⟨H,0,none⟩),.pointer (some ⟨H,4,none⟩),.slice (some ⟨A,0,none⟩) 6 6,.int .i64 c,.pointer (some ⟨A,c*4,none⟩),.pointer (some ⟨A,c*4+3,none⟩),.string sx,.agg #[.string ⟨#[]⟩,.slice none 0 0,.int .i64 (-1),.string sx],.pointer (some ⟨A,c*4,none⟩)] (fun _ w w'=>Below w.heap.size w w') (fun wc=>Below W2.heap.size W2 wc) 1 (by kernel_rfl) (by rfl) (by kernel_rfl) (fun _ _ _ _ _ h=>h) (aD _ _).drew (fun _ _=>aD _ _) (fun k w w' h hb=>bU h hb) ?_ ?_
   ·intro i hi wc hR;have h4':=(hR.cell (p:=⟨H,4,none⟩) hHl).trans h4;have ga':=(hR.cell (p:=⟨A,c*4+3,none⟩) hAl).trans a3;rcases i with _|_|_|_|_|_|_|_|_|_|_|_|_|_|_|i
    all_goals (first|contradiction|exact fU|exact absurd hi (by simp))
   ·intro wf hR;have hS:=True.intro
    (try simp only[aN,aT,aS,aQ,aH,aG,aF])
    have hM3:=(H2.out.1.below hR).fresh hc H0.out.2.1.n6;rw[HSX.out]at hM3;have hb3:=((((H2.out.2.trans (hR.mono (bL H0.out.1.bH.2.2 H2.out.2.size))).setCell (p:=⟨A,c*4,none⟩) H0.out.1.bH.2.1 (.string ⟨#[]⟩)).setCell (p:=⟨A,c*4+1,none⟩) H0.out.1.bH.2.1 (.slice none 0 0)).setCell (p:=⟨A,c*4+2,none⟩) H0.out.1.bH.2.1 (.int .i64 (-1))).setCell (p:=⟨A,c*4+3,none⟩) H0.out.1.bH.2.1 (.string sx);have H3:=aA (show HMem 0 ((((wf.setCell ⟨A,c*4,none⟩ (.string ⟨#[]⟩)).setCell ⟨A,c*4+1,none⟩ (.slice none 0 0)).setCell ⟨A,c*4+2,none⟩ (.int .i64 (-1))).setCell ⟨A,c*4+3,none⟩ (.string sx)) base H A S f (kR g c) (aL G (c+3) none) mode {m with e:=m.e.put c Sess.zero,busy:=bs,cl:=m.cl.set c Cl.new} (aL q c []) ol/\Below base w _ from⟨hM3,hb3⟩);have k0:=(hR.cell (p:=⟨A,c*4,none⟩) hAl).trans a0;have k1:=(hR.cell (p:=⟨A,c*4+1,none⟩) hAl).trans a1;have k2:=(hR.cell (p:=⟨A,c*4+2,none⟩) hAl).trans a2;have k3:=(hR.cell (p:=⟨A,c*4+3,none⟩) hAl).trans a3;have fz0:=(H2.out.1.below hR).a.frozen (c*4);have fz1:=(H2.out.1.below hR).a.frozen (c*4+1);have fz2:=(H2.out.1.below hR).a.frozen (c*4+2);have fz3:=(H2.out.1.below hR).a.frozen (c*4+3);clear hM3 hb3 hR h4 a0 a1 a2 a3 hHl hAl;refine bY (fun K hK=>?_)
    (try simp only[aE,aB,aC])
    go_simp;refine hK.out _ _ ?_;clear hK K
    (try simp only[aE,aB,aC,aQ,aH,aG,aF])
    clear k0 k1 k2 k3 fz0 fz1 fz2 fz3;obtain⟨W3,HW3⟩: ∃u,Hid (((((wf.setCell ⟨A,c*4,none⟩ (.string ⟨#[]⟩)).setCell ⟨A,c*4+1,none⟩ (.slice none 0 0)).setCell ⟨A,c*4+2,none⟩ (.int .i64 (-1))).setCell ⟨A,c*4+3,none⟩ (.string sx))=u):=⟨_,aA rfl⟩;rw[HW3.out]at H3 ⊢;clear HW3 H2 H1;obtain⟨ln,HLN⟩: ∃u,Hid (m.line=u):=⟨_,aA rfl⟩;have hn6:=H0.out.2.1.line;rw[HLN.out]at hn6;have hsl:Sl W3 3 1 (f 6) (aL G (c+3) none 10) m.line.length (m.line.map iY):=H3.out.1.lineSl;rw[HLN.out]at hsl;obtain⟨Al,cl,hvl,_⟩:=hsl.shape;have HSL:=aA hsl;have HV6:=aA hvl;clear hsl hvl;have h6:=H3.out.1.h.cell (j:=6) (by omega);rw[HV6.out]at h6;have hHl:=H3.out.1.h.lt;go_wp2_with fail
    go_loopg [4,5] ln.length (fun gk v i wi=> ∃k:Nat,k<=ln.length/\gk=ln.length-k/\i= .int .i64 k/\Hid (lQ W3 c ln k v wi))
    case atStart=>exact⟨0,by omega,rfl,rfl,none,Sl.nil_ _ _ _,(fun b hb=>by cases hb),aD _ _⟩
    case round=>
     obtain⟨k,hk,rfl,rfl,HZ⟩:=hrel;obtain⟨g',hv,hg,hB⟩:=HZ.out;have hM:=H3.out.1.below hB;have h6:=hM.h.cell (j:=6) (by omega);rw[HV6.out]at h6;have hHl:=hM.h.lt;have HVV:=aA hv;obtain⟨Av,cv,hve,_⟩:=hv.shape;subst hve
     by_cases hlt:k<ln.length
     ·have hkI:(k:Int)<(ln.length:Int):=(by omega);obtain⟨b,off,cap,_,hv6,_,hcs⟩:=(HSL.out.below hB).at (by omega);obtain⟨rfl,rfl⟩:Al=some ⟨b,off,none⟩/\cl=cap:=(by rw[HV6.out]at hv6;injection hv6 with e1 _ e3;exact⟨e1,e3⟩);have c0:=hcs k (by simpa using hlt);rw[List.getElem_map]at c0;unfold iY at c0;have HT:=aA (show(ln.take (k+1)).filter (fun n=>n !=c)=(ln.take k).filter (fun n=>n !=c)++[ln[k]].filter (fun n=>n !=c) by rw[gO hlt,List.filter_append]);have hfl:((ln.take k).filter (fun n=>n !=c)).length<=6:=bL (List.length_filter_le _ _) (by rw[gK];omega);generalize ln[k]=y at*
      by_cases hq:y=c
      ·have t1:((y:Int) !=(c:Int))=false:=by simp[hq]
       have HF := aA (show lQ W3 c ln (k + 1) _ wr by
        unfold lQ;rw[HT.out,show [y].filter (fun n=>n !=c)=[] by simp[hq],List.append_nil]
        exact ⟨g', HVV.out, hg, hB⟩)
       clear hv hg hB hM hv6 hcs hq HZ HT HVV;generalize((ln.take k).filter (fun n=>n !=c)).length=nf at*;go_wp2_with fail
       go_roundg (ln.length-(k+1))
       case measure=>omega
       case rel=>exact⟨k+1,by omega,rfl,by go_num,HF.out⟩
      ·have t1:((y:Int) !=(c:Int))=true:=(by simp;omega);obtain⟨i0,hi,hz0,hz1,hz2⟩:=info_parts qX;have n1:=(aD wr.heap.size wr).alloc (aI _) (.cells #[.int .i64 (y:Int)] 3);have X:=(RowTo.whole wr #[.int .i64 (y:Int)] 3).cell (j:=0) (by simp)
       obtain ⟨b2, o2, cp2, w2, hrun, hs2, hg2, hb2⟩ := (hv.below n1).append (P := Tryz.prog) 79 79 i0 _ 8 Tryz.underlying79 hi hz0 hz1 hz2 rfl (by omega) ⟨wr.heap.size, 0, none⟩ 1 [.int .i64 (y : Int)] rfl (fun j u hu => by
        cases j with
        |zero=>simp at hu;rw[<-hu];exact X
        | succ j => simp at hu) (fun u hu => by simp at hu; rw [hu]; rfl) (by unfold maxLen; omega) (by omega)
       have hB2:=((bU hB n1).grown hg2 (bU hB n1).size (fun x hx=>(hg x hx).1))
       have HF := aA (show lQ W3 c ln (k + 1) _ w2 by
        unfold lQ;rw[HT.out,show [y].filter (fun n=>n !=c)=[y] by simp[hq],eN,List.map_append]
        exact ⟨some b2, hs2, fun b hb => by injection hb with hb; subst hb; exact hb2.elim (fun h => ⟨(hg _ h).1, bD (hg _ h).2 (bL n1.size hg2.size)⟩) (fun h => ⟨bL (bU hB n1).size h.1, h.2⟩), hB2⟩)
       clear hv hg hB hM hv6 hcs hq HZ HT HVV n1 X hs2 hg2 hb2 hB2 hi hz0 hz1 hz2;generalize((ln.take k).filter (fun n=>n !=c)).length=nf at*;go_wp2_with (at_builtin;refine Lib.wpList_append_run _ rfl _ _ _ _ rfl _ _ rfl rfl _ _ hrun ?_)
       go_roundg (ln.length-(k+1))
       case measure=>omega
       case rel=>exact⟨k+1,by omega,rfl,by go_num,HF.out⟩
     ·obtain rfl:k=ln.length:=(by omega);rw[List.take_length]at HVV;have HF:=aA (aJ (H3.out.1.newLine hB (ln.filter (fun n=>n !=c)) HVV.out hg) ((H3.out.2.trans (hB.mono (bL H0.out.1.bH.2.2 H3.out.2.size))).setCell (p:=⟨H,6,none⟩) H0.out.1.bH.1 (.slice Av (ln.filter (fun n=>n !=c)).length cv)));have HE:=aA (show m.leave bC c={m with e:=m.e.put c Sess.zero,busy:=bs,cl:=m.cl.set c Cl.new,line:=ln.filter (fun n=>n !=c)} by rw[<-HBS.out,<-HLN.out];rfl);have hfz:=hM.h.frozen 6;clear hv hg hB hM HZ HVV;go_wp2_with fail;go_end0;refine⟨aL q c [],ol,⟨_,_,_,rfl,by rw[HE.out];exact HF.out.1,HF.out.2⟩,?_⟩;rw[<-HOL.out];exact H0.out.2.2.1.left hc H0.out.2.1.n6
 |none=>
  rw[hs]at ga;unfold lP at ga;simp only at ga;have H1:=aA (show HMem 0 w base H A S f g G mode {m with busy:=bs} q ol/\Below base w w by rw[<-HBS.out,<-HOL.out];unfold yL rK;rw[hs];exact⟨H0.out.1,aD _ _⟩);clear hs;have hc6:c<m.e.ss.length:=by rw[H0.out.2.1.h6];exact hc
  have h3:w.cell? ⟨H,3,none⟩=some (.slice (some ⟨S,0,none⟩) 6 6):=by rw[H1.out.1.h.cell (by omega),H1.out.1.f3]
  have hHl:=H1.out.1.h.lt;obtain⟨v1,v2,v3,v4,hss⟩:=H1.out.1.ref.ses c hc6;have s0:=hss.core.c0;have s1:=hss.core.c1;have s2:=hss.core.c2;have s3:=hss.core.c3;have s4:=hss.core.c4;have zs0:=H1.out.1.ref.blk.frozen (c*5);have zs1:=H1.out.1.ref.blk.frozen (c*5+1);have zs2:=H1.out.1.ref.blk.frozen (c*5+2);have zs3:=H1.out.1.ref.blk.frozen (c*5+3);have zs4:=H1.out.1.ref.blk.frozen (c*5+4);have hSl:=H1.out.1.ref.blk.lt;have hM2:=H1.out.1.zeroS hc6
  have H2 := aA (show HMem 0 (((((w.setCell ⟨S, c * 5, none⟩ (.int .i64 0)).setCell ⟨S, c * 5 + 1, none⟩ (.slice none 0 0)).setCell ⟨S, c * 5 + 2, none⟩ (.slice none 0 0)).setCell ⟨S, c * 5 + 3, none⟩ (.slice none 0 0)).setCell ⟨S, c * 5 + 4, none⟩ (.slice none 0 0)) base H A S f g G mode { m with e := m.e.put c Sess.zero, busy := bs } q ol ∧ Below base w (((((w.setCell ⟨S, c * 5, none⟩ (.int .i64 0)).setCell ⟨S, c * 5 + 1, none⟩ (.slice none 0 0)).setCell ⟨S, c * 5 + 2, none⟩ (.slice none 0 0)).setCell ⟨S, c * 5 + 3, none⟩ (.slice none 0 0)).setCell ⟨S, c * 5 + 4, none⟩ (.slice none 0 0)) from ⟨hM2, by
   have hbS:=(H1.out.1.lo 2 S H1.out.1.g2).1
   exact ((((H1.out.2.setCell (p := ⟨S, c * 5, none⟩) hbS _).setCell (p := ⟨S, c * 5 + 1, none⟩) hbS _).setCell (p := ⟨S, c * 5 + 2, none⟩) hbS _).setCell (p := ⟨S, c * 5 + 3, none⟩) hbS _).setCell (p := ⟨S, c * 5 + 4, none⟩) hbS _⟩)
  clear hM2 hss;go_wp2_with fail;clear h3 hHl s0 s1 s2 s3 s4 zs0 zs1 zs2 zs3 zs4 hSl;obtain⟨W2,HW2⟩: ∃u,Hid ((((((w.setCell ⟨S,c*5,none⟩ (.int .i64 0)).setCell ⟨S,c*5+1,none⟩ (.slice none 0 0)).setCell ⟨S,c*5+2,none⟩ (.slice none 0 0)).setCell ⟨S,c*5+3,none⟩ (.slice none 0 0)).setCell ⟨S,c*5+4,none⟩ (.slice none 0 0))=u):=⟨_,aA rfl⟩;rw[HW2.out]at H2 ⊢;clear HW2;obtain⟨sx,HSX⟩: ∃u,Hid (g (c*4+3)= .string u):=⟨_,aA (H0.out.1.sent c hc)⟩;have h4:W2.cell? ⟨H,4,none⟩=some (.slice (some ⟨A,0,none⟩) 6 6):=by rw[H2.out.1.h.cell (by omega),H2.out.1.f4]
  have hHl:=H2.out.1.h.lt;have hAl:=H2.out.1.a.lt;have a0:=H2.out.1.a.cell (j:=c*4) (by omega);have a1:=H2.out.1.a.cell (j:=c*4+1) (by omega);have a2:=H2.out.1.a.cell (j:=c*4+2) (by omega);have a3:=H2.out.1.a.cell (j:=c*4+3) (by omega);rw[HSX.out]at a3;refine fV 15 [(0,36),(1,37),(2,38),(3,39),(4,40),(5,41),(6,42),(7,43),(8,44),(9,45),(10,46),(11,47),(12,48),(13,49),(14,50)] [[],[(0,36)],[(1,37)],[(2,38)],[],[],[(5,41)],[(6,42)],[(7,43)],[],[(8,44),(9,45)],[(10,46)],[(11,47)],[(12,48)],[(3,39),(4,40)]] [.pointer (some ⟨H,0,none⟩),.pointer (some ⟨H,0,none⟩),.pointer (some ⟨H,4,none⟩),.slice (some ⟨A,0,none⟩) 6 6,.int .i64 c,.pointer (some ⟨H,0,none⟩),.pointer (some ⟨H,0,none⟩),.pointer (some ⟨H,4,none⟩),.slice (some ⟨A,0,none⟩) 6 6,.int .i64 c,.pointer (some ⟨A,c*4,none⟩),.pointer (some ⟨A,c*4+3,none⟩),.string sx,.agg #[.string ⟨#[]⟩,.slice none 0 0,.int .i64 (-1),.string sx],.pointer (some ⟨A,c*4,none⟩)] (fun _ w w'=>Below w.heap.size w w') (fun wc=>Below W2.heap.size W2 wc) 1 (by kernel_rfl) (by rfl) (by kernel_rfl) (fun _ _ _ _ _ h=>h) (aD _ _).drew (fun _ _=>aD _ _) (fun k w w' h hb=>bU h hb) ?_ ?_
  ·intro i hi wc hR;have h4':=(hR.cell (p:=⟨H,4,none⟩) hHl).trans h4;have ga':=(hR.cell (p:=⟨A,c*4+3,none⟩) hAl).trans a3;rcases i with _|_|_|_|_|_|_|_|_|_|_|_|_|_|_|i
   all_goals (first|contradiction|exact fU|exact absurd hi (by simp))
  ·intro wf hR;have hS:=True.intro
   (try simp only[aN,aT,aS,aQ,aH,aG,aF])
   have hM3:=(H2.out.1.below hR).fresh hc H0.out.2.1.n6;rw[HSX.out]at hM3;have hb3:=((((H2.out.2.trans (hR.mono (bL H0.out.1.bH.2.2 H2.out.2.size))).setCell (p:=⟨A,c*4,none⟩) H0.out.1.bH.2.1 (.string ⟨#[]⟩)).setCell (p:=⟨A,c*4+1,none⟩) H0.out.1.bH.2.1 (.slice none 0 0)).setCell (p:=⟨A,c*4+2,none⟩) H0.out.1.bH.2.1 (.int .i64 (-1))).setCell (p:=⟨A,c*4+3,none⟩) H0.out.1.bH.2.1 (.string sx);have H3:=aA (show HMem 0 ((((wf.setCell ⟨A,c*4,none⟩ (.string ⟨#[]⟩)).setCell ⟨A,c*4+1,none⟩ (.slice none 0 0)).setCell ⟨A,c*4+2,none⟩ (.int .i64 (-1))).setCell ⟨A,c*4+3,none⟩ (.string sx)) base H A S f (kR g c) (aL G (c+3) none) mode {m with e:=m.e.put c Sess.zero,busy:=bs,cl:=m.cl.set c Cl.new} (aL q c []) ol/\Below base w _ from⟨hM3,hb3⟩);have k0:=(hR.cell (p:=⟨A,c*4,none⟩) hAl).trans a0;have k1:=(hR.cell (p:=⟨A,c*4+1,none⟩) hAl).trans a1;have k2:=(hR.cell (p:=⟨A,c*4+2,none⟩) hAl).trans a2;have k3:=(hR.cell (p:=⟨A,c*4+3,none⟩) hAl).trans a3;have fz0:=(H2.out.1.below hR).a.frozen (c*4);have fz1:=(H2.out.1.below hR).a.frozen (c*4+1);have fz2:=(H2.out.1.below hR).a.frozen (c*4+2);have fz3:=(H2.out.1.below hR).a.frozen (c*4+3);clear hM3 hb3 hR h4 a0 a1 a2 a3 hHl hAl;refine bY (fun K hK=>?_)
   (try simp only[aE,aB,aC])
   go_simp;refine hK.out _ _ ?_;clear hK K
   (try simp only[aE,aB,aC,aQ,aH,aG,aF])
   clear k0 k1 k2 k3 fz0 fz1 fz2 fz3;obtain⟨W3,HW3⟩: ∃u,Hid (((((wf.setCell ⟨A,c*4,none⟩ (.string ⟨#[]⟩)).setCell ⟨A,c*4+1,none⟩ (.slice none 0 0)).setCell ⟨A,c*4+2,none⟩ (.int .i64 (-1))).setCell ⟨A,c*4+3,none⟩ (.string sx))=u):=⟨_,aA rfl⟩;rw[HW3.out]at H3 ⊢;clear HW3 H2 H1;obtain⟨ln,HLN⟩: ∃u,Hid (m.line=u):=⟨_,aA rfl⟩;have hn6:=H0.out.2.1.line;rw[HLN.out]at hn6;have hsl:Sl W3 3 1 (f 6) (aL G (c+3) none 10) m.line.length (m.line.map iY):=H3.out.1.lineSl;rw[HLN.out]at hsl;obtain⟨Al,cl,hvl,_⟩:=hsl.shape;have HSL:=aA hsl;have HV6:=aA hvl;clear hsl hvl;have h6:=H3.out.1.h.cell (j:=6) (by omega);rw[HV6.out]at h6;have hHl:=H3.out.1.h.lt;go_wp2_with fail
   go_loopg [4,5] ln.length (fun gk v i wi=> ∃k:Nat,k<=ln.length/\gk=ln.length-k/\i= .int .i64 k/\Hid (lQ W3 c ln k v wi))
   case atStart=>exact⟨0,by omega,rfl,rfl,none,Sl.nil_ _ _ _,(fun b hb=>by cases hb),aD _ _⟩
   case round=>
    obtain⟨k,hk,rfl,rfl,HZ⟩:=hrel;obtain⟨g',hv,hg,hB⟩:=HZ.out;have hM:=H3.out.1.below hB;have h6:=hM.h.cell (j:=6) (by omega);rw[HV6.out]at h6;have hHl:=hM.h.lt;have HVV:=aA hv;obtain⟨Av,cv,hve,_⟩:=hv.shape;subst hve
    by_cases hlt:k<ln.length
    ·have hkI:(k:Int)<(ln.length:Int):=(by omega);obtain⟨b,off,cap,_,hv6,_,hcs⟩:=(HSL.out.below hB).at (by omega);obtain⟨rfl,rfl⟩:Al=some ⟨b,off,none⟩/\cl=cap:=(by rw[HV6.out]at hv6;injection hv6 with e1 _ e3;exact⟨e1,e3⟩);have c0:=hcs k (by simpa using hlt);rw[List.getElem_map]at c0;unfold iY at c0;have HT:=aA (show(ln.take (k+1)).filter (fun n=>n !=c)=(ln.take k).filter (fun n=>n !=c)++[ln[k]].filter (fun n=>n !=c) by rw[gO hlt,List.filter_append]);have hfl:((ln.take k).filter (fun n=>n !=c)).length<=6:=bL (List.length_filter_le _ _) (by rw[gK];omega);generalize ln[k]=y at*
     by_cases hq:y=c
     ·have t1:((y:Int) !=(c:Int))=false:=by simp[hq]
      have HF := aA (show lQ W3 c ln (k + 1) _ wr by
       unfold lQ;rw[HT.out,show [y].filter (fun n=>n !=c)=[] by simp[hq],List.append_nil]
       exact ⟨g', HVV.out, hg, hB⟩)
      clear hv hg hB hM hv6 hcs hq HZ HT HVV;generalize((ln.take k).filter (fun n=>n !=c)).length=nf at*;go_wp2_with fail
      go_roundg (ln.length-(k+1))
      case measure=>omega
      case rel=>exact⟨k+1,by omega,rfl,by go_num,HF.out⟩
     ·have t1:((y:Int) !=(c:Int))=true:=(by simp;omega);obtain⟨i0,hi,hz0,hz1,hz2⟩:=info_parts qX;have n1:=(aD wr.heap.size wr).alloc (aI _) (.cells #[.int .i64 (y:Int)] 3);have X:=(RowTo.whole wr #[.int .i64 (y:Int)] 3).cell (j:=0) (by simp)
      obtain ⟨b2, o2, cp2, w2, hrun, hs2, hg2, hb2⟩ := (hv.below n1).append (P := Tryz.prog) 79 79 i0 _ 8 Tryz.underlying79 hi hz0 hz1 hz2 rfl (by omega) ⟨wr.heap.size, 0, none⟩ 1 [.int .i64 (y : Int)] rfl (fun j u hu => by
       cases j with
       |zero=>simp at hu;rw[<-hu];exact X
       | succ j => simp at hu) (fun u hu => by simp at hu; rw [hu]; rfl) (by unfold maxLen; omega) (by omega)
      have hB2:=((bU hB n1).grown hg2 (bU hB n1).size (fun x hx=>(hg x hx).1))
      have HF := aA (show lQ W3 c ln (k + 1) _ w2 by
       unfold lQ;rw[HT.out,show [y].filter (fun n=>n !=c)=[y] by simp[hq],eN,List.map_append]
       exact ⟨some b2, hs2, fun b hb => by injection hb with hb; subst hb; exact hb2.elim (fun h => ⟨(hg _ h).1, bD (hg _ h).2 (bL n1.size hg2.size)⟩) (fun h => ⟨bL (bU hB n1).size h.1, h.2⟩), hB2⟩)
      clear hv hg hB hM hv6 hcs hq HZ HT HVV n1 X hs2 hg2 hb2 hB2 hi hz0 hz1 hz2;generalize((ln.take k).filter (fun n=>n !=c)).length=nf at*;go_wp2_with (at_builtin;refine Lib.wpList_append_run _ rfl _ _ _ _ rfl _ _ rfl rfl _ _ hrun ?_)
      go_roundg (ln.length-(k+1))
      case measure=>omega
      case rel=>exact⟨k+1,by omega,rfl,by go_num,HF.out⟩
    ·obtain rfl:k=ln.length:=(by omega);rw[List.take_length]at HVV;have HF:=aA (aJ (H3.out.1.newLine hB (ln.filter (fun n=>n !=c)) HVV.out hg) ((H3.out.2.trans (hB.mono (bL H0.out.1.bH.2.2 H3.out.2.size))).setCell (p:=⟨H,6,none⟩) H0.out.1.bH.1 (.slice Av (ln.filter (fun n=>n !=c)).length cv)));have HE:=aA (show m.leave bC c={m with e:=m.e.put c Sess.zero,busy:=bs,cl:=m.cl.set c Cl.new,line:=ln.filter (fun n=>n !=c)} by rw[<-HBS.out,<-HLN.out];rfl);have hfz:=hM.h.frozen 6;clear hv hg hB hM HZ HVV;go_wp2_with fail;go_end0;refine⟨aL q c [],ol,⟨_,_,_,rfl,by rw[HE.out];exact HF.out.1,HF.out.2⟩,?_⟩;rw[<-HOL.out];exact H0.out.2.2.1.left hc H0.out.2.1.n6
end
end Go.Proofs.YtpbaobmegomfpabGreatDoor

/-
  Texts of the proof.
-/
import Derived.Test.YtpbaobmegomfpabGreatDoorG14
import Derived.Sort.WalkB12
import Derived.Lib.SlBytesRow
import Derived.Lib.BufferRead
set_option linter.unusedVariables false
set_option linter.unusedSimpArgs false
set_option maxRecDepth 100000
set_option maxHeartbeats 16000000
open List renaming getElem_toArray→aE,getElem_cons_zero→aB,getElem_cons_succ→aC,setIfInBounds_toArray→aH,set_cons_zero→aG,set_cons_succ→aF,getElem?_eq_getElem→dP,getD_eq_getElem?_getD→eU,take_succ_eq_append_getElem→gO,getElem?_eq_some_iff→fN,length_map→dR,length_set→fI,length_take→gK,take_of_length_le→jR
open Nat renaming le_refl→aI,lt_of_lt_of_le→bD,le_trans→bL,le_of_lt→dM,zero_add→cW
open Go.Lib renaming hid→aA
open Go.RowKit.Below renaming refl→aD
open Go.World renaming cell?_of_block→aV,frozen?_of_block→iR
open And renaming intro→aJ
open Go.Act renaming put→aQ
open Go renaming bodyPost_ret→bE,below_drewN→aZ
namespace Go.Proofs.YtpbaobmegomfpabGreatDoor
open Go.RowKit
section
variable {base P:Nat}{f:Nat->Value}{G:Nat->Option Nat}{mode:Int}{m:Mach PE}{N:Nat}
theorem gAn {c:Nat}(hc:c<6)(h0: ∀d,d<c->dD mode (m.get d)=false)(h1:dD mode (m.get c)=true):m.firstR mode=some c:=by
 cases hf:m.firstR mode with
 |none=>have:=wT hf hc;rw[h1]at this;cases this
 |some d=>
  obtain⟨hd,hr⟩:=nY hf;rcases Nat.lt_trichotomy d c with h|h|h
  ·rw[h0 d h]at hr;cases hr
  ·rw[h]
  ·unfold Mach.firstR at hf;rw[List.find?_eq_some_iff_append]at hf;obtain⟨_,xs,ys,e,ha⟩:=hf
   have hm:c∈xs:=by
    have hcr:c∈List.range 6:=List.mem_range.2 hc;have hs:List.Pairwise (· < ·) (List.range 6):=List.pairwise_lt_range;rw[e]at hcr hs;rcases List.mem_append.1 hcr with hh|hh
    ·exact hh
    ·rcases List.mem_cons.1 hh with hh|hh
     ·omega
     ·have:=(List.pairwise_cons.1 (List.pairwise_append.1 hs).2.1).1 c hh;omega
   have:=ha c hm;rw[h1]at this
   cases this
theorem gAo (h0: ∀d,d<6->dD mode (m.get d)=false):m.firstR mode=none:=by
 cases hf:m.firstR mode with
 |none=>rfl
 |some d=>obtain⟨hd,hr⟩:=nY hf;rw[h0 d hd]at hr;cases hr
theorem gAp (w:World)(h:PMem 0 w base P f G mode m)(hT:Tabs w base)(hI:Inv mode m N)(hN:N<=300000)(hbl:m.busy.length<=8):
  Calls Tryz.prog 79 #[cC P 0] w (xA4 w base P mode (m.step aO mode)):=by
 have hbP:=(h.lo 0 P h.p0).1;have H0:=aA (aJ h (aJ hT hI));have hPw:=h.row.lt;clear h hT hI;unfold cC;go_enter Tryz.func79,Tryz.ntmps79;go_wp2
 go_loopw [4] (fun i wr=> ∃k:Nat,k<=6/\i= .int .i64 k/\Hid ((∀d,d<k->dD mode (m.get d)=false)/\Below w.heap.size w wr)) (fun i _=>6-(intOf i).toNat)
 case atStart=>exact⟨0,by omega,rfl,(fun d hd=>absurd hd (by omega)),aD _ _⟩
 case round=>
  obtain⟨k,hk,rfl,HZ⟩:=hrel;have HM:=aA (H0.out.1.below HZ.out.2);have HB:=aA (HZ.out.2.mono (bL hbP (dM hPw)));have HT:=aA (H0.out.2.1.below HB.out)
  by_cases hlt:k<6
  ·have HR:=aA (gAh wr HM.out hlt);unfold cC at HR
   cases hq:dD mode (m.get k)with
   |true=>
    rw[hq]at HR;have HE:=aA (show m.step aO mode=(true,m.proc aO mode k) by unfold Mach.step;rw[gAn hlt HZ.out.1 hq]);have HQ:=aA hq;clear hq;go_wp2_with fail;refine HR.out.mono ?_;rintro e w1 ⟨rfl,hb1⟩;have HP:=aA (gAm w1 (HM.out.below hb1) (HT.out.below (hb1.mono (bL hbP (dM HM.out.row.lt)))) H0.out.2.2 hN hlt HQ.out);have HB1:=aA (HB.out.trans (hb1.mono (bL hbP (dM HM.out.row.lt))));unfold cC at HP;clear hb1 HR;go_wp2_with fail;refine HP.out.mono ?_;rintro e w2 ⟨f2,G2,rfl,hM2,hB2⟩;have HF:=aA (aJ hM2 (HB1.out.trans hB2));clear hM2 hB2 HP;go_wp2;go_ret;rw[HE.out];exact⟨f2,G2,rfl,HF.out.1,HF.out.2⟩
   |false=>
    rw[hq]at HR
    have HF := aA (show ∀ d, d < k + 1 → dD mode (m.get d) = false from fun d hd => by
     rcases Nat.lt_or_ge d k with h'|h'
     ·exact HZ.out.1 d h'
     ·obtain rfl:d=k:=by omega
      exact hq)
    have HZ2:=aA HZ.out.2;clear hq HZ;go_wp2_with fail;refine HR.out.mono ?_;rintro e w1 ⟨rfl,hb1⟩;have HB1:=aA (aR HZ2.out hb1 HZ2.out.size);clear hb1 HR;go_wp2;go_roundw
    case rel=>exact⟨k+1,by omega,by go_num,HF.out,HB1.out⟩
    case measure=>simp[intOf];omega
  ·obtain rfl:k=6:=by omega
   have hfn:=gAo HZ.out.1;have HE:=aA (show m.step aO mode=m.enq.assign aO by unfold Mach.step;rw[hfn]);have HQ:=aA (gAj wr HM.out H0.out.2.2.line);have HIE:=aA (H0.out.2.2.enq hfn);unfold cC at HQ;clear hfn HZ;go_wp2_with fail;refine HQ.out.mono ?_;rintro e w1 ⟨f1,G1,rfl,hM1,hB1⟩;have HA:=aA (gAk w1 hM1 (HT.out.below hB1) HIE.out hbl);have HB1:=aA (HB.out.trans hB1);unfold cC at HA;clear hM1 hB1 HQ;go_wp2_with fail;refine HA.out.mono ?_;rintro e w2 ⟨f2,G2,rfl,hM2,hB2⟩;have HF:=aA (aJ hM2 (HB1.out.trans hB2));clear hM2 hB2 HA;go_wp2;go_ret;rw[HE.out];exact⟨f2,G2,rfl,HF.out.1,HF.out.2⟩
end
def tS:Nat->ByteArray->List Req×ByteArray×Bool
 |0,b=>([],b,false)
 |n+1,b=>match pull b with
  |none=>([],b,false)
  |some (k,t,j)=>if k=88 then([],b,true)else(fK k t::(tS n (b.extract j b.size)).1,(tS n (b.extract j b.size)).2.1,(tS n (b.extract j b.size)).2.2)
def tT (b:ByteArray):List Req×ByteArray×Bool:=tS (b.size+1) b
section
variable {E:Type}{o:mF E}{mode:Int}{m:Mach E}{c:Nat}
end
structure So where
 d:D
 b:Nat->ByteArray
def D.gone (d:D)(c:Nat):D:=⟨d.w.put c Sess.zero,d.sent,d.deeds⟩
def So.act (mode:Int)(s:So)(a:Act):So:=
 if a.kind=1 then
  (if (tT (s.b a.c.toNat ++ a.data)).2.2 then ⟨((tT (s.b a.c.toNat ++ a.data)).1.foldl (D.one mode a.c.toNat) s.d).gone a.c.toNat, aL s.b a.c.toNat ⟨#[]⟩⟩
  else ⟨(tT (s.b a.c.toNat ++ a.data)).1.foldl (D.one mode a.c.toNat) s.d, aL s.b a.c.toNat (tT (s.b a.c.toNat ++ a.data)).2.1⟩)
 else⟨s.d.gone a.c.toNat,aL s.b a.c.toNat ⟨#[]⟩⟩
def So.run (mode:Int)(s:So)(l:List Act):So:=l.foldl (So.act mode) s
def Mach.so (m:Mach Wd):So:=⟨m.d,m.b⟩
section
variable {mode:Int}{m:Mach Wd}{c:Nat}
end
section
variable {mode:Int}{m:Mach Wd}{c:Nat}
end
theorem tU {b:ByteArray}{j:Nat}:(b.extract j b.size).size=b.size-j:=by simp
section
variable {mode:Int}
end
theorem tV: ∀{l k:List Act},eA (l++k)=0 ↔ eA l=0/\eA k=0
 |[],k=>by simp[eA]
 |a::l,k=>by
  constructor
  ·intro h;obtain⟨h1,h2⟩:=lJ h;obtain⟨h3,h4⟩:=tV.1 h2;exact⟨by unfold eA;rw[h1];simpa using h3,h4⟩
  ·intro⟨h,hk⟩;obtain⟨h1,h2⟩:=lJ h;show eA (a::(l++k))=0;unfold eA;rw[h1];simpa using tV.2 ⟨h2,hk⟩
theorem gAq {E:Type}{o:mF E}{mode:Int}{m:Mach E}{l k:List Act}:m.run o mode (l++k)=(m.run o mode l).run o mode k:=List.foldl_append ..
section
variable {mode:Int}{m:Mach Wd}{c:Nat}
end
section
variable {mode:Int}{m:Mach Wd}{c:Nat}
end
section
variable {E:Type}{o:mF E}{mode:Int}
theorem gAr (m:Mach E)(c:Nat):(m.proc o mode c).busy.length=m.busy.length:=by
 unfold Mach.proc
 split
 ·rfl
 ·simp only
  split
  ·rfl
  ·split
   ·simp[Mach.release,Mach.tell,Mach.set]
   ·rfl
theorem tW (m:Mach E):(m.step o mode).2.busy.length=m.busy.length:=by
 unfold Mach.step
 cases m.firstR mode with
 |some c=>exact gAr m c
 |none=>
  show((m.enq.assign o).2).busy.length=_;unfold Mach.assign
  split
  ·rfl
  ·split
   ·simp[Mach.enq]
   ·rfl
theorem xA8: ∀(n:Nat) (m:Mach E),(m.iter o mode n).busy.length=m.busy.length
 |0,m=>rfl
 |n+1,m=>by
  unfold Mach.iter
  split
  ·rw[xA8 n,tW]
  ·exact tW m
theorem pG (m:Mach E):(m.all o mode).busy.length=m.busy.length:=xA8 _ m
theorem pH (m:Mach E)(c:Nat):(m.leave o c).busy.length=m.busy.length:=by
 unfold Mach.leave;simp only;split<;>simp
theorem xN: ∀(n:Nat) (m:Mach E) (c:Nat),(m.feed o mode n c).busy.length=m.busy.length
 |0,m,c=>rfl
 |n+1,m,c=>by
  unfold Mach.feed
  split
  ·rfl
  ·split
   ·rw[pH,pG]
   ·exact xN n _ c
theorem gAs (m:Mach E)(a:Act):(m.act o mode a).busy.length=m.busy.length:=by
 unfold Mach.act;rw[pG]
 split
 ·exact xN _ _ _
 ·exact pH m _
end
section
variable {mode:Int}{m:Mach Wd}{c:Nat}
end
section
variable {base P:Nat}{f:Nat->Value}{G:Nat->Option Nat}{mode:Int}{m:Mach PE}{N:Nat}
theorem xO (w:World)(h:PMem 0 w base P f G mode m)(hT:Tabs w base)(hI:Inv mode m N)(hN:N<=300000)(hbl:m.busy.length<=8):
  Calls Tryz.prog 51 #[cC P 0] w (nZ w base P mode (m.all aO mode)):=by
 have H0:=aA (aJ h (aJ hT hI));clear h hT hI;unfold cC;go_enter Tryz.func51,Tryz.ntmps51;go_wp2_with fail
 go_loopg [2,3] m.mu (fun gg _ _ wr=>Hid (∃m1 f1 G1,m1.mu<=gg/\PMem 0 wr base P f1 G1 mode m1/\Inv mode m1 N/\m1.all aO mode=m.all aO mode/\m1.busy.length<=8/\Below base w wr))
 case atStart=>exact⟨m,f,G,aI _,H0.out.1,H0.out.2.2,rfl,hbl,aD _ _⟩
 case round=>
  obtain⟨m1,f1,G1,hmu,hM,hI,hall,hb8,hB⟩:=hrel.out;have HS:=aA (gAp wr hM (H0.out.2.1.below hB) hI hN hb8);unfold cC at HS;have HI:=aA (aJ hI (aJ hall (aJ hb8 hB)));clear hM hI hall hb8 hB hrel
  cases hq:(m1.step aO mode).1 with
  |true=>
   have HQ:=aA hq;clear hq;go_wp2_with fail;refine HS.out.mono ?_;rintro e w1 ⟨f2,G2,rfl,hM2,hB2⟩;have HF:=aA (aJ hM2 (HI.out.2.2.2.trans hB2));have hmu2:=(HI.out.1.ok.step (o:=aO)).2 HQ.out;rw[HQ.out];clear hM2 hB2 HS;go_wp2
   go_roundg ((m1.step aO mode).2.mu)
   case measure=>omega
   case rel=>exact⟨_,f2,G2,aI _,HF.out.1,HI.out.1.step,(wV HI.out.1.ok HQ.out).symm.trans HI.out.2.1,by rw[tW];exact HI.out.2.2.1,HF.out.2⟩
  |false=>
   have HQ:=aA hq;clear hq;go_wp2_with fail;refine HS.out.mono ?_;rintro e w1 ⟨f2,G2,rfl,hM2,hB2⟩;have HF:=aA (aJ hM2 (HI.out.2.2.2.trans hB2));rw[HQ.out];clear hM2 hB2 HS;go_wp2;go_end0;have e:=(qQ HQ.out).symm.trans HI.out.2.1;rw[<-e];exact⟨f2,G2,rfl,HF.out.1,HF.out.2⟩
end
section
variable {base P:Nat}{f:Nat->Value}{G:Nat->Option Nat}{mode:Int}{m:Mach PE}
theorem xA9 (w:World)(h:PMem 0 w base P f G mode m)(hm:MOk mode m)(hp:m.e.w.ss.length=m.busy.length)(hk6:m.e.kept.length=6){c s:Nat}(hc:c<6)(hs:(m.get c).srv=some s):
  Calls Tryz.prog 76 #[cC P 0,cC P (4+c*6)] w fun e w'=> ∃f',e= .returned (.tuple #[])/\PMem 0 w' base P f' G mode (m.release aO c s)/\Below base w w'/\KeepF G w w':=by
 have hP:=h.row.lt;have hbP:=(h.lo 0 P h.p0).1;have hb:=(fN.1 (hm.srv c s hs)).1;have hlt:s<m.e.w.ss.length:=by omega
 obtain⟨q,hq,hqs⟩:=h.srv c hc;obtain rfl:=hqs s hs;obtain⟨gB,oB,cB,hf2,hFB,hgB,hcs⟩:=h.wld.at (by omega);obtain⟨v1,v2,v3,v4,sB,i1,i2,i3,i4⟩:=hcs s hlt;have a2:=h.row.cell (j:=2) (by omega);rw[hf2]at a2;have a3:=h.row.cell (j:=4+c*6+3) (by omega);rw[hq]at a3;obtain⟨q0,q1,q2,q3,q4,l1,l2,l3,l4⟩:=sB;obtain⟨E1,e1,rfl,hE1⟩:=l1.form;obtain⟨E2,e2,rfl,hE2⟩:=l2.form;obtain⟨E3,e3,rfl,hE3⟩:=l3.form;obtain⟨E4,e4,rfl,hE4⟩:=l4.form;have hbd:=h.wld.wld.sess.bytes;have hsI:(s:Int)<(m.e.w.ss.length:Int):=by omega
 have HH:=aA h;have HP0:=aA h.p0;have HL1:=aA (aJ l1 i1);have HL2:=aA (aJ l2 i2);have hat:=iQ hlt;have HK6:=aA hk6;have HN6:=aA hm.n6;have HHB:=aA hb;have HSR:=aA hs;obtain⟨S,HS⟩: ∃S,Hid (m.e.w.ss[s]=S):=⟨_,aA rfl⟩;rw[HS.out]at q0 q1 q2 q3 q4 HL1 HL2 hat;have HAT:=aA hat;clear hat;clear h hm hp hk6 hs hq hqs hf2 hFB hcs l1 l2 l3 l4 i1 i2 i3 i4 hE1 hE2 hE3 hE4 hb HS hlt;generalize m.e.w.ss.length=n2 at*;unfold cC;go_enter Tryz.func76,Tryz.ntmps76;go_wp2_with fail;refine eF 12 (fun wx=>wx.cell? ⟨P,2,none⟩=some (.slice (some ⟨gB,oB,none⟩) n2 cB)/\wx.cell? ⟨P,4+c*6+3,none⟩=some (.int .i64 s)/\wx.cell? ⟨gB,oB+s*5,none⟩=some (.int .i64 S.st)/\wx.cell? ⟨gB,oB+s*5+1,none⟩=some (.slice E1 S.set.length e1)/\wx.cell? ⟨gB,oB+s*5+2,none⟩=some (.slice E2 S.prep.length e2)/\wx.cell? ⟨gB,oB+s*5+3,none⟩=some (.slice E3 S.sav.length e3)/\wx.cell? ⟨gB,oB+s*5+4,none⟩=some (.slice E4 S.wr.length e4)) (by kernel_rfl) (show w.drew.cell? ⟨P,2,none⟩=some (.slice (some ⟨gB,oB,none⟩) n2 cB)/\w.drew.cell? ⟨P,4+c*6+3,none⟩=some (.int .i64 s)/\w.drew.cell? ⟨gB,oB+s*5,none⟩=some (.int .i64 S.st)/\w.drew.cell? ⟨gB,oB+s*5+1,none⟩=some (.slice E1 S.set.length e1)/\w.drew.cell? ⟨gB,oB+s*5+2,none⟩=some (.slice E2 S.prep.length e2)/\w.drew.cell? ⟨gB,oB+s*5+3,none⟩=some (.slice E3 S.sav.length e3)/\w.drew.cell? ⟨gB,oB+s*5+4,none⟩=some (.slice E4 S.wr.length e4)from⟨a2,a3,q0,q1,q2,q3,q4⟩) (fun hS=>?_);refine dF [(0,[]),(1,[]),(2,[]),(3,[]),(4,[]),(5,[]),(6,[]),(7,[]),(8,[]),(9,[]),(10,[])] ?_
 iterate 11
  refine dH (v:=?_) hS ?_ ?_;rotate_left
  ·(intro w hSw;(try dsimp only at hSw);(try simp only[aE,aB,aC]);go_simp;try with_reducible rfl)
  (try simp only[aE,aB,aC,aQ,aH,aG,aF])
 refine dG ?_;refine cK (i:=11) (fun K hK=>?_)
 (try simp only[aE,aB,aC])
 go_simp;have hS2:=(show(w.drew.alloc (.cells #[.int .i64 0,.slice none 0 0,.slice none 0 0,.slice none 0 0,.slice none 0 0] 115)).cell? ⟨P,2,none⟩=some (.slice (some ⟨gB,oB,none⟩) n2 cB)/\(w.drew.alloc (.cells #[.int .i64 0,.slice none 0 0,.slice none 0 0,.slice none 0 0,.slice none 0 0] 115)).cell? ⟨P,4+c*6+3,none⟩=some (.int .i64 s)/\(w.drew.alloc (.cells #[.int .i64 0,.slice none 0 0,.slice none 0 0,.slice none 0 0,.slice none 0 0] 115)).cell? ⟨gB,oB+s*5,none⟩=some (.int .i64 S.st)/\(w.drew.alloc (.cells #[.int .i64 0,.slice none 0 0,.slice none 0 0,.slice none 0 0,.slice none 0 0] 115)).cell? ⟨gB,oB+s*5+1,none⟩=some (.slice E1 S.set.length e1)/\(w.drew.alloc (.cells #[.int .i64 0,.slice none 0 0,.slice none 0 0,.slice none 0 0,.slice none 0 0] 115)).cell? ⟨gB,oB+s*5+2,none⟩=some (.slice E2 S.prep.length e2)/\(w.drew.alloc (.cells #[.int .i64 0,.slice none 0 0,.slice none 0 0,.slice none 0 0,.slice none 0 0] 115)).cell? ⟨gB,oB+s*5+3,none⟩=some (.slice E3 S.sav.length e3)/\(w.drew.alloc (.cells #[.int .i64 0,.slice none 0 0,.slice none 0 0,.slice none 0 0,.slice none 0 0] 115)).cell? ⟨gB,oB+s*5+4,none⟩=some (.slice E4 S.wr.length e4)from⟨((((aD w.heap.size w).drew).alloc (aI _) (.cells #[.int .i64 0,.slice none 0 0,.slice none 0 0,.slice none 0 0,.slice none 0 0] 115)).cell (p:=⟨P,2,none⟩) hP).trans a2,((((aD w.heap.size w).drew).alloc (aI _) (.cells #[.int .i64 0,.slice none 0 0,.slice none 0 0,.slice none 0 0,.slice none 0 0] 115)).cell (p:=⟨P,4+c*6+3,none⟩) hP).trans a3,((((aD w.heap.size w).drew).alloc (aI _) (.cells #[.int .i64 0,.slice none 0 0,.slice none 0 0,.slice none 0 0,.slice none 0 0] 115)).cell (p:=⟨gB,oB+s*5,none⟩) hgB).trans q0,((((aD w.heap.size w).drew).alloc (aI _) (.cells #[.int .i64 0,.slice none 0 0,.slice none 0 0,.slice none 0 0,.slice none 0 0] 115)).cell (p:=⟨gB,oB+s*5+1,none⟩) hgB).trans q1,((((aD w.heap.size w).drew).alloc (aI _) (.cells #[.int .i64 0,.slice none 0 0,.slice none 0 0,.slice none 0 0,.slice none 0 0] 115)).cell (p:=⟨gB,oB+s*5+2,none⟩) hgB).trans q2,((((aD w.heap.size w).drew).alloc (aI _) (.cells #[.int .i64 0,.slice none 0 0,.slice none 0 0,.slice none 0 0,.slice none 0 0] 115)).cell (p:=⟨gB,oB+s*5+3,none⟩) hgB).trans q3,((((aD w.heap.size w).drew).alloc (aI _) (.cells #[.int .i64 0,.slice none 0 0,.slice none 0 0,.slice none 0 0,.slice none 0 0] 115)).cell (p:=⟨gB,oB+s*5+4,none⟩) hgB).trans q4⟩);refine hK.out _ _ hS2 ?_;clear hK K hS;have hS:=hS2;clear hS2
 (try simp only[aE,aB,aC,aQ,aH,aG,aF])
 refine bY (fun K hK=>?_)
 (try simp only[aE,aB,aC])
 go_simp;refine hK.out _ _ ?_;clear hK K
 (try simp only[aE,aB,aC,aQ,aH,aG,aF])
 go_wp2_with fail;have nA:Below w.heap.size w (w.alloc (.cells #[.int .i64 S.st,.slice E1 S.set.length e1,.slice E2 S.prep.length e2,.slice E3 S.sav.length e3,.slice E4 S.wr.length e4] 115)).drew:=(((aD w.heap.size w).alloc (aI _) (.cells #[.int .i64 S.st,.slice E1 S.set.length e1,.slice E2 S.prep.length e2,.slice E3 S.sav.length e3,.slice E4 S.wr.length e4] 115))).drew;have X:=RowTo.whole w #[.int .i64 S.st,.slice E1 S.set.length e1,.slice E2 S.prep.length e2,.slice E3 S.sav.length e3,.slice E4 S.wr.length e4] 115;have t1:(w.alloc (.cells #[.int .i64 S.st,.slice E1 S.set.length e1,.slice E2 S.prep.length e2,.slice E3 S.sav.length e3,.slice E4 S.wr.length e4] 115)).drew.cell? ⟨w.heap.size,1,none⟩=some (.slice E1 S.set.length e1):=X.cell (j:=1) (by simp);have t2:(w.alloc (.cells #[.int .i64 S.st,.slice E1 S.set.length e1,.slice E2 S.prep.length e2,.slice E3 S.sav.length e3,.slice E4 S.wr.length e4] 115)).drew.cell? ⟨w.heap.size,2,none⟩=some (.slice E2 S.prep.length e2):=X.cell (j:=2) (by simp);have hM1:=HH.out.below nA;have hl1:=iX HL1.out nA.size (fun b _ hb=>nA.block b hb);have hl2:=iX HL2.out nA.size (fun b _ hb=>nA.block b hb);have hz1:(w.alloc (.cells #[.int .i64 S.st,.slice E1 S.set.length e1,.slice E2 S.prep.length e2,.slice E3 S.sav.length e3,.slice E4 S.wr.length e4] 115)).drew.heap.size=w.heap.size+1:=by simp[World.drew]
 have HKA:=aA (KeepF.below (G:=G) nA);have HBA:=aA (nA.mono (bL hbP (dM hP)));generalize(w.alloc (.cells #[.int .i64 S.st,.slice E1 S.set.length e1,.slice E2 S.prep.length e2,.slice E3 S.sav.length e3,.slice E4 S.wr.length e4] 115)).drew=W1 at*;have HL1b:=aA hl1;have HL2b:=aA hl2;have HM1:=aA hM1;have p4:=hM1.row.cell (j:=4+c*6+4) (by omega);have p5:=hM1.row.cell (j:=4+c*6+5) (by omega);have z4:=hM1.row.frozen (4+c*6+4);have z5:=hM1.row.frozen (4+c*6+5);have hPX:P≠w.heap.size:=by omega
 clear hM1 hl1 hl2 X nA a2 a3 q0 q1 q2 q3 q4 hS HL1 HL2 HH;refine eF 11 (fun wx=>wx.cell? ⟨w.heap.size,1,none⟩=some (.slice E1 S.set.length e1)/\wx.cell? ⟨w.heap.size,2,none⟩=some (.slice E2 S.prep.length e2)) (by kernel_rfl) (show W1.drew.cell? ⟨w.heap.size,1,none⟩=some (.slice E1 S.set.length e1)/\W1.drew.cell? ⟨w.heap.size,2,none⟩=some (.slice E2 S.prep.length e2)from⟨t1,t2⟩) (fun hS=>?_);refine dF [(0,[]),(1,[]),(2,[]),(3,[]),(4,[]),(5,[]),(6,[]),(7,[])] ?_
 iterate 8
  refine dH (v:=?_) hS ?_ ?_;rotate_left
  ·(intro w hSw;(try dsimp only at hSw);(try simp only[aE,aB,aC]);go_simp;try with_reducible rfl)
  (try simp only[aE,aB,aC,aQ,aH,aG,aF])
 refine dG ?_;refine cK (i:=8) (fun K hK=>?_)
 (try simp only[aE,aB,aC])
 go_simp;have hS2:=(show(W1.drew.setCell ⟨P,4+c*6+4,none⟩ (.slice E1 S.set.length e1)).cell? ⟨w.heap.size,1,none⟩=some (.slice E1 S.set.length e1)/\(W1.drew.setCell ⟨P,4+c*6+4,none⟩ (.slice E1 S.set.length e1)).cell? ⟨w.heap.size,2,none⟩=some (.slice E2 S.prep.length e2)from⟨cH (p:=⟨P,4+c*6+4,none⟩) hPX t1,cH (p:=⟨P,4+c*6+4,none⟩) hPX t2⟩);refine hK.out _ _ hS2 ?_;clear hK K hS;have hS:=hS2;clear hS2
 (try simp only[aE,aB,aC,aQ,aH,aG,aF])
 refine dF [(9,[10]),(10,[])] ?_
 iterate 2
  refine dH (v:=?_) hS ?_ ?_;rotate_left
  ·(intro w hSw;(try dsimp only at hSw);(try simp only[aE,aB,aC]);go_simp;try with_reducible rfl)
  (try simp only[aE,aB,aC,aQ,aH,aG,aF])
 refine dG ?_;refine bY (fun K hK=>?_)
 (try simp only[aE,aB,aC])
 go_simp;refine hK.out _ _ ?_;clear hK K
 (try simp only[aE,aB,aC,aQ,aH,aG,aF])
 go_wp2_with fail;have hM2:=(HM1.out.setLists hc HK6.out HL1b.out HL2b.out).below (aD _ _).drew;have hB2:=((HBA.out.setCell (p:=⟨P,4+c*6+4,none⟩) hbP (.slice E1 S.set.length e1)).setCell (p:=⟨P,4+c*6+5,none⟩) hbP (.slice E2 S.prep.length e2)).drew;have hK2:KeepF G w (((W1.setCell ⟨P,4+c*6+4,none⟩ (.slice E1 S.set.length e1)).setCell ⟨P,4+c*6+5,none⟩ (.slice E2 S.prep.length e2)).drew):=((HKA.out.set (k:=0) HP0.out (4+c*6+4) (.slice E1 S.set.length e1)).set (k:=0) HP0.out (4+c*6+5) (.slice E2 S.prep.length e2));obtain⟨W2,HW2⟩: ∃u,Hid (((W1.setCell ⟨P,4+c*6+4,none⟩ (.slice E1 S.set.length e1)).setCell ⟨P,4+c*6+5,none⟩ (.slice E2 S.prep.length e2)).drew=u):=⟨_,aA rfl⟩;rw[HW2.out]at hM2 hB2 hK2 ⊢;clear HW2 hS t1 t2 p4 p5 z4 z5 HM1 HL1b HL2b HBA;obtain⟨bb,ob,cp,g1,f3,hle,⟨y,hy⟩,hfz,hM3⟩:=hM2.setBusy (j:=s) HHB.out false;obtain⟨q,hq,hqs⟩:=hM2.srv c hc;obtain rfl:=hqs s HSR.out;have b3:=hM2.row.cell (j:=3) (by omega);rw[f3]at b3;have bs:=hM2.row.cell (j:=4+c*6+3) (by omega);rw[hq]at bs;have hbb:=hM2.lo 1 bb g1;have hPl:=hM2.row.lt;have hPb:P≠bb:=fun e=>hM2.noP (k:=1) (by omega) (by rw[g1,e])
 have c2:=hM3.row.cell (j:=4+c*6+2) (by omega);have z2:=hM3.row.frozen (4+c*6+2);have hM4:=(hM3.setNone hc HN6.out).below (aD _ _).drew;have hB4:=((hB2.setCell (p:=⟨bb,ob+s,none⟩) hbb.1 (.bool false)).setCell (p:=⟨P,4+c*6+2,none⟩) hbP (.bool false)).drew
 have hEq:m.release aO c s=Mach.set {({m with e:=⟨m.e.w,m.e.kept.set c (S.set,S.prep)⟩}:Mach PE)with busy:=({m with e:=⟨m.e.w,m.e.kept.set c (S.set,S.prep)⟩}:Mach PE).busy.set s false} c {Mach.get {({m with e:=⟨m.e.w,m.e.kept.set c (S.set,S.prep)⟩}:Mach PE)with busy:=({m with e:=⟨m.e.w,m.e.kept.set c (S.set,S.prep)⟩}:Mach PE).busy.set s false} c with srv:=none}:=by
  show _=_;unfold Mach.release aO PE.free Mach.set;simp only[HAT.out];rfl
 rw[<-hEq]at hM4;have hK4:KeepF G w (((W2.setCell ⟨bb,ob+s,none⟩ (.bool false)).setCell ⟨P,4+c*6+2,none⟩ (.bool false)).drew):=(hK2.set (k:=1) g1 (ob+s) (.bool false)).set (k:=0) HP0.out (4+c*6+2) (.bool false);have HF:=aA (aJ hM4 (aJ hB4 hK4));have hsB:s<m.busy.length:=HHB.out;have hsBI:(s:Int)<(m.busy.length:Int):=by omega
 generalize m.busy.length=nB at*;clear hM2 hM3 hM4 hB4 hB2 hK2 hK4 hEq hq hqs f3 g1 HHB HSR HN6 HK6 HAT;refine eF 9 (fun wx=>wx.cell? ⟨P,3,none⟩=some (.slice (some ⟨bb,ob,none⟩) nB cp)/\wx.cell? ⟨P,4+c*6+3,none⟩=some (.int .i64 s)) (by kernel_rfl) (show W2.drew.cell? ⟨P,3,none⟩=some (.slice (some ⟨bb,ob,none⟩) nB cp)/\W2.drew.cell? ⟨P,4+c*6+3,none⟩=some (.int .i64 s)from⟨b3,bs⟩) (fun hS=>?_);refine dF [(0,[]),(1,[]),(2,[]),(3,[]),(4,[]),(5,[]),(6,[]),(7,[]),(8,[])] ?_
 iterate 9
  refine dH (v:=?_) hS ?_ ?_;rotate_left
  ·(intro w hSw;(try dsimp only at hSw);(try simp only[aE,aB,aC]);go_simp;try with_reducible rfl)
  (try simp only[aE,aB,aC,aQ,aH,aG,aF])
 refine dG ?_;refine bY (fun K hK=>?_)
 (try simp only[aE,aB,aC])
 go_simp;refine hK.out _ _ ?_;clear hK K
 (try simp only[aE,aB,aC,aQ,aH,aG,aF])
 go_wp2;go_end0;exact⟨_,rfl,HF.out.1,HF.out.2.1,HF.out.2.2⟩
end
def iH (x:Nat):List Value:=[.int .i64 (x:Int)]
section
variable {w:World}{b off cap:Nat}{d:List (Nat)}
theorem gAt: ∀e∈d.map iH,e.length=1:=fun e he=>by
 obtain⟨x,_,rfl⟩:=List.mem_map.1 he;rfl
theorem Rw.cN (h:Rw w 3 1 b off cap (d.map iH)){i:Nat}(hi:i<d.length):w.cell? ⟨b,off+i,none⟩=some (.int .i64 (d[i]:Int)):=by
 have hi':i<(d.map iH).length:=by simpa using hi
 have h0:=h.cell i hi' 0 (by omega);rw[List.getElem_map]at h0
 simpa [iH] using h0
end
theorem gAu (lbv:Value)(p:Nat->Bool)(w:World)(b off cap B:Nat)(d:List (Nat))(hR:Rw w 3 1 b off cap (d.map iH))(hby:d.length<=1000000000000000)(hB:B<=b)
  (hp: ∀x∈d,∀wc,Below B w wc->(∀g,g<w.heap.size->g≠b->wc.heap[g]? =w.heap[g]?)->Calls Tryz.prog 78 #[.int .i64 (x:Int),lbv] wc fun e w'=>e= .returned (.bool (p x))/\Below wc.heap.size wc w'):
  Calls Tryz.prog 98 #[.slice (some ⟨b,off,none⟩) d.length cap,.func (.func 78) #[] #[lbv]] w fun e w'=>(∃i:Int,e= .returned (.int .i64 i)/\((i= -1/\ ∀x∈d,p x=false)\/ ∃k,∃hk:k<d.length,i=k/\p d[k]=true/\ ∀x∈d.take k,p x=false))/\Below w.heap.size w w':=by
 have hbl:=hR.row.lt;have HR:=aA hR;have HP:=aA hp;have hcap:d.length<=cap:=by simpa using hR.room
 clear hR hp;go_enter Tryz.func98,Tryz.ntmps98;go_wp2
 go_loopw [8] (fun i wr=> ∃k:Nat,k<=d.length/\i= .int .i64 k/\Hid ((∀x∈d.take k,p x=false)/\Below w.heap.size w wr)) (fun i _=>d.length-(intOf i).toNat)
 case atStart=>exact⟨0,by omega,rfl,(fun x hx=>by simp at hx),aD _ _⟩
 case round=>
  obtain⟨k,hk,rfl,HZ⟩:=hrel
  by_cases hlt:k<d.length
  ·have hRk:=HR.out.below HZ.out.2 hbl;have a0:=hRk.cN hlt;have hblr:b<wr.heap.size:=bD hbl HZ.out.2.size;have HC:=aA (HP.out d[k] (List.getElem_mem hlt) wr (HZ.out.2.mono (by omega)) (fun g hg _=>HZ.out.2.block g hg));have HT:=aA (fun(h:p d[k]=true)=>(show∃k',∃hk:k'<d.length,(k:Int)=k'/\p d[k']=true/\ ∀x∈d.take k',p x=false from⟨k,hlt,rfl,h,HZ.out.1⟩))
   have HF := aA (fun (h : p d[k] = false) => (show ∀ x ∈ d.take (k + 1), p x = false from fun x hx => by
    rw[gO hlt]at hx;rcases List.mem_append.1 hx with hx|hx
    ·exact HZ.out.1 x hx
    ·rw [List.mem_singleton.1 hx]; exact h))
   have HZ2:=aA HZ.out.2;generalize d[k]=x at*;clear HZ hRk
   cases hq:p x with
   |true=>
    have HT2:=aA (HT.out hq);rw[hq]at HC;clear HT HF hq;go_wp2_with fail;refine HC.out.mono ?_;rintro e w2 ⟨rfl,hb2⟩;have HB2:=aA (HZ2.out.trans (hb2.mono HZ2.out.size));clear hb2;go_wp2;go_ret;exact⟨⟨k,rfl,.inr HT2.out⟩,HB2.out⟩
   |false=>
    have HF2:=aA (HF.out hq);rw[hq]at HC;clear HT HF hq;go_wp2_with fail;refine HC.out.mono ?_;rintro e w2 ⟨rfl,hb2⟩;have HB2:=aA (HZ2.out.trans (hb2.mono HZ2.out.size));clear hb2;go_wp2;go_roundw
    case rel=>exact⟨k+1,by omega,by go_num,HF2.out,HB2.out⟩
    case measure=>simp[intOf];omega
  ·obtain rfl:k=d.length:=by omega
   rw[List.take_length]at HZ;go_wp2;go_ret;exact⟨⟨-1,rfl,.inl ⟨rfl,HZ.out.1⟩⟩,HZ.out.2⟩
theorem gAv {w:World}{t b off cap:Nat}{d:List (List Value)}(h:Rw w t 1 b off cap d){i:Nat}(hi:i<=d.length)(vs:List Value):Rw (w.setCells b (off+i) vs) t 1 b off cap (d.take i):=by
 have:=h.behind hi vs;rw[Nat.mul_one]at this;exact this
theorem gAw (lbv:Value)(p:Nat->Bool)(w:World)(b off cap B:Nat)(d:List (Nat))(hR:Rw w 3 1 b off cap (d.map iH))(hby:d.length<=1000000000000000)(hB:B<=b)
  (hp: ∀x∈d,∀wc,Below B w wc->(∀g,g<w.heap.size->g≠b->wc.heap[g]? =w.heap[g]?)->Calls Tryz.prog 78 #[.int .i64 (x:Int),lbv] wc fun e w'=>e= .returned (.bool (p x))/\Below wc.heap.size wc w'):
  Calls Tryz.prog 77 #[.slice (some ⟨b,off,none⟩) d.length cap,.func (.func 78) #[] #[lbv]] w fun e w'=>e= .returned (.slice (some ⟨b,off,none⟩) (d.filter fun x=>!p x).length cap)/\Rw w' 3 1 b off cap ((d.filter fun x=>!p x).map iH)/\Below B w w'/\ ∀g,g<w.heap.size->g≠b->w'.heap[g]? =w.heap[g]? :=by
 have hbl:=hR.row.lt;have HI:=aA (gAu lbv p w b off cap B d hR hby hB hp);have HR:=aA hR;have HP:=aA hp;have hcap:d.length<=cap:=by simpa using hR.room
 clear hR hp;go_enter Tryz.func77,Tryz.ntmps77;go_wp2_with fail;refine HI.out.mono ?_;rintro e w1 ⟨⟨i,rfl,hi⟩,hb1⟩;have HB1:=aA hb1;clear HI hb1;rcases hi with⟨rfl,hall⟩|⟨k,hk,rfl,h1,h0⟩
 ·have HA:=aA (show(d.filter fun x=>!p x)=d from List.filter_eq_self.2 fun x hx=>by rw[hall x hx];rfl);clear hall;go_wp2;go_ret;rw[HA.out];exact⟨rfl,HR.out.below HB1.out hbl,HB1.out.mono (by omega),fun g hg _=>HB1.out.block g hg⟩
 ·have HK:=aA (KeepI.start hk h1 h0);have hne:((k:Int)== -1)=false:=bJ.2 (by omega);clear h1 h0;go_wp2_with fail
  go_loopw [5,6,7] (fun s5 s6 s7 wr=> ∃(i j:Nat) (dk:List (Nat)),s5= .int .i64 i/\s6= .int .i64 j/\i<j/\j<=d.length/\Hid (KeepI p d i j dk/\Rw wr 3 1 b off cap (dk.map iH)/\Below B w wr/\(w.heap.size<=wr.heap.size)/\ ∀g,g<w.heap.size->g≠b->wr.heap[g]? =w.heap[g]?)) (fun _ s6 _ _=>d.length-(intOf s6).toNat)
  case atStart=>exact⟨k,k+1,d,rfl,by go_num,by omega,by omega,HK.out,HR.out.below HB1.out hbl,HB1.out.mono (by omega),HB1.out.size,fun g hg _=>HB1.out.block g hg⟩
  case round=>
   obtain⟨i,j,dk,rfl,rfl,hij,hjn,HZ⟩:=hrel;clear HK HB1
   by_cases hlt:j<d.length
   ·have hRk:=HZ.out.2.1;have hlk:=HZ.out.1.len;have c0:=hRk.cN (i:=j) (by omega);have z0:=hRk.cN (i:=i) (by omega);rw[HZ.out.1.at hlt]at c0;have a0:=c0;skip;have f0:=hRk.row.frozen (off+i);have hbr:=hRk.row.lt;skip;have HC:=aA (HP.out d[j] (List.getElem_mem hlt) wr HZ.out.2.2.1 HZ.out.2.2.2.2);have HKK:=aA (fun(h:p d[j]=false)=>HZ.out.1.keep hlt h);have HKS:=aA (fun(h:p d[j]=true)=>HZ.out.1.skip hlt h);have hjI:(j:Int)<(d.length:Int):=(by omega);have HM:=aA (List.getElem_mem hlt);generalize d[j]=x at*;skip;clear hRk
    cases hq:p x with
    |true=>
     have HK2:=aA (HKS.out hq);rw[hq]at HC;clear HKS HKK hq;go_wp2_with fail;refine HC.out.mono ?_;rintro e w2 ⟨rfl,hb2⟩;have HB2:=aA hb2;clear hb2;have hw2:Below wr.heap.size wr w2:=HB2.out;have hn2: ∀g,g<wr.heap.size->w2.heap[g]? =wr.heap[g]? :=fun g hg=>hw2.block g hg
     have H2:=aA (aJ (HZ.out.2.1.keep (hn2 b hbr)) (aJ (show Below B w w2 from HZ.out.2.2.1.trans (hw2.mono (by have:=HZ.out.2.2.2.1;omega))) (aJ (show w.heap.size<=w2.heap.size by have:=HZ.out.2.2.2.1;have:=hw2.size;omega) (fun g (hg:g<w.heap.size) (hne:g≠b)=>(hn2 g (by have:=HZ.out.2.2.2.1;omega)).trans (HZ.out.2.2.2.2 g hg hne)))));have hb2':b<w2.heap.size:=(by have:=hw2.size;omega);go_wp2;go_roundw
     case rel=>exact⟨i,j+1,dk,rfl,by go_num,by omega,by omega,HK2.out,H2.out.1,H2.out.2.1,H2.out.2.2.1,H2.out.2.2.2⟩
     case measure=>simp[intOf];omega
    |false=>
     have HK2:=aA (HKK.out hq);rw[hq]at HC;clear HKS HKK hq;go_wp2_with fail;refine HC.out.mono ?_;rintro e w2 ⟨rfl,hb2⟩;have HB2:=aA hb2;clear hb2;have hw2:Below wr.heap.size wr w2:=HB2.out;have hn2: ∀g,g<wr.heap.size->w2.heap[g]? =wr.heap[g]? :=fun g hg=>hw2.block g hg
     have H2:=aA (aJ (HZ.out.2.1.keep (hn2 b hbr)) (aJ (show Below B w w2 from HZ.out.2.2.1.trans (hw2.mono (by have:=HZ.out.2.2.2.1;omega))) (aJ (show w.heap.size<=w2.heap.size by have:=HZ.out.2.2.2.1;have:=hw2.size;omega) (fun g (hg:g<w.heap.size) (hne:g≠b)=>(hn2 g (by have:=HZ.out.2.2.2.1;omega)).trans (HZ.out.2.2.2.2 g hg hne)))));have hb2':b<w2.heap.size:=(by have:=hw2.size;omega);have hi2:i<(dk.map iH).length:=(by rw[dR,HZ.out.1.len];omega);have H3:=aA (aJ ((show Rw (w2.setCells b (off+i) (iH x)) 3 1 b off cap ((dk.map iH).set i (iH x)) by have:=H2.out.1.set hi2 (e:=iH x) rfl;rw[Nat.mul_one]at this;exact this)) (aJ (tI H2.out.2.1 hB (off+i) (iH x)) (aJ (show w.heap.size<=(w2.setCells b (off+i) (iH x)).heap.size by rw[(jX b _ _ _).2.2.2];exact H2.out.2.2.1) (fun g (hg:g<w.heap.size) (hne:g≠b)=>(qS w2 b (off+i) (iH x) hne).trans (H2.out.2.2.2 g hg hne)))));rw[<-List.map_set]at H3;have v0:=(aV (a:=⟨b,off+i,none⟩) (hn2 b hbr)).trans z0;have g0:=(iR (a:=⟨b,off+i,none⟩) (hn2 b hbr)).trans f0;simp only[World.setCells,iH,Nat.mul_one]at H3;go_wp2;go_roundw
     case rel=>exact⟨i+1,j+1,dk.set i x,by go_num,by go_num,by omega,by omega,HK2.out,H3.out.1,H3.out.2.1,H3.out.2.2.1,H3.out.2.2.2⟩
     case measure=>simp[intOf];omega
   ·obtain rfl:j=d.length:=(by omega);have hRk:=HZ.out.2.1;have hlk:=HZ.out.1.len;have hbr:=hRk.row.lt
    have hcl: ∀ty,(Builtin.clear_ #[79] ty #[.slice (some ⟨b,off+i,none⟩) (d.length-i) (cap-i)]).run Tryz.prog wr= .ok (.tuple #[]) (wr.setCells b (off+i) (Builtin.zeroCells ((.int .i64 0):Value).cells (d.length-i)).toList):=fun ty=>by
     refine qAk (P:=Tryz.prog) wr 79 3 ty (.int .i64 0) Tryz.underlying79 Tryz.zeroValue3 (by simp[Value.cells,Value.oneCell']) (by decide) b (off+i) (d.length-i) (cap-i) (by omega) (fun q hq=>?_) (fun q=>hRk.row.frozen _);obtain⟨u,hu⟩:=hRk.row.any (j:=off+i+q) (by have:q<(d.length-i)*1:=hq;have:d.length<=cap:=hcap;omega);rw[hu];rfl
    have H2:=aA (gAv hRk (i:=i) (by rw[dR];omega) (Builtin.zeroCells ((.int .i64 0):Value).cells (d.length-i)).toList);rw[<-List.map_take,HZ.out.1.done]at H2;have HN:=aA HZ.out.1.num;have H3:=aA (aJ (tI HZ.out.2.2.1 hB (off+i) (Builtin.zeroCells ((.int .i64 0):Value).cells (d.length-i)).toList) (fun g (hg:g<w.heap.size) (hne:g≠b)=>(qS wr b (off+i) (Builtin.zeroCells ((.int .i64 0):Value).cells (d.length-i)).toList hne).trans (HZ.out.2.2.2.2 g hg hne)));clear hRk;go_wp2;go_ret;refine⟨by rw[HN.out];rfl,H2.out,H3.out.1,H3.out.2⟩
theorem gAx (A:Option Addr)(c:Nat)(fv:Value)(w:World):Calls Tryz.prog 98 #[.slice A 0 c,.func (.func 78) #[] #[fv]] w fun e w'=>e= .returned (.int .i64 (-1))/\w'=w:=by
 go_enter Tryz.func98,Tryz.ntmps98;go_wp2
 go_loopw [8] (fun i wr=>i= .int .i64 0/\wr=w) (fun i _=>0)
 case atStart=>exact⟨rfl,rfl⟩
 case round=>
  obtain⟨rfl,rfl⟩:=hrel;go_wp2;go_ret;exact⟨rfl,rfl⟩
theorem gAy (A:Option Addr)(c:Nat)(fv:Value)(w:World):Calls Tryz.prog 77 #[.slice A 0 c,.func (.func 78) #[] #[fv]] w fun e w'=>e= .returned (.slice A 0 c)/\w'=w:=by
 have HI:=aA (gAx A c fv);go_enter Tryz.func77,Tryz.ntmps77;go_wp2_with fail;refine(HI.out _).mono ?_;rintro e w1 ⟨rfl,rfl⟩;go_wp2;go_ret;exact⟨rfl,rfl⟩
theorem gAz (x c X:Nat)(w:World)(hx:w.cell? ⟨X,0,none⟩=some (.int .i64 (c:Int)))(hX:X<w.heap.size):
  Calls Tryz.prog 78 #[.int .i64 (x:Int),.pointer (some ⟨X,0,none⟩)] w fun e w'=>e= .returned (.bool (x==c))/\Below w.heap.size w w':=by
 by_cases h:x=c
 ·subst h;have hb:((x:Int)==(x:Int))=true:=by simp
  have hb2:(x==x)=true:=by simp
  rw[hb2];go_enter Tryz.func78,Tryz.ntmps78;go_wp2;go_ret;exact⟨rfl,aD _ _⟩
 ·have hb:((x:Int)==(c:Int))=false:=bJ.2 (by omega);have hb2:(x==c)=false:=bJ.2 h;rw[hb2];go_enter Tryz.func78,Tryz.ntmps78;go_wp2;go_ret;exact⟨rfl,aD _ _⟩
section
variable {base P:Nat}{f:Nat->Value}{G:Nat->Option Nat}{mode:Int}{m:Mach PE}{N:Nat}
def fA0 (w:World)(base P c:Nat)(f:Nat->Value)(G:Nat->Option Nat)(mode:Int)(m:Mach PE)(e:Ending)(w':World):Prop:=
 ∃A n q,e= .returned (.slice A n q)/\P<w'.heap.size/\w'.cell? ⟨P,40,none⟩=some (f 40)/\w'.frozen? ⟨P,40,none⟩=false/\
  PMem 0 (w'.setCell ⟨P,40,none⟩ (.slice A n q)) base P (aL f 40 (.slice A n q)) G mode {m with line:=m.line.filter (fun k=>k !=c)}/\Below base w w'
theorem xP (w:World)(h:PMem 0 w base P f G mode m)(hl:m.line.length<=6){X c:Nat}(hX:cX G X)(hXl:X<w.heap.size)(hXc:w.cell? ⟨X,0,none⟩=some (.int .i64 (c:Int))):
  Calls Tryz.prog 77 #[f 40,.func (.func 78) #[] #[.pointer (some ⟨X,0,none⟩)]] w (fA0 w base P c f G mode m):=by
 have hi8: ∀q:Mach PE,cG q 8=q.line.map iH:=fun q=>by rw[oA];rfl
 have hoth: ∀k,k≠8->cG {m with line:=m.line.filter (fun k=>k !=c)} k=cG m k:=fun k hk=>xK rfl rfl rfl rfl hk
 have hP:=h.row.lt;have hbP:=(h.lo 0 P h.p0).1
 by_cases h0:m.line=[]
 ·obtain⟨A,q,hf,_⟩:=h.lineSl.shape;rw[h0]at hf;simp only[List.length_nil]at hf;rw[hf];refine(gAy A q (.pointer (some ⟨X,0,none⟩)) w).mono ?_;rintro e w' ⟨rfl,rfl⟩;refine⟨A,0,q,rfl,hP,h.row.cell (j:=40) (by omega),h.row.frozen 40,?_,aD _ _⟩;have hx:=(h.but 8).cellX (by omega) (by omega) (.slice A 0 q);refine hx.fill ?_ hoth rfl (fun _=>rfl) (fun _=>rfl);have hs:=h.sl 8 (by omega) (by omega) (by omega);rw[dQ];rw[hi8,h0]at hs ⊢;have e8:f (cO 8)= .slice A 0 q:=hf;rw[e8]at hs;exact hs.ne (h.noP (by omega)) (cM w' P _ _)
 ·have hn:0<m.line.length:=List.length_pos_iff.2 h0;have hs:=h.sl 8 (by omega) (by omega) (by omega);rw[hi8,dR]at hs;obtain⟨b,off,cap,hG,hf,hR⟩:=hs.rw gAt (by simp) hn;have hf':f 40= .slice (some ⟨b,off,none⟩) m.line.length cap:=hf;have hbb:=h.lo 8 b hG;have hXb:X≠b:=fun e=>hX 8 (by rw[hG,e])
  have hPb:P≠b:=fun e=>h.noP (k:=8) (by omega) (by rw[hG,e])
  rw[hf'];refine(gAw (.pointer (some ⟨X,0,none⟩)) (fun x=>x==c) w b off cap base m.line hR (by omega) hbb.1 (fun x _ wc _ hk=>?_)).mono ?_
  ·refine gAz x c X wc ?_ ?_
   ·exact(aV (hk X hXl hXb)).trans hXc
   ·have:=hk X hXl hXb;rw[Array.getElem?_eq_getElem hXl]at this;exact(Array.getElem?_eq_some_iff.1 this).1
  ·rintro e w' ⟨rfl,hR',hB,hk⟩;refine⟨_,_,_,rfl,bD hP hB.size,?_,?_,?_,hB⟩
   ·exact(aV (hk P hP hPb)).trans (h.row.cell (j:=40) (by omega))
   ·exact(iR (hk P hP hPb)).trans (h.row.frozen 40)
   ·have hk8:=(h.but 8).keep (by omega) hB.size (fun g hg hne=>hk g hg (fun e=>hne (by rw[hG,e])));have hx:=hk8.cellX (by omega) (by omega) (.slice (some ⟨b,off,none⟩) (m.line.filter fun x=>!(x==c)).length cap);refine hx.fill ?_ hoth rfl (fun _=>rfl) (fun _=>rfl);rw[dQ,hi8,hG];have hsl:=hR'.sl (by omega);rw[dR]at hsl;have:=hsl.ne (P:=P) (fun e=>hPb (by injection e with e;exact e.symm)) (cM w' P (cO 8) (.slice (some ⟨b,off,none⟩) (m.line.filter fun x=>!(x==c)).length cap));rw[dR];exact this
theorem fA1 {c:Nat}(hs:(m.get c).srv=none):({({m with line:=m.line.filter (fun k=>k !=c)}:Mach PE)with cl:=m.cl.set c Cl.new,e:=⟨m.e.w,m.e.kept.set c ([],[])⟩}:Mach PE)=m.leave aO c:=by
 unfold Mach.leave aO;rw[hs]
theorem xAa {c s:Nat}(hs:(m.get c).srv=some s){W1:Wd}(hW:W1=if(m.e.w.at s).st≠0 then(fL m.e.w s ⟨3,⟨#[]⟩,⟨#[]⟩⟩).1 else m.e.w)(m2:Mach PE)(h2:m2=Mach.release aO {m with e:=⟨W1,m.e.kept⟩} c s):
  ({({m2 with line:=m2.line.filter (fun k=>k !=c)}:Mach PE)with cl:=m2.cl.set c Cl.new,e:=⟨m2.e.w,m2.e.kept.set c ([],[])⟩}:Mach PE)=m.leave aO c:=by
 subst h2;unfold Mach.leave aO Mach.release PE.free;simp only[hs,List.set_set];subst hW;rfl
theorem xAb (w:World)(h:PMem 0 w base P f G mode m)(hT:Tabs w base)(hI:Inv mode m N){c:Nat}(hc:c<6):
  Calls Tryz.prog 50 #[cC P 0,.int .i64 (c:Int)] w (nZ w base P mode (m.leave aO c)):=by
 have hP:=h.row.lt;have hbP:=(h.lo 0 P h.p0).1;have n0:=(aD w.heap.size w).alloc (aI _) (.cells #[.int .i64 (c:Int)] 3);have x0:=(RowTo.whole w #[.int .i64 (c:Int)] 3).cell (j:=0) (by simp);simp only[aE,aB]at x0;have hcI:(c:Int)<6:=by omega
 have HFX:=aA (show cX G w.heap.size from fun i e=>absurd (h.lo i _ e).2 (Nat.lt_irrefl _));have HM0:=aA (h.below n0);have HB0:=aA (n0.mono (bL hbP (dM hP)));have HX0:=aA x0;have HT:=aA hT;have HI:=aA hI;have HZ0:=aA (show(w.alloc (.cells #[.int .i64 (c:Int)] 3)).heap.size=w.heap.size+1 by simp);have hPX:P≠w.heap.size:=by omega
 clear h n0 hT hI;unfold cC;go_enter Tryz.func50,Tryz.ntmps50;go_wp2_with fail
 go_quiet (fail)
 have hMd:=HM0.out.below (aZ (aD _ _) nq);have hBd:=aZ HB0.out nq;have hXd:((w.alloc (.cells #[.int .i64 (c:Int)] 3)).drewN nq).cell? ⟨w.heap.size,0,none⟩=some (.int .i64 (c:Int)):=by simp
 have hZd:((w.alloc (.cells #[.int .i64 (c:Int)] 3)).drewN nq).heap.size=w.heap.size+1:=by simp
 obtain⟨X,HXX⟩: ∃X,Hid (w.heap.size=X):=⟨_,aA rfl⟩;obtain⟨W,HW⟩: ∃u,Hid ((w.alloc (.cells #[.int .i64 (c:Int)] 3)).drewN nq=u):=⟨_,aA rfl⟩;rw[HW.out]at hMd hBd hXd hZd ⊢;rw[HXX.out]at hXd hZd HFX ⊢;clear HW x0 HX0 HM0 HB0 HZ0 hPX;have HM:=aA hMd;have HB:=aA hBd;have HX:=aA hXd;have hXl:X<W.heap.size:=by omega
 clear hMd hBd hXd hZd HXX;have HST:=aA (xD W HM.out HI.out.ok HI.out.plen hc);unfold cC at HST;go_wp2_with fail;refine HST.out.mono ?_;rintro e w1 ⟨rfl,n1,hw1⟩;have hMd:=HM.out.below (show Below W.heap.size W w1 by rw[hw1];exact aZ (aD _ _) n1);have hBd:=HB.out.trans (show Below base W w1 by rw[hw1];exact aZ (aD _ _) n1);have hXd:w1.cell? ⟨X,0,none⟩=some (.int .i64 (c:Int)):=by rw[hw1];simpa using HX.out
 have hXl1:X<w1.heap.size:=by rw[hw1];simpa using hXl
 clear hw1 HST HM HB HX hXl;have HM:=aA hMd;have HB:=aA hBd;have HX:=aA hXd;have hP1:=hMd.row.lt;have a2:=hMd.row.cell (j:=4+c*6+2) (by omega);have a3:=hMd.row.cell (j:=4+c*6+3) (by omega);rw[hMd.has c hc]at a2;obtain⟨q,hq,hqs⟩:=hMd.srv c hc;rw[hq]at a3
 cases hs:(m.get c).srv with
 |none=>
  have HE:=aA (fA1 hs);have HNK:=aA (aJ HI.out.ok.n6 HI.out.klen);have HL:=aA HI.out.line;rw[hs]at a2;simp only[Option.isSome]at a2;have hst:m.e.state none=0:=rfl;rw[hst];clear hMd hBd hXd hqs hs hq hst a3;have q0:=HM.out.row.cell (j:=40) (by omega);obtain⟨A4,c4,hf4,hc4⟩:=HM.out.lineSl.shape;have HD:=aA (xP w1 HM.out HL.out HFX.out hXl1 HX.out);rw[hf4]at q0 HD;have HF4:=aA hf4;clear hf4 hc4;generalize m.line.length=nl at*;go_wp2_with fail;refine HD.out.mono ?_;rintro e w5 ⟨A5,n5,q5,rfl,hP5,hc5,hz5,hM5,hB5⟩;rw[HF4.out]at hc5;have r0:=hM5.row;have k0:=r0.cell (j:=4+c*6) (by omega);have z0:=r0.frozen (4+c*6);have r1:=r0.set (4+c*6) (.string ⟨#[]⟩);have k1:=r1.cell (j:=4+c*6+1) (by omega);have z1:=r1.frozen (4+c*6+1);have r2:=r1.set (4+c*6+1) (.slice none 0 0);have k2:=r2.cell (j:=4+c*6+2) (by omega);have z2:=r2.frozen (4+c*6+2);have r3:=r2.set (4+c*6+2) (.bool false);have k3:=r3.cell (j:=4+c*6+3) (by omega);have z3:=r3.frozen (4+c*6+3);have r4:=r3.set (4+c*6+3) (.int .i64 0);have k4:=r4.cell (j:=4+c*6+4) (by omega);have z4:=r4.frozen (4+c*6+4);have r5:=r4.set (4+c*6+4) (.slice none 0 0);have k5:=r5.cell (j:=4+c*6+5) (by omega);have z5:=r5.frozen (4+c*6+5);have hM6:=hM5.clear hc HNK.out.1 HNK.out.2;unfold mY at hM6;have hB6:=((((((((HB.out.trans hB5).setCell (p:=⟨P,40,none⟩) hbP (.slice A5 n5 q5)).setCell (p:=⟨P,4+c*6,none⟩) hbP (.string ⟨#[]⟩)).setCell (p:=⟨P,4+c*6+1,none⟩) hbP (.slice none 0 0)).setCell (p:=⟨P,4+c*6+2,none⟩) hbP (.bool false)).setCell (p:=⟨P,4+c*6+3,none⟩) hbP (.int .i64 0)).setCell (p:=⟨P,4+c*6+4,none⟩) hbP (.slice none 0 0)).setCell (p:=⟨P,4+c*6+5,none⟩) hbP (.slice none 0 0));have e6:({({m with line:=m.line.filter (fun k=>k !=c)}:Mach PE)with cl:=m.cl.set c Cl.new,e:=⟨m.e.w,m.e.kept.set c ([],[])⟩}:Mach PE)=m.leave aO c:=HE.out;have HF6:=aA (aJ hM6 hB6);clear hM5 hB5 hM6 hB6 r0 r1 r2 r3 r4 r5 HD q0;go_wp2;go_end0;rw[<-e6];exact⟨_,_,rfl,HF6.out.1,HF6.out.2⟩
 |some s=>
  obtain rfl:=hqs s hs;have hok:=HI.out.w;have hlt:=HI.out.srvlt hs;rw[hs]at a2;simp only[Option.isSome]at a2;have hst:m.e.state (some s)=(m.e.w.at s).st:=rfl;rw[hst]
  by_cases h0:(m.e.w.at s).st=0
  ·have hRl:=xA9 w1 hMd HI.out.ok HI.out.plen HI.out.klen hc hs;have hE:=xAa hs (W1:=m.e.w) (by rw[if_neg (by simp[h0])]) _ rfl;have hn6:(m.release aO c s).cl.length=6:=by show(m.cl.set c _).length=6;rw[fI];exact HI.out.ok.n6
   have hk6:(m.release aO c s).e.kept.length=6:=by show(m.e.kept.set c _).length=6;rw[fI];exact HI.out.klen
   have hL6:(m.release aO c s).line.length<=6:=HI.out.line;have hem:({m with e:=⟨m.e.w,m.e.kept⟩}:Mach PE)=m:=rfl;rw[hem]at hE;obtain⟨m2,HM2⟩: ∃u,Hid (m.release aO c s=u):=⟨_,aA rfl⟩;rw[HM2.out]at hRl hE hn6 hk6 hL6;have HE:=aA hE;have HRL:=aA hRl;have HNK:=aA (aJ hn6 hk6);have HL:=aA hL6;rw[h0];unfold cC at HRL;clear hMd hBd hXd hqs hs hq hst a3 hRl hE hn6 hk6 hL6 hok hlt hem h0;go_wp2_with fail;refine HRL.out.mono ?_;rintro e w2 ⟨f2,rfl,hM2,hB2,hK2⟩;have hX2:=(aV (a:=⟨X,0,none⟩) (hK2.2 X hXl1 HFX.out)).trans HX.out;have hXl2:X<w2.heap.size:=bD hXl1 hK2.1;have hBB:=HB.out.trans hB2;clear HM HB HX HRL hK2 hB2 a2 hP1;have HM:=aA hM2;have HB:=aA hBB;have HX:=aA hX2;have hP1:=hM2.row.lt;clear hM2 hBB hX2;have q0:=HM.out.row.cell (j:=40) (by omega);obtain⟨A4,c4,hf4,hc4⟩:=HM.out.lineSl.shape;have HD:=aA (xP w2 HM.out HL.out HFX.out hXl2 HX.out);rw[hf4]at q0 HD;have HF4:=aA hf4;clear hf4 hc4;generalize m2.line.length=nl at*;go_wp2_with fail;refine HD.out.mono ?_;rintro e w5 ⟨A5,n5,q5,rfl,hP5,hc5,hz5,hM5,hB5⟩;rw[HF4.out]at hc5;have r0:=hM5.row;have k0:=r0.cell (j:=4+c*6) (by omega);have z0:=r0.frozen (4+c*6);have r1:=r0.set (4+c*6) (.string ⟨#[]⟩);have k1:=r1.cell (j:=4+c*6+1) (by omega);have z1:=r1.frozen (4+c*6+1);have r2:=r1.set (4+c*6+1) (.slice none 0 0);have k2:=r2.cell (j:=4+c*6+2) (by omega);have z2:=r2.frozen (4+c*6+2);have r3:=r2.set (4+c*6+2) (.bool false);have k3:=r3.cell (j:=4+c*6+3) (by omega);have z3:=r3.frozen (4+c*6+3);have r4:=r3.set (4+c*6+3) (.int .i64 0);have k4:=r4.cell (j:=4+c*6+4) (by omega);have z4:=r4.frozen (4+c*6+4);have r5:=r4.set (4+c*6+4) (.slice none 0 0);have k5:=r5.cell (j:=4+c*6+5) (by omega);have z5:=r5.frozen (4+c*6+5);have hM6:=hM5.clear hc HNK.out.1 HNK.out.2;unfold mY at hM6;have hB6:=((((((((HB.out.trans hB5).setCell (p:=⟨P,40,none⟩) hbP (.slice A5 n5 q5)).setCell (p:=⟨P,4+c*6,none⟩) hbP (.string ⟨#[]⟩)).setCell (p:=⟨P,4+c*6+1,none⟩) hbP (.slice none 0 0)).setCell (p:=⟨P,4+c*6+2,none⟩) hbP (.bool false)).setCell (p:=⟨P,4+c*6+3,none⟩) hbP (.int .i64 0)).setCell (p:=⟨P,4+c*6+4,none⟩) hbP (.slice none 0 0)).setCell (p:=⟨P,4+c*6+5,none⟩) hbP (.slice none 0 0));have e6:({({m2 with line:=m2.line.filter (fun k=>k !=c)}:Mach PE)with cl:=m2.cl.set c Cl.new,e:=⟨m2.e.w,m2.e.kept.set c ([],[])⟩}:Mach PE)=m.leave aO c:=HE.out;have HF6:=aA (aJ hM6 hB6);clear hM5 hB5 hM6 hB6 r0 r1 r2 r3 r4 r5 HD q0;go_wp2;go_end0;rw[<-e6];exact⟨_,_,rfl,HF6.out.1,HF6.out.2⟩
  ·have hr3:Req.ok ⟨3,⟨#[]⟩,⟨#[]⟩⟩:=qT (n:=3) (by omega) (by omega);have hDo:=pE w1 hMd (HT.out.below hBd) hok s hlt ⟨3,⟨#[]⟩,⟨#[]⟩⟩ hr3;have hd:=mW hok hlt hr3;have hE:=xAa hs (W1:=(fL m.e.w s ⟨3,⟨#[]⟩,⟨#[]⟩⟩).1) (by rw[if_pos h0]) _ rfl;obtain⟨R,HR⟩: ∃u,Hid (fL m.e.w s ⟨3,⟨#[]⟩,⟨#[]⟩⟩=u):=⟨_,aA rfl⟩;rw[HR.out]at hDo hd hE;have hok1:MOk mode ({m with e:=⟨R.1,m.e.kept⟩}:Mach PE):=HI.out.ok.same rfl rfl rfl HI.out.ok.s6;have hpl1:R.1.ss.length=m.busy.length:=hd.2.trans HI.out.plen;have HRL:=aA (fun w2 f2 (hM:PMem 0 w2 base P f2 G mode {m with e:=⟨R.1,m.e.kept⟩})=>xA9 w2 hM hok1 hpl1 HI.out.klen hc (s:=s) hs);have hn6:(Mach.release aO ({m with e:=⟨R.1,m.e.kept⟩}:Mach PE) c s).cl.length=6:=by show(m.cl.set c _).length=6;rw[fI];exact HI.out.ok.n6
   have hk6:(Mach.release aO ({m with e:=⟨R.1,m.e.kept⟩}:Mach PE) c s).e.kept.length=6:=by show(m.e.kept.set c _).length=6;rw[fI];exact HI.out.klen
   have hL6:(Mach.release aO ({m with e:=⟨R.1,m.e.kept⟩}:Mach PE) c s).line.length<=6:=HI.out.line;have hhs: ∀c,c<6->(Mach.get ({m with e:=⟨R.1,m.e.kept⟩}:Mach PE) c).srv=(m.get c).srv:=fun _ _=>rfl
   obtain⟨m2,HM2⟩: ∃u,Hid (Mach.release aO ({m with e:=⟨R.1,m.e.kept⟩}:Mach PE) c s=u):=⟨_,aA rfl⟩;rw[HM2.out]at HRL hE hn6 hk6 hL6;have HE:=aA hE;have HNK:=aA (aJ hn6 hk6);have HL:=aA hL6;have HDO:=aA hDo;have HS:=aA hs;have hne:(((m.e.w.at s).st) !=(0:Int))=true:=eP.2 h0;generalize(m.e.w.at s).st=st at*;unfold cC at HRL HDO;clear hMd hBd hXd hqs hs hq hst hE hn6 hk6 hL6 hok hlt h0 hDo hd hok1 hpl1 hhs;go_wp2_with fail;refine HDO.out.mono ?_;rintro e wd ⟨fd,rfl,hMd,hBd,hKd⟩;have hXd:=(aV (a:=⟨X,0,none⟩) (hKd.2 X hXl1 (fun e=>HFX.out 0 (by rw[hMd.p0,e])))).trans HX.out;have hXld:X<wd.heap.size:=bD hXl1 hKd.1;have hBB:=HB.out.trans hBd;have hsd:=hMd.has c hc;have hRd:=HRL.out wd fd hMd;have ad2:=hMd.row.cell (j:=4+c*6+2) (by omega);have hPd:=hMd.row.lt;have hsd2:(Mach.get ({m with e:=⟨R.1,m.e.kept⟩}:Mach PE) c).srv=some s:=HS.out;rw[hsd,hsd2]at ad2;simp only[Option.isSome]at ad2;clear HM HB HX HRL HDO hKd hBd a2 a3 hP1 hsd hsd2 hMd;have HB:=aA hBB;have HX:=aA hXd;have HRD:=aA hRd;clear hBB hXd hRd;go_wp2_with fail;refine HRD.out.mono ?_;rintro e w2 ⟨f2,rfl,hM2,hB2,hK2⟩;have hX2:=(aV (a:=⟨X,0,none⟩) (hK2.2 X hXld HFX.out)).trans HX.out;have hXl2:X<w2.heap.size:=bD hXld hK2.1;have hBB:=HB.out.trans hB2;clear HB HX HRD hK2 hB2 ad2 hPd;have HM:=aA hM2;have HB:=aA hBB;have HX:=aA hX2;have hP1:=hM2.row.lt;clear hM2 hBB hX2;have q0:=HM.out.row.cell (j:=40) (by omega);obtain⟨A4,c4,hf4,hc4⟩:=HM.out.lineSl.shape;have HD:=aA (xP w2 HM.out HL.out HFX.out hXl2 HX.out);rw[hf4]at q0 HD;have HF4:=aA hf4;clear hf4 hc4;generalize m2.line.length=nl at*;go_wp2_with fail;refine HD.out.mono ?_;rintro e w5 ⟨A5,n5,q5,rfl,hP5,hc5,hz5,hM5,hB5⟩;rw[HF4.out]at hc5;have r0:=hM5.row;have k0:=r0.cell (j:=4+c*6) (by omega);have z0:=r0.frozen (4+c*6);have r1:=r0.set (4+c*6) (.string ⟨#[]⟩);have k1:=r1.cell (j:=4+c*6+1) (by omega);have z1:=r1.frozen (4+c*6+1);have r2:=r1.set (4+c*6+1) (.slice none 0 0);have k2:=r2.cell (j:=4+c*6+2) (by omega);have z2:=r2.frozen (4+c*6+2);have r3:=r2.set (4+c*6+2) (.bool false);have k3:=r3.cell (j:=4+c*6+3) (by omega);have z3:=r3.frozen (4+c*6+3);have r4:=r3.set (4+c*6+3) (.int .i64 0);have k4:=r4.cell (j:=4+c*6+4) (by omega);have z4:=r4.frozen (4+c*6+4);have r5:=r4.set (4+c*6+4) (.slice none 0 0);have k5:=r5.cell (j:=4+c*6+5) (by omega);have z5:=r5.frozen (4+c*6+5);have hM6:=hM5.clear hc HNK.out.1 HNK.out.2;unfold mY at hM6;have hB6:=((((((((HB.out.trans hB5).setCell (p:=⟨P,40,none⟩) hbP (.slice A5 n5 q5)).setCell (p:=⟨P,4+c*6,none⟩) hbP (.string ⟨#[]⟩)).setCell (p:=⟨P,4+c*6+1,none⟩) hbP (.slice none 0 0)).setCell (p:=⟨P,4+c*6+2,none⟩) hbP (.bool false)).setCell (p:=⟨P,4+c*6+3,none⟩) hbP (.int .i64 0)).setCell (p:=⟨P,4+c*6+4,none⟩) hbP (.slice none 0 0)).setCell (p:=⟨P,4+c*6+5,none⟩) hbP (.slice none 0 0));have e6:({({m2 with line:=m2.line.filter (fun k=>k !=c)}:Mach PE)with cl:=m2.cl.set c Cl.new,e:=⟨m2.e.w,m2.e.kept.set c ([],[])⟩}:Mach PE)=m.leave aO c:=HE.out;have HF6:=aA (aJ hM6 hB6);clear hM5 hB5 hM6 hB6 r0 r1 r2 r3 r4 r5 HD q0;go_wp2;go_end0;rw[<-e6];exact⟨_,_,rfl,HF6.out.1,HF6.out.2⟩
end
theorem fA2 (k:UInt8)(t:ByteArray)(w:World)(hW:Words w):
  Calls Tryz.prog 73 #[.int .u8 k.toNat,.string t] w fun e w'=>e= .returned (.agg #[.int .i64 (fK k t).k,.string (fK k t).key,.string (fK k t).val])/\Below w.heap.size w w':=by
 have HW:=aA hW;have n0:=(aD w.heap.size w).alloc (aI _) (.cells #[.int .i64 0,.string ⟨#[]⟩,.string ⟨#[]⟩] 41);have HN:=aA n0;have X0:=RowTo.whole w #[.int .i64 0,.string ⟨#[]⟩,.string ⟨#[]⟩] 41;obtain⟨x0,x1,x2⟩:=bA X0;clear n0 hW
 by_cases hk:k=81
 case neg=>
  have hki:((k.toNat:Int) !=81)=true:=eP.2 (fun h=>hk (UInt8.toNat_inj.1 (by show k.toNat=81;omega)));have HE:=aA (show fK k t=Req.none_ by unfold fK;rw[if_neg (fun h=>hk h.1)]);clear X0;go_enter Tryz.func73,Tryz.ntmps73;go_wp2;refine bE (v:= .agg #[.int .i64 0,.string ⟨#[]⟩,.string ⟨#[]⟩]) (by simp[results,Tryz.results73,go_sem,x0,x1,x2]) rfl ⟨by rw[HE.out];rfl,HN.out⟩
 obtain⟨q,HQ⟩: ∃q,Hid (fK k t=q):=⟨_,aA rfl⟩
 have HRD:Hid (∀wc:World,Words wc->Calls Tryz.prog 96 #[.string t] wc fun e w'=> ∃er,e= .returned (.tuple #[.agg #[.int .i64 q.k,.string q.key,.string q.val],.int .i64 er])/\Below wc.heap.size wc w'):=aA fun wc hw=>by
  rw[<-HQ.out]
  by_cases hr:dI t=0
  ·refine(kAt t wc hw hr).mono ?_;rintro e w' ⟨rfl,hb⟩;unfold fK;rw[if_pos ⟨hk,hr⟩];exact⟨_,rfl,hb⟩
  ·refine(jAp t wc hw hr).mono ?_;rintro e w' ⟨rfl,hb⟩;unfold fK;rw[if_neg (fun h=>hr h.2)];exact⟨_,rfl,hb⟩
 rw[HQ.out];subst hk;have hki:(((81:UInt8).toNat:Int) !=81)=false:=by decide
 clear HQ x0 x1 x2;have HX0:=aA X0;clear X0;go_enter Tryz.func73,Tryz.ntmps73;go_wp2_with fail;refine(HRD.out _ (HW.out.below HN.out)).mono ?_;rintro e w1 ⟨er,rfl,hb1⟩;have X1:=(HX0.out.below hb1 HX0.out.lt).alloc (.cells #[.int .i64 q.k,.string q.key,.string q.val] 41);have hz:=hb1.size;simp only[World.size_alloc]at hz;obtain⟨x0,x1,x2⟩:=bA X1;have f0:=X1.frozen 0;have f1:=X1.frozen 1;have f2:=X1.frozen 2;have HB:=aA (mE ((aR HN.out hb1 HN.out.size).alloc (by omega) (.cells #[.int .i64 q.k,.string q.key,.string q.val] 41)) (aI w.heap.size) (.int .i64 q.k) (.string q.key) (.string q.val));have X2:=X1.set3 (.int .i64 q.k) (.string q.key) (.string q.val);obtain⟨y0,y1,y2⟩:=bA X2;clear X1 X2 hb1 HX0;go_wp2;refine bE (v:= .agg #[.int .i64 q.k,.string q.key,.string q.val]) (by simp[results,Tryz.results73,go_sem,x0,x1,x2,y0,y1,y2]) rfl ⟨rfl,HB.out⟩
theorem fA3:(Tryz.prog.info? 41).map (fun i=>(i.zero,i.size,i.bytes))=some (some (.agg #[.int .i64 0,.string ⟨#[]⟩,.string ⟨#[]⟩]),3,40):=by kernel_rfl
theorem fA4 {ev:Operand->Value}{o:Oper}{x:Operand}{k:Int}{key val:ByteArray}(ho:o.op= .buildSlice 63 1 #[(0,x)])(hx:ev x= .agg #[.int .i64 k,.string key,.string val])(w:World):
  (execOp ev o).run Tryz.prog w= .ok (.value (.slice (some ⟨w.heap.size,0,none⟩) 1 1)) (w.alloc (.cells #[.int .i64 k,.string key,.string val] 41)):=by
 unfold execOp;simp only[ho,Sem.run_bind,Sem.run_pure,List.map_toArray,List.map_cons,List.map_nil,hx];go_simp
def kC (s:ByteArray):Value:=match pull s with
 |none=> .tuple #[.int .u8 0,.string ⟨#[]⟩,.int .i64 0]
 |some (k,t,j)=> .tuple #[.int .u8 k.toNat,.string t,.int .i64 (j:Int)]
theorem fA5 (s:ByteArray)(w:World)(hs:s.size<=maxLen):Calls Tryz.prog 37 #[.string s] w fun e w'=>e= .returned (kC s)/\Below w.heap.size w w':=by
 unfold kC pull
 by_cases h2:2<=s.size
 ·rw[dif_pos h2]
  by_cases h:2+s[1].toNat<=s.size
  ·rw[if_pos h];refine(gA5 s w hs h2 h).mono ?_;rintro e w' ⟨rfl,hb⟩;exact⟨rfl,hb⟩
  ·rw[if_neg h];refine(gA7 s w hs h2 (by omega)).mono ?_;rintro e w' ⟨rfl,rfl⟩;exact⟨rfl,aD _ _⟩
 ·rw[dif_neg h2];refine(gA6 s w (by omega)).mono ?_;rintro e w' ⟨rfl,rfl⟩;exact⟨rfl,aD _ _⟩
section
variable {base P:Nat}{f:Nat->Value}{G:Nat->Option Nat}{mode:Int}{m:Mach PE}{N:Nat}
theorem PMem.waited {w:World}(h:PMem 0 w base P f G mode m)(hcl:m.cl.length=6){c:Nat}(hc:c<6)(hl:(m.get c).wait.length<=300000){ad:Nat}(r:Req)(hx: ∀j u,(jY r)[j]? =some u->w.cell? ⟨ad,j,none⟩=some u):
  ∃b off cap n w',(Builtin.append_ #[63,63] 63 #[f (4+c*6+1),.slice (some ⟨ad,0,none⟩) 1 1]).run Tryz.prog w= .ok (.slice (some ⟨b,off,none⟩) n cap) w'/\w'.cell? ⟨P,4+c*6+1,none⟩=some (f (4+c*6+1))/\w'.frozen? ⟨P,4+c*6+1,none⟩=false/\P<w'.heap.size/\
   PMem 0 (w'.setCell ⟨P,4+c*6+1,none⟩ (.slice (some ⟨b,off,none⟩) n cap)) base P (aL f (4+c*6+1) (.slice (some ⟨b,off,none⟩) n cap)) (aL G (2+c) (some b)) mode (m.set c {m.get c with wait:=(m.get c).wait++[r]})/\Below base w (w'.setCell ⟨P,4+c*6+1,none⟩ (.slice (some ⟨b,off,none⟩) n cap)):=by
 have hc':c<m.cl.length:=by omega
 have e1:cO (2+c)=4+c*6+1:=by unfold cO;rw[if_neg (by omega),if_pos (by omega)];omega
 have e2:iG (2+c)=41:=by unfold iG;rw[if_neg (by omega),if_pos (by omega)]
 have e3:fR (2+c)=3:=by unfold fR;rw[if_neg (by omega),if_pos (by omega)]
 obtain⟨i0,hi,hz0,hz1,hz2⟩:=info_parts fA3;have hbP:=(h.lo 0 P h.p0).1;have hbase:base<=w.heap.size:=bL hbP (dM h.row.lt)
 obtain ⟨b, off, cap, w', hrun, hs, hg, hb⟩ := (h.waitSl hc).append (P := Tryz.prog) 63 63 i0 _ 40 Tryz.underlying63 hi hz0 hz1 hz2 rfl (by omega) ⟨ad, 0, none⟩ 1 (jY r) rfl (fun j u hu => by rw [Addr.add_lit, cW]; exact hx j u hu) (fun u hu => by
  simp only[jY,List.mem_cons,List.not_mem_nil,or_false]at hu
  rcases hu with rfl | rfl | rfl <;> rfl) (by unfold maxLen; omega) (by omega)
 have hne:some P≠G (2+c):=fun e=>h.noP (k:=2+c) (by omega) e.symm
 have hP':=hg.block P h.row.lt hne;have hgc:((m.set c {m.get c with wait:=(m.get c).wait++[r]}).get c).wait=(m.get c).wait++[r]:=by rw[cZ hc',if_pos rfl]
 have hgr:=h.grow' (k:=2+c) (m':=m.set c {m.get c with wait:=(m.get c).wait++[r]}) (n':=(m.get c).wait.length+1) (v:= .slice (some ⟨b,off,none⟩) ((m.get c).wait.length+1) cap) (b:=b) (by omega) (by omega) hbase hg (by rw[e2,e3];exact hs) hb (by rw[tR _ hc,hgc];simp) (by rw[tR _ hc,hgc,List.map_append,List.flatten_append];simp) (fun k h1 _ hk=>xA7 hc' h1 hk) rfl (fun d=>?_) (fun d=>?_)
 ·rw[e1]at hgr;exact⟨b,off,cap,_,w',hrun,(aV (a:=⟨P,4+c*6+1,none⟩) hP').trans (h.row.cell (j:=4+c*6+1) (by omega)),(iR (a:=⟨P,4+c*6+1,none⟩) hP').trans (h.row.frozen _),bD h.row.lt hg.size,hgr,((aD base w).grown hg hbase (fun x hx=>(h.lo _ _ hx).1)).setCell hbP _⟩
 ·rw[cZ hc'];split
  ·rename_i e;rw[e]
  ·rfl
 ·rw[cZ hc'];split
  ·rename_i e;rw[e]
  ·rfl
theorem fA6 {c:Nat}(hc:c<m.cl.length)(b:ByteArray)(r:Req):(m.set c {m.get c with bytes:=b}).set c {(m.set c {m.get c with bytes:=b}).get c with wait:=((m.set c {m.get c with bytes:=b}).get c).wait++[r]}=m.set c {m.get c with bytes:=b,wait:=(m.get c).wait++[r]}:=by
 rw[cZ hc,if_pos rfl];unfold Mach.set;simp
theorem fA7 {c n:Nat}(hp:pull (m.get c).bytes=none):m.feed aO mode (n+1) c=m:=by rw[Mach.feed,hp]
theorem fA8 {c n:Nat}{t:ByteArray}{j:Nat}(hp:pull (m.get c).bytes=some (88,t,j)):m.feed aO mode (n+1) c=(m.all aO mode).leave aO c:=by
 rw[Mach.feed,hp];simp only;rw[if_pos trivial]
theorem fA9 {c n:Nat}{k:UInt8}{t:ByteArray}{j:Nat}(hp:pull (m.get c).bytes=some (k,t,j))(hk:k≠88):m.feed aO mode (n+1) c=(m.set c {m.get c with bytes:=(m.get c).bytes.extract j (m.get c).bytes.size,wait:=(m.get c).wait++[fK k t]}).feed aO mode n c:=by
 rw[Mach.feed,hp];simp only;rw[if_neg hk]
def xAc (w:World)(base P c N:Nat)(mode:Int)(q:Mach PE)(gg:Nat)(wr:World):Prop:=
 ∃m1 f1 G1 n,(m1.get c).bytes.size<=gg/\(m1.get c).bytes.size<n/\m1.feed aO mode n c=q/\PMem 0 wr base P f1 G1 mode m1/\Inv mode m1 N/\m1.busy.length<=8/\Below base w wr
theorem fAa (w:World)(h:PMem 0 w base P f G mode m)(hT:Tabs w base)(hI:Inv mode m N){c:Nat}(hc:c<6)(data:ByteArray)(hN:N+data.size<=300000)(hbl:m.busy.length<=8):
  Calls Tryz.prog 49 #[cC P 0,.int .i64 (c:Int),.string data] w (nZ w base P mode (m.deliver aO mode c data)):=by
 have hP:=h.row.lt;have hbP:=(h.lo 0 P h.p0).1;have hcI:(c:Int)<6:=by omega
 have hwN:=hI.waits (N:=N) (by omega) c;have b0:=h.row.cell (j:=4+c*6) (by omega);rw[h.bytes c hc]at b0;have z0:=h.row.frozen (4+c*6);have hM1:=h.setBytes hc hI.ok.n6 ((m.get c).bytes++data);have hB1:=(aD base w).setCell (p:=⟨P,4+c*6,none⟩) hbP (.string ((m.get c).bytes++data));have hI1:=hI.bytes hc data;have hsum: ¬(9223372036854775807<(m.get c).bytes.size+data.size):=by omega
 have hgb:((m.set c {m.get c with bytes:=(m.get c).bytes++data}).get c).bytes=(m.get c).bytes++data:=by rw[cZ (by rw[hI.ok.n6];exact hc),if_pos rfl]
 have H1:Hid (xAc w base P c (N+data.size) mode (m.deliver aO mode c data) ((m.get c).bytes.size+data.size) (w.setCell ⟨P,4+c*6,none⟩ (.string ((m.get c).bytes++data)))):=aA ⟨_,_,_,(m.get c).bytes.size+data.size+1,by rw[hgb,ByteArray.size_append];exact aI _,by rw[hgb,ByteArray.size_append];exact Nat.lt_succ_self _,rfl,hM1,hI1,hbl,hB1⟩;have HT:=aA hT;obtain⟨q,HQ⟩: ∃q,Hid (m.deliver aO mode c data=q):=⟨_,aA rfl⟩;rw[HQ.out]at H1 ⊢;obtain⟨gs,HGS⟩: ∃q,Hid ((m.get c).bytes.size+data.size=q):=⟨_,aA rfl⟩;rw[HGS.out]at H1;generalize(m.get c).bytes=bs at*;clear h hT hI hM1 hB1 hI1 hgb HQ hwN hbl HGS;unfold cC;go_enter Tryz.func49,Tryz.ntmps49;go_wp2_with fail
 go_loopg [24] gs (fun gg _ wr=>Hid (xAc w base P c (N+data.size) mode q gg wr))
 case atStart=>exact H1.out
 case round=>
  obtain⟨m1,f1,G1,n,hgg,hn,hfd,hM,hI,hb8,hB⟩:=hrel.out;clear hrel H1 b0 z0 hsum hP;have hP:=hM.row.lt;have hwN:=hI.waits hN c;have b0:=hM.row.cell (j:=4+c*6) (by omega);rw[hM.bytes c hc]at b0;have z0:=hM.row.frozen (4+c*6);obtain⟨n,rfl⟩: ∃k,n=k+1:=⟨n-1,by omega⟩;have HU:=aA (fun wc=>fA5 (m1.get c).bytes wc (by unfold maxLen;omega));have HM:=aA hM;have HI:=aA hI;have HB:=aA hB;have HT1:=aA (HT.out.below hB);have hbase:base<=wr.heap.size:=bL hbP (dM hP)
  cases hp:pull (m1.get c).bytes with
  |none=>
   have HE:=aA ((fA7 (n:=n) (mode:=mode) hp).symm.trans hfd);have hV:kC (m1.get c).bytes= .tuple #[.int .u8 0,.string ⟨#[]⟩,.int .i64 0]:=by unfold kC;rw[hp]
   rw[hV]at HU;generalize(m1.get c).bytes=bs1 at*;clear hM hI hB hfd hp hV hgg hn;go_wp2_with fail;refine(HU.out _).mono ?_;rintro e w1 ⟨rfl,hb1⟩;have HF:=aA (aJ (HM.out.below hb1) (HB.out.trans (hb1.mono hbase)));clear hb1 HU b0 z0;go_wp2;go_end0;rw[<-HE.out];exact⟨_,_,rfl,HF.out.1,HF.out.2⟩
  |some pr=>
   obtain⟨k,t,j⟩:=pr;have hj:=xH hp;have hV:kC (m1.get c).bytes= .tuple #[.int .u8 k.toNat,.string t,.int .i64 (j:Int)]:=by unfold kC;rw[hp]
   rw[hV]at HU;have hj0:((j:Int)==0)=false:=bJ.2 (by omega)
   by_cases hk:k=88
   ·subst hk;have HE:=aA ((fA8 (n:=n) (mode:=mode) hp).symm.trans hfd);generalize(m1.get c).bytes=bs1 at*;clear hM hI hB hfd hp hV hgg hn hwN hj;have hk8:(((88:UInt8).toNat:Int)==88)=true:=(by decide);go_wp2_with fail;refine(HU.out _).mono ?_;rintro e w1 ⟨rfl,hb1⟩;have HF:=aA (aJ (HM.out.below hb1) (aJ (HB.out.trans (hb1.mono hbase)) (HT1.out.below (hb1.mono hbase))));clear hb1 HU b0 z0;have HA:=aA (xO w1 HF.out.1 HF.out.2.2 HI.out hN hb8);unfold cC at HA;go_wp2_with fail;refine HA.out.mono ?_;rintro e w2 ⟨f2,G2,rfl,hM2,hB2⟩;have HL:=aA (xAb w2 hM2 (HF.out.2.2.below hB2) HI.out.all hc);have HB2:=aA (HF.out.2.1.trans hB2);unfold cC at HL;clear hM2 hB2 HA;go_wp2_with fail;refine HL.out.mono ?_;rintro e w3 ⟨f3,G3,rfl,hM3,hB3⟩;have HF3:=aA (aJ hM3 (HB2.out.trans hB3));clear hM3 hB3 HL;go_wp2;go_end0;rw[<-HE.out];exact⟨_,_,rfl,HF3.out.1,HF3.out.2⟩
   ·have hk8:((k.toNat:Int)==88)=false:=bJ.2 (fun e=>hk (UInt8.toNat_inj.1 (by show k.toNat=88;omega)));have hc1:c<m1.cl.length:=(by rw[hI.ok.n6];exact hc);have HE:=aA ((fA9 (n:=n) (mode:=mode) hp hk).symm.trans hfd);have HI2:=aA (hI.pull hc hp);have HS:=aA (fA6 hc1 ((m1.get c).bytes.extract j (m1.get c).bytes.size) (fK k t));have HSB:=aA (fun w2 (h2:PMem 0 w2 base P f1 G1 mode m1)=>h2.setBytes hc hI.ok.n6 ((m1.get c).bytes.extract j (m1.get c).bytes.size));have hsz:((m1.get c).bytes.extract j (m1.get c).bytes.size).size<n/\((m1.get c).bytes.extract j (m1.get c).bytes.size).size<gk:=(by rw[tU];omega);have hgs1: ∀x:Cl,(m1.set c x).get c=x:=fun x=>(by rw[cZ hc1,if_pos rfl]);have HGS:=aA hgs1;have HRQ:=aA (fun wc (hw:Words wc)=>fA2 k t wc hw);have HWL:=aA hwN.1;have HN6:=aA hI.ok.n6;obtain⟨x1,HX1⟩: ∃x,Hid (m1.get c=x):=⟨_,aA rfl⟩;rw[HX1.out]at HE HI2 HS HSB hsz HU b0 hj hwN;obtain⟨bs1,HBS⟩: ∃x,Hid (x1.bytes=x):=⟨_,aA rfl⟩;rw[HBS.out]at HE HI2 HS HSB hsz HU b0 hj hwN;obtain⟨rest,HRE⟩: ∃x,Hid (bs1.extract j bs1.size=x):=⟨_,aA rfl⟩;rw[HRE.out]at HE HI2 HS HSB hsz;have hrl:rest.size<=300000:=(by have:=HRE.out;rw[<-this,tU];omega);have hre:=HRE.out;have hjI:(j:Int)<=(bs1.size:Int):=(by omega);have hjt:(j:Int).toNat=j:=(by omega);clear hM hI hB hfd hp hV hgg hn hgs1 hc1 hk;go_wp2_with fail;refine(HU.out _).mono ?_;rintro e w1 ⟨rfl,hb1⟩;have hM1:=HM.out.below hb1;have HB1:=aA (HB.out.trans (hb1.mono hbase));have HT2:=aA (HT1.out.below (hb1.mono hbase));have b1:=(hb1.cell (p:=⟨P,4+c*6,none⟩) hP).trans b0;have z1:=hM1.row.frozen (4+c*6);have hP1:=hM1.row.lt;have HM1:=aA (HSB.out w1 hM1);clear hb1 HU b0 z0 hM1 HM HB HT1;go_wp2_with fail
    (try rw[hre])
    have hM2:=HM1.out;have hB2:=HB1.out.setCell (p:=⟨P,4+c*6,none⟩) hbP (.string rest);have hT2:=HT2.out.below ((aD base w1).setCell (p:=⟨P,4+c*6,none⟩) hbP (.string rest));obtain⟨W2,HW2⟩: ∃u,Hid (w1.setCell ⟨P,4+c*6,none⟩ (.string rest)=u):=⟨_,aA rfl⟩;rw[HW2.out]at hM2 hB2 hT2 ⊢;obtain⟨f2,HF2⟩: ∃u,Hid (aL f1 (4+c*6) (.string rest)=u):=⟨_,aA rfl⟩;rw[HF2.out]at hM2;clear HW2 b1 z1 HM1 HB1 HT2 HF2 hP1;have HM2:=aA hM2;have HB2:=aA hB2;have HT2:=aA hT2;have hP2:=hM2.row.lt;have s0:=hM2.row.cell (j:=4+c*6+1) (by omega);obtain⟨fv,HFV⟩: ∃u,Hid (f2 (4+c*6+1)=u):=⟨_,aA rfl⟩;rw[HFV.out]at s0;clear hM2 hB2 hT2;refine eF 12 (fun wx=>wx.cell? ⟨P,4+c*6+1,none⟩=some fv) (by kernel_rfl) (s0) (fun hS=>?_);refine dF [(0,[]),(1,[]),(2,[]),(3,[]),(4,[]),(5,[]),(6,[])] ?_
    iterate 7
     refine dH (v:=?_) hS ?_ ?_;rotate_left
     ·(intro w hSw;(try dsimp only at hSw);(try simp only[aE,aB,aC]);go_simp;try with_reducible rfl)
     (try simp only[aE,aB,aC,aQ,aH,aG,aF])
    refine dG ?_;refine cK (i:=7) (fun K hK=>?_)
    (try simp only[aE,aB,aC])
    go_simp;refine(HRQ.out _ (HT2.out.wo.below (aD _ _).drew)).mono ?_;rintro e w3 ⟨rfl,hb3⟩;have kb:=aR (aD W2.heap.size W2).drew hb3 (aI _);clear hb3;have s3:=(kb.cell (p:=⟨P,4+c*6+1,none⟩) hP2).trans s0;obtain⟨r,HR⟩: ∃u,Hid (fK k t=u):=⟨_,aA rfl⟩;rw[HR.out]at HE HI2 HS ⊢;have nD:=kb.alloc kb.size (.cells #[.int .i64 r.k,.string r.key,.string r.val] 41);have XD:=RowTo.whole w3 #[.int .i64 r.k,.string r.key,.string r.val] 41;have hMD:=HM2.out.below nD
    obtain ⟨b, off, cap, nn, w8, hrun, p0, fz, hP8, hM8, hB8⟩ := hMD.waited (by show (m1.cl.set c _).length = 6; rw [fI]; exact HN6.out) hc (by rw [HGS.out]; show x1.wait.length ≤ _; have := HWL.out; rw [HX1.out] at this; exact this) (ad := w3.heap.size) r (fun j u hu => by
     obtain⟨x0,x1,x2⟩:=bA XD
     match j,hu with
     |0,hu=>injection hu with hu;rw[<-hu];exact x0
     |1,hu=>injection hu with hu;rw[<-hu];exact x1
     |2,hu=>injection hu with hu;rw[<-hu];exact x2
     | n + 3, hu => simp [jY] at hu)
    rw[HS.out]at hM8;rw[HFV.out]at hrun p0;have sD:=(nD.cell (p:=⟨P,4+c*6+1,none⟩) hP2).trans s0;have HFF:=aA (aJ hM8 (HB2.out.trans ((nD.mono (bL hbP (dM hP2))).trans hB8)));clear hM8 hB8 hMD nD XD kb;go_simp;have hS2:=s3;refine hK.out _ _ hS2 ?_;clear hK K hS;have hS:=hS2;clear hS2
    (try simp only[aE,aB,aC,aQ,aH,aG,aF])
    refine cK (i:=8) (fun K hK=>?_)
    (try simp only[aE,aB,aC])
    refine mZ (fA4 rfl rfl _) ?_;have hS2:=sD;refine hK.out _ _ hS2 ?_;clear hK K hS;have hS:=hS2;clear hS2
    (try simp only[aE,aB,aC,aQ,aH,aG,aF])
    refine cK (i:=9) (fun K hK=>?_)
    (try simp only[aE,aB,aC])
    refine Lib.wp_append_run _ _ _ _ _ rfl _ _ rfl rfl _ _ hrun ?_;have hS2:=p0;refine hK.out _ _ hS2 ?_;clear hK K hS;have hS:=hS2;clear hS2
    (try simp only[aE,aB,aC,aQ,aH,aG,aF])
    refine dF [(10,[11]),(11,[])] ?_
    iterate 2
     refine dH (v:=?_) hS ?_ ?_;rotate_left
     ·(intro w hSw;(try dsimp only at hSw);(try simp only[aE,aB,aC]);go_simp;try with_reducible rfl)
     (try simp only[aE,aB,aC,aQ,aH,aG,aF])
    refine dG ?_;refine bY (fun K hK=>?_)
    (try simp only[aE,aB,aC])
    go_simp;refine hK.out _ _ ?_;clear hK K
    (try simp only[aE,aB,aC,aQ,aH,aG,aF])
    go_wp2
    go_roundg rest.size
    case measure=>exact hsz.2
    case rel=>exact⟨_,_,_,n,by rw[HGS.out];exact aI _,by rw[HGS.out];exact hsz.1,HE.out,HFF.out.1,HI2.out,hb8,HFF.out.2⟩
end
structure TLst (w:World)(B:Nat)(v:Value)(l:List ByteArray):Prop where
 form: ∃A c,v= .slice A l.length c/\l.length<=c
 small:l.length<=1000000
 sizes: ∀t∈l,t.size<=100000000
 cells:0<l.length-> ∃b off c,v= .slice (some ⟨b,off,none⟩) l.length c/\b<B/\ ∀i (h:i<l.length),w.cell? ⟨b,off+i,none⟩=some (.string l[i])
structure DLst (w:World)(B:Nat)(v:Value)(l:List iD):Prop where
 form: ∃A c,v= .slice A l.length c/\l.length<=c
 small:l.length<=1000000
 cells:0<l.length-> ∃b off c,v= .slice (some ⟨b,off,none⟩) l.length c/\b<B/\ ∀i (h:i<l.length) j u,(gW l[i])[j]? =some u->w.cell? ⟨b,off+i*7+j,none⟩=some u
section
variable {w w':World}{B B':Nat}{v:Value}
theorem TLst.keep {l:List ByteArray}(h:TLst w B v l)(hB:B<=B')(hk: ∀p:Addr,p.block<B->w'.cell? p=w.cell? p):TLst w' B' v l:=by
 refine⟨h.form,h.small,h.sizes,fun hn=>?_⟩;obtain⟨b,off,c,e,hb,hc⟩:=h.cells hn;exact⟨b,off,c,e,by omega,fun i hi=>(hk _ hb).trans (hc i hi)⟩
theorem TLst.step {l:List ByteArray}(h:TLst w w.heap.size v l)(hb:Below w.heap.size w w'):TLst w' w'.heap.size v l:=h.keep hb.size fun _ hp=>hb.cell hp
theorem TLst.pt {n c:Nat}{A:Option Addr}{l:List ByteArray}(h:TLst w B (.slice A n c) l){k:Nat}(hk:k<l.length): ∃b off,A=some ⟨b,off,none⟩/\b<B/\w.cell? ⟨b,off+k,none⟩=some (.string l[k]):=by
 obtain⟨b,off,c',e,hb,hc⟩:=h.cells (by omega);injection e with e1 e2 e3;exact⟨b,off,e1,hb,hc k hk⟩
theorem DLst.keep {l:List iD}(h:DLst w B v l)(hB:B<=B')(hk: ∀p:Addr,p.block<B->w'.cell? p=w.cell? p):DLst w' B' v l:=by
 refine⟨h.form,h.small,fun hn=>?_⟩;obtain⟨b,off,c,e,hb,hc⟩:=h.cells hn;exact⟨b,off,c,e,by omega,fun i hi j u hu=>(hk _ hb).trans (hc i hi j u hu)⟩
theorem DLst.step {l:List iD}(h:DLst w w.heap.size v l)(hb:Below w.heap.size w w'):DLst w' w'.heap.size v l:=h.keep hb.size fun _ hp=>hb.cell hp
theorem DLst.pt {n c:Nat}{A:Option Addr}{l:List iD}(h:DLst w B (.slice A n c) l){k:Nat}(hk:k<l.length): ∃b off,A=some ⟨b,off,none⟩/\b<B/\w.cell? ⟨b,off+k*7,none⟩=some (.int .i64 l[k].c)/\w.cell? ⟨b,off+k*7+1,none⟩=some (.int .i64 l[k].r.k)/\w.cell? ⟨b,off+k*7+2,none⟩=some (.string l[k].r.key)/\
  w.cell? ⟨b,off+k*7+3,none⟩=some (.string l[k].r.val)/\w.cell? ⟨b,off+k*7+4,none⟩=some (.int .i64 l[k].a.kind)/\w.cell? ⟨b,off+k*7+5,none⟩=some (.string l[k].a.text)/\w.cell? ⟨b,off+k*7+6,none⟩=some (.int .i64 l[k].st):=by
 obtain⟨b,off,c',e,hb,hc⟩:=h.cells (by omega);injection e with e1 e2 e3;exact⟨b,off,e1,hb,hc k hk 0 _ rfl,hc k hk 1 _ rfl,hc k hk 2 _ rfl,hc k hk 3 _ rfl,hc k hk 4 _ rfl,hc k hk 5 _ rfl,hc k hk 6 _ rfl⟩
end
structure OutV (w:World)(v1 v2 v3:Value)(sent:List ByteArray)(deeds:List iD)(rows:PL):Prop where
 s:TLst w w.heap.size v1 sent
 d:DLst w w.heap.size v2 deeds
 r:Lst w w.heap.size v3 rows
theorem OutV.step {w w':World}{v1 v2 v3:Value}{sent:List ByteArray}{deeds:List iD}{rows:PL}(h:OutV w v1 v2 v3 sent deeds rows)(hb:Below w.heap.size w w'):OutV w' v1 v2 v3 sent deeds rows:=
 ⟨h.s.step hb,h.d.step hb,(h.r.below hb).more hb.size⟩
theorem fAb {w:World}{g t n c:Nat}{l:List ByteArray}(h:RowTo w g t n (l.map Value.string))(hc:l.length<=c)(hl:l.length<=1000000)(hs: ∀t∈l,t.size<=100000000):TLst w w.heap.size (.slice (some ⟨g,0,none⟩) l.length c) l:=by
 refine⟨⟨_,_,rfl,hc⟩,hl,hs,fun _=>⟨g,0,c,rfl,h.lt,fun i hi=>?_⟩⟩;have:=h.cell (j:=i) (by simpa using hi);rw[List.getElem_map]at this;rw[cW];exact this
theorem xAd {w:World}{t:Nat}{v:Value}{g:Option Nat}{l:List iD}(h:Sl w t 7 v g l.length (l.map gW).flatten)(hl:l.length<=1000000)(hg: ∀b,g=some b->b<w.heap.size):DLst w w.heap.size v l:=by
 obtain⟨A,c,rfl,hc⟩:=h.shape;refine⟨⟨A,c,rfl,hc⟩,hl,fun hn=>?_⟩;obtain⟨b,off,cap,h1,h2,h3,h4⟩:=h.at hn;refine⟨b,off,cap,h2,hg b h1,fun i hi j u hu=>?_⟩;have hj:j<7:=(fN.1 hu).1;have hf:=oZ (d:=l.map gW) (size:=7) (fun e he=>by obtain⟨x,_,rfl⟩:=List.mem_map.1 he;rfl) (i:=i) (by simpa using hi) hj;rw[List.getElem_map,hu]at hf;obtain⟨hlt,hv⟩:=fN.1 hf;rw[Nat.add_assoc,h4 _ hlt,hv]
theorem fAc {s : ByteArray} (h : s.size = 0) : s = ⟨#[]⟩ := kS (by
 have:s.data.toList.length=0:=by simpa using h
 rw [List.eq_nil_of_length_eq_zero this])
theorem fAd (v0 v1 v2 v3 v4 v5:Value)(w:World):(Instr.index 81 (.agg #[v0,v1,v2,v3,v4,v5]) (.int .i64 0)).run Tryz.prog w= .ok v0 w:=by kernel_rfl
theorem fAe (v0 v1 v2 v3 v4 v5:Value)(w:World):(Instr.index 81 (.agg #[v0,v1,v2,v3,v4,v5]) (.int .i64 1)).run Tryz.prog w= .ok v1 w:=by kernel_rfl
theorem fAf (v0 v1 v2 v3 v4 v5:Value)(w:World):(Instr.index 81 (.agg #[v0,v1,v2,v3,v4,v5]) (.int .i64 2)).run Tryz.prog w= .ok v2 w:=by kernel_rfl
theorem fAg (v0 v1 v2 v3 v4 v5:Value)(w:World):(Instr.index 81 (.agg #[v0,v1,v2,v3,v4,v5]) (.int .i64 3)).run Tryz.prog w= .ok v3 w:=by kernel_rfl
theorem fAh (v0 v1 v2 v3 v4 v5:Value)(w:World):(Instr.index 81 (.agg #[v0,v1,v2,v3,v4,v5]) (.int .i64 4)).run Tryz.prog w= .ok v4 w:=by kernel_rfl
theorem fAi (v0 v1 v2 v3 v4 v5:Value)(w:World):(Instr.index 81 (.agg #[v0,v1,v2,v3,v4,v5]) (.int .i64 5)).run Tryz.prog w= .ok v5 w:=by kernel_rfl
theorem xAe:(Tryz.prog.info? 9).map (fun i=>(i.zero,i.size,i.bytes))=some (some (.string ⟨#[]⟩),1,16):=by kernel_rfl
theorem fAj (w:World):(Instr.makeSlice 25 (.int .i64 6) (.int .i64 6)).run Tryz.prog w= .ok (.slice (some ⟨w.heap.size,0,none⟩) 6 6) (w.alloc (.cells #[.string ⟨#[]⟩,.string ⟨#[]⟩,.string ⟨#[]⟩,.string ⟨#[]⟩,.string ⟨#[]⟩,.string ⟨#[]⟩] 9)):=by
 obtain⟨i0,hi,hz0,hz1,hz2⟩:=info_parts xAe;have hr:=run_make (P:=Tryz.prog) w 25 9 i0 _ Tryz.underlying25 hi hz0 .i64 .i64 6 6 (by omega) (Int.le_refl _) (by rw[hz2];omega) (by omega);rw[hz1]at hr;have e:madeCells (Value.string ⟨#[]⟩).cells 6=#[.string ⟨#[]⟩,.string ⟨#[]⟩,.string ⟨#[]⟩,.string ⟨#[]⟩,.string ⟨#[]⟩,.string ⟨#[]⟩]:=by kernel_rfl
 rw[show Int.toNat 6*1=6 from rfl,e]at hr;exact hr
section
variable {base P:Nat}{f:Nat->Value}{G:Nat->Option Nat}{mode:Int}{m:Mach PE}{N:Nat}
theorem PMem.sentSl {w:World}(h:PMem 0 w base P f G mode m){c:Nat}(hc:c<6):Sl w 5 1 (f (41+c)) (G (9+c)) (m.sent.getD c ⟨#[]⟩).size ((m.sent.getD c ⟨#[]⟩).data.toList.map (fun b=>Value.int .u8 (b.toNat:Int))):=by
 have e1:cO (9+c)=41+c:=by unfold cO;rw[if_neg (by omega),if_neg (by omega),if_neg (by omega),if_pos (by omega)];omega
 have e2:iG (9+c)=5:=by unfold iG;rw[if_neg (by omega),if_neg (by omega),if_neg (by omega),if_pos (by omega)]
 have e3:fR (9+c)=1:=by unfold fR;rw[if_neg (by omega),if_neg (by omega),if_pos (by omega)]
 have hsl:=h.sl (9+c) (by omega) (by omega) (by omega);rw[e1,e2,e3,tN _ hc,xF,dR]at hsl;exact hsl
theorem fAk {w wx:World}(h:PMem 0 w base P f G mode m){c:Nat}(hc:c<6)(hb:Below w.heap.size w wx):(convert 80 9 (f (41+c))).run Tryz.prog wx= .ok (.string (m.sent.getD c ⟨#[]⟩)) wx:=by
 rcases(h.sentSl hc).form with⟨_,hv,h0⟩|⟨b,off,cap,eM,hg,hv,hcap,_,_,hcell⟩
 ·rw[hv,fAc h0];exact Lib.run_convert_nil_bytes (P:=Tryz.prog) wx 80 9 5 0 Tryz.underlying80 Tryz.underlying5 Tryz.underlying9
 ·rw[hv];refine Lib.run_convert_whole (P:=Tryz.prog) wx 80 5 9 Tryz.underlying80 Tryz.underlying5 Tryz.underlying9 b off _ (fun i hi=>?_) cap;have hbl:=(h.lo _ b hg).2;rw[hb.cell (p:=⟨b,off+i,none⟩) hbl,hcell i (by simpa using hi),List.getElem_map];rfl
def xQ (w:World)(R Q:Nat)(sent:List ByteArray)(k:Nat)(wr:World):Prop:=RowTo wr Q 9 6 ((sent.take k).map Value.string)/\RowTo wr R 29 3 [.slice none 0 0,.slice none 0 0,.slice none 0 0]/\Below w.heap.size w wr
theorem fAl (w:World)(h:PMem 0 w base P f G mode m)(hI:Inv mode m N)(hN:N<=300000):
  Calls Tryz.prog 26 #[cC P 0] w fun e w'=> ∃v1 v2 v3,e= .returned (.agg #[v1,v2,v3])/\OutV w' v1 v2 v3 m.sent m.deeds m.e.w.rows/\Below w.heap.size w w':=by
 have hP:=h.row.lt;have hs6:=hI.ok.s6;have n0:=((aD w.heap.size w).alloc (aI _) (.cells #[.slice none 0 0,.slice none 0 0,.slice none 0 0] 29)).alloc (by simp) (.cells #[.string ⟨#[]⟩,.string ⟨#[]⟩,.string ⟨#[]⟩,.string ⟨#[]⟩,.string ⟨#[]⟩,.string ⟨#[]⟩] 9);have X1:=(RowTo.whole w #[.slice none 0 0,.slice none 0 0,.slice none 0 0] 29).alloc (.cells #[.string ⟨#[]⟩,.string ⟨#[]⟩,.string ⟨#[]⟩,.string ⟨#[]⟩,.string ⟨#[]⟩,.string ⟨#[]⟩] 9);have X2:=(RowTo.whole (w.alloc (.cells #[.slice none 0 0,.slice none 0 0,.slice none 0 0] 29)) #[.string ⟨#[]⟩,.string ⟨#[]⟩,.string ⟨#[]⟩,.string ⟨#[]⟩,.string ⟨#[]⟩,.string ⟨#[]⟩] 9).front 0;simp only[World.size_alloc,List.take_zero]at X2
 obtain⟨A0,l0,q0,hf0'⟩: ∃A n q,f 41= .slice A n q:=by
  obtain⟨A,q,e,_⟩:=(h.sentSl (c:=0) (by omega)).shape;exact⟨A,_,q,e⟩
 have y0:=(n0.cell (p:=⟨P,41,none⟩) hP).trans (h.row.cell (j:=41) (by omega));rw[hf0']at y0
 obtain⟨A1,l1,q1,hf1'⟩: ∃A n q,f 42= .slice A n q:=by
  obtain⟨A,q,e,_⟩:=(h.sentSl (c:=1) (by omega)).shape;exact⟨A,_,q,e⟩
 have y1:=(n0.cell (p:=⟨P,42,none⟩) hP).trans (h.row.cell (j:=42) (by omega));rw[hf1']at y1
 obtain⟨A2,l2,q2,hf2'⟩: ∃A n q,f 43= .slice A n q:=by
  obtain⟨A,q,e,_⟩:=(h.sentSl (c:=2) (by omega)).shape;exact⟨A,_,q,e⟩
 have y2:=(n0.cell (p:=⟨P,43,none⟩) hP).trans (h.row.cell (j:=43) (by omega));rw[hf2']at y2
 obtain⟨A3,l3,q3,hf3'⟩: ∃A n q,f 44= .slice A n q:=by
  obtain⟨A,q,e,_⟩:=(h.sentSl (c:=3) (by omega)).shape;exact⟨A,_,q,e⟩
 have y3:=(n0.cell (p:=⟨P,44,none⟩) hP).trans (h.row.cell (j:=44) (by omega));rw[hf3']at y3
 obtain⟨A4,l4,q4,hf4'⟩: ∃A n q,f 45= .slice A n q:=by
  obtain⟨A,q,e,_⟩:=(h.sentSl (c:=4) (by omega)).shape;exact⟨A,_,q,e⟩
 have y4:=(n0.cell (p:=⟨P,45,none⟩) hP).trans (h.row.cell (j:=45) (by omega));rw[hf4']at y4
 obtain⟨A5,l5,q5,hf5'⟩: ∃A n q,f 46= .slice A n q:=by
  obtain⟨A,q,e,_⟩:=(h.sentSl (c:=5) (by omega)).shape;exact⟨A,_,q,e⟩
 have y5:=(n0.cell (p:=⟨P,46,none⟩) hP).trans (h.row.cell (j:=46) (by omega));rw[hf5']at y5;have HR0:Hid (xQ w w.heap.size (w.heap.size+1) m.sent 0 ((w.alloc (.cells #[.slice none 0 0,.slice none 0 0,.slice none 0 0] 29)).alloc (.cells #[.string ⟨#[]⟩,.string ⟨#[]⟩,.string ⟨#[]⟩,.string ⟨#[]⟩,.string ⟨#[]⟩,.string ⟨#[]⟩] 9))):=aA ⟨X2,X1,n0⟩;have HH:=aA h;have HI:=aA hI;have HS6:=aA hs6;have hQs:P<w.heap.size+1+1:=by omega
 have hmk:=fAj;clear h hI X1 X2 n0 hs6;unfold cC;go_enter Tryz.func26,Tryz.ntmps26;go_wp2_with fail
 go_loopw [11] (fun i wr=> ∃k:Nat,k<=6/\i= .int .i64 k/\Hid (xQ w w.heap.size (w.heap.size+1) m.sent k wr)) (fun i _=>6-(intOf i).toNat)
 case atStart=>exact⟨0,by omega,rfl,HR0.out⟩
 case round=>
  obtain⟨k,hk,rfl,HZ⟩:=hrel;have hQl:=HZ.out.1.lt;have hRl:=HZ.out.2.1.lt
  by_cases hlt:k<6
  ·have hkm:k<m.sent.length:=by rw[HS6.out];exact hlt
   have hln:(((m.sent.take k).map Value.string)).length=k:=by rw[dR,gK];omega
   obtain⟨u,hu⟩:=HZ.out.1.any (j:=k) (by omega);have hfz:=HZ.out.1.frozen k;have hcv:=fAk HH.out hlt HZ.out.2.2;have hpush:=HZ.out.1.push (by rw[hln];exact hlt) (.string (m.sent.getD k ⟨#[]⟩)) (j:=k) hln.symm
   have htk:(m.sent.take k).map Value.string++[.string (m.sent.getD k ⟨#[]⟩)]=(m.sent.take (k+1)).map Value.string:=by
    rw[gO hkm,List.map_append,eU,dP hkm];rfl
   rw[htk]at hpush;have hkI:(k:Int)<6:=by omega
   have HZ2:Hid (xQ w w.heap.size (w.heap.size+1) m.sent (k+1) (wr.setCell ⟨w.heap.size+1,k,none⟩ (.string (m.sent.getD k ⟨#[]⟩)))):=aA ⟨hpush,HZ.out.2.1.other (by show w.heap.size+1≠w.heap.size;omega) _,HZ.out.2.2.setCell (p:=⟨w.heap.size+1,k,none⟩) (by show w.heap.size<=w.heap.size+1;omega) _⟩;clear hpush htk hln hkm HR0;generalize m.sent.getD k ⟨#[]⟩=sk at*;obtain rfl|rfl|rfl|rfl|rfl|rfl:k=0\/k=1\/k=2\/k=3\/k=4\/k=5:=by omega
   ·have hcv':(convert 80 9 (f 41)).run Tryz.prog wr= .ok (.string sk) wr:=hcv;rw[hf0']at hcv';clear hcv;have hix:=fAd;go_wp2;go_roundw
    case rel=>exact⟨0+1,by omega,by go_num,HZ2.out⟩
    case measure=>simp[intOf]
   ·have hcv':(convert 80 9 (f 42)).run Tryz.prog wr= .ok (.string sk) wr:=hcv;rw[hf1']at hcv';clear hcv;have hix:=fAe;go_wp2;go_roundw
    case rel=>exact⟨1+1,by omega,by go_num,HZ2.out⟩
    case measure=>simp[intOf]
   ·have hcv':(convert 80 9 (f 43)).run Tryz.prog wr= .ok (.string sk) wr:=hcv;rw[hf2']at hcv';clear hcv;have hix:=fAf;go_wp2;go_roundw
    case rel=>exact⟨2+1,by omega,by go_num,HZ2.out⟩
    case measure=>simp[intOf]
   ·have hcv':(convert 80 9 (f 44)).run Tryz.prog wr= .ok (.string sk) wr:=hcv;rw[hf3']at hcv';clear hcv;have hix:=fAg;go_wp2;go_roundw
    case rel=>exact⟨3+1,by omega,by go_num,HZ2.out⟩
    case measure=>simp[intOf]
   ·have hcv':(convert 80 9 (f 45)).run Tryz.prog wr= .ok (.string sk) wr:=hcv;rw[hf4']at hcv';clear hcv;have hix:=fAh;go_wp2;go_roundw
    case rel=>exact⟨4+1,by omega,by go_num,HZ2.out⟩
    case measure=>simp[intOf]
   ·have hcv':(convert 80 9 (f 46)).run Tryz.prog wr= .ok (.string sk) wr:=hcv;rw[hf5']at hcv';clear hcv;have hix:=fAi;go_wp2;go_roundw
    case rel=>exact⟨5+1,by omega,by go_num,HZ2.out⟩
    case measure=>simp[intOf]
  ·obtain rfl:k=6:=by omega
   have hB:=HZ.out.2.2;have hM:=HH.out.below hB;have c47:=hM.row.cell (j:=47) (by omega);have c1:=hM.row.cell (j:=1) (by omega);have hPr:=hM.row.lt;obtain⟨D4,d4,hf47,_⟩:=(HH.out.sl 15 (by omega) (by omega) (by omega)).shape;rw[oC,dR]at hf47;have hf47':f 47= .slice D4 m.deeds.length d4:=hf47;obtain⟨E1,e1,hf1,_⟩:=HH.out.wld.wld.rows.form;rw[hf47']at c47;rw[hf1]at c1;have hD:=HI.out.deeds hN;have hTk:m.sent.take 6=m.sent:=jR (by rw[HS6.out];exact aI _)
   have HSZ := aA (show ∀ t ∈ m.sent, t.size ≤ 100000000 from fun t ht => by
    obtain⟨i,hi,rfl⟩:=List.getElem_of_mem ht;have:=HI.out.sent hN i;rw[eU,dP hi]at this
    exact this)
   have X1:=HZ.out.2.1;obtain⟨r0,r1,r2⟩:=bA X1;have z0:=X1.frozen 0;have z1:=X1.frozen 1;have z2:=X1.frozen 2
   -- the result
   have hFin: ∀wf:World,wf=((((wr.setCell ⟨w.heap.size,0,none⟩ (.slice (some ⟨w.heap.size+1,0,none⟩) 6 6)).setCell ⟨w.heap.size,1,none⟩ (.slice D4 m.deeds.length d4)).setCell ⟨w.heap.size,2,none⟩ (.slice E1 m.e.w.rows.length e1)).drew)->OutV wf (.slice (some ⟨w.heap.size+1,0,none⟩) 6 6) (.slice D4 m.deeds.length d4) (.slice E1 m.e.w.rows.length e1) m.sent m.deeds m.e.w.rows/\Below w.heap.size w wf/\RowTo wf w.heap.size 29 3 [.slice (some ⟨w.heap.size+1,0,none⟩) 6 6,.slice D4 m.deeds.length d4,.slice E1 m.e.w.rows.length e1]:=by
    intro wf hwf;subst hwf;have hBf:Below w.heap.size w ((((wr.setCell ⟨w.heap.size,0,none⟩ (.slice (some ⟨w.heap.size+1,0,none⟩) 6 6)).setCell ⟨w.heap.size,1,none⟩ (.slice D4 m.deeds.length d4)).setCell ⟨w.heap.size,2,none⟩ (.slice E1 m.e.w.rows.length e1)).drew):=(((hB.setCell (p:=⟨w.heap.size,0,none⟩) (aI _) _).setCell (p:=⟨w.heap.size,1,none⟩) (aI _) _).setCell (p:=⟨w.heap.size,2,none⟩) (aI _) _).drew;have hMf:=HH.out.below hBf;have hQf:=(((HZ.out.1.other (p:=⟨w.heap.size,0,none⟩) (by show w.heap.size≠w.heap.size+1;omega) (.slice (some ⟨w.heap.size+1,0,none⟩) 6 6)).other (p:=⟨w.heap.size,1,none⟩) (by show w.heap.size≠w.heap.size+1;omega) (.slice D4 m.deeds.length d4)).other (p:=⟨w.heap.size,2,none⟩) (by show w.heap.size≠w.heap.size+1;omega) (.slice E1 m.e.w.rows.length e1)).drew;rw[hTk]at hQf;have hTL:=fAb (c:=6) hQf (by rw[HS6.out];exact aI _) (by rw[HS6.out];omega) HSZ.out;rw[HS6.out]at hTL;have hsl:=hMf.sl 15 (by omega) (by omega) (by omega);rw[oC,dR]at hsl;have hsl':Sl _ 70 7 (f 47) (G 15) m.deeds.length (m.deeds.map gW).flatten:=hsl;rw[hf47']at hsl';have hrow:=hMf.wld.wld.rows;rw[hf1]at hrow;exact⟨⟨hTL,xAd hsl' (by omega) (fun b hb=>(hMf.lo 15 b hb).2),hrow⟩,hBf,(((X1.put (j:=0) (by simp) _).put (j:=1) (by simp) _).put (j:=2) (by simp) _).drew⟩
   obtain⟨nd,HND⟩: ∃n,Hid (m.deeds.length=n):=⟨_,aA rfl⟩;obtain⟨nr,HNR⟩: ∃n,Hid (m.e.w.rows.length=n):=⟨_,aA rfl⟩;rw[HND.out]at c47 hFin;rw[HNR.out]at c1 hFin;have HFin:=aA hFin;clear hFin hM hB X1 hf47 hf47' hf1 hTk HSZ hD HND HNR HR0 y0 y1 y2 y3 y4 y5;go_wp2_with fail;refine eF 11 (fun wx=>wx.cell? ⟨P,47,none⟩=some (.slice D4 nd d4)/\wx.cell? ⟨P,1,none⟩=some (.slice E1 nr e1)) (by kernel_rfl) (show wr.drew.cell? ⟨P,47,none⟩=some (.slice D4 nd d4)/\wr.drew.cell? ⟨P,1,none⟩=some (.slice E1 nr e1)from⟨c47,c1⟩) (fun hS=>?_);refine dF [(0,[]),(1,[]),(2,[]),(3,[]),(4,[]),(5,[]),(6,[]),(7,[]),(8,[]),(9,[]),(10,[])] ?_
   iterate 11
    refine dH (v:=?_) hS ?_ ?_;rotate_left
    ·(intro w hSw;(try dsimp only at hSw);(try simp only[aE,aB,aC]);go_simp;try with_reducible rfl)
    (try simp only[aE,aB,aC,aQ,aH,aG,aF])
   refine dG ?_;refine bY (fun K hK=>?_)
   (try simp only[aE,aB,aC])
   go_simp;refine hK.out _ _ ?_;clear hK K
   (try simp only[aE,aB,aC,aQ,aH,aG,aF])
   go_wp2;generalize hWF:(((wr.setCell ⟨w.heap.size,0,none⟩ (.slice (some ⟨w.heap.size+1,0,none⟩) 6 6)).setCell ⟨w.heap.size,1,none⟩ (.slice D4 nd d4)).setCell ⟨w.heap.size,2,none⟩ (.slice E1 nr e1)).drew=WF at*;obtain⟨hO,hBB,hRow⟩:=HFin.out WF rfl;obtain⟨t0,t1,t2⟩:=bA hRow;refine bE (v:= .agg #[.slice (some ⟨w.heap.size+1,0,none⟩) 6 6,.slice D4 nd d4,.slice E1 nr e1]) (by simp[results,Tryz.results26,go_sem,t0,t1,t2]) rfl ⟨_,_,_,rfl,hO,hBB⟩
end
end Go.Proofs.YtpbaobmegomfpabGreatDoor

/-
  Texts of the proof.
-/
import Derived.Test.YtpbaobmegomfpabGreatDoorG1
import Derived.Shelf.Pu.Clone
import Derived.Deep.RegionWith
import Derived.Deep.RegionHeld3
set_option linter.unusedVariables false
set_option linter.unusedSimpArgs false
set_option maxRecDepth 100000
set_option maxHeartbeats 16000000
open List renaming getElem_cons_zero→aB,getElem_cons_succ→aC,set_cons_succ→aF,length_set→fI
open Nat renaming le_refl→aI,lt_of_lt_of_le→bD,le_trans→bL
open Go.Lib renaming hid→aA
open Go.RowKit.Below renaming refl→aD,heap_setCell→bF,setCell→dT,alloc→dU
open Go.World renaming setCell→cE
open Go renaming bodyPost_ret→bE,below_drewN→aZ
namespace Go.Proofs.YtpbaobmegomfpabGreatDoor
open Go.RowKit
theorem zP: ∀(l:PL) (i:Nat) (p:ByteArray×ByteArray),bO (l.set i p)=((bO l).set (i*2) (.string p.1)).set (i*2+1) (.string p.2)
 |[],i,p=>by simp[vK]
 |q::l,0,p=>by simp[lW]
 |q::l,i+1,p=>by
  rw[aF,lW,lW,zP l i p,show(i+1)*2=i*2+1+1 by omega,show i*2+1+1+1=(i*2+1)+1+1 by omega];simp only[aF]
def Sz (l:PL):Prop:= ∀p∈l,p.1.size<=140737488351232/\p.2.size<=140737488351232
theorem Sz.ins {l:PL}{k v:ByteArray}(h:Sz l)(hk:k.size<=140737488351232)(hv:v.size<=140737488351232):Sz (cI l k v):=fun q hq=>by
 rcases oK hq with rfl|hq
 ·exact⟨hk,hv⟩
 ·exact h q hq
theorem OwnL.lst {w:World}{g c:Nat}{l:PL}(h:OwnL w g c l)(hn:l.length<=1000)(hs:Sz l):Lst w w.heap.size (.slice (some ⟨g,0,none⟩) l.length c) l:=
 h.row.lst h.len h.row.lt (by omega) hs
theorem OwnL.below {w w':World}{g c B:Nat}{l:PL}(h:OwnL w g c l)(hb:Below B w w')(hg:g<B):OwnL w' g c l:=⟨h.row.below hb hg,h.len,h.most⟩
theorem OwnL.same {w w':World}{g c:Nat}{l:PL}(h:OwnL w g c l)(e:w'.heap[g]? =w.heap[g]?):OwnL w' g c l:=⟨h.row.same e,h.len,h.most⟩
theorem jM {w w':World}(h:Below w.heap.size w w')(r:Option Nat):w.grownBy w' r:=⟨h.os,h.tape,h.output,h.size,fun k hk _=>h.block k hk⟩
theorem zQ {w w':World}{g j:Nat}(h:w.grownBy w' (some g))(u:Value):w.grownBy (w'.setCell ⟨g,j,none⟩ u) (some g):=
 ⟨h.os,h.tape,h.output,by simpa [cE] using h.size,fun k hk hne=>(bF _ _ _ _ (fun e=>hne (by rw[e]))).trans (h.block k hk hne)⟩
theorem oP {a b c:World}{r:Option Nat}(h:a.grownBy b r)(k:b.grownBy c r):a.grownBy c r:=
 ⟨k.os.trans h.os,k.tape.trans h.tape,k.output.trans h.output,bL h.size k.size,fun i hi hne=>(k.block i (bD hi h.size) hne).trans (h.block i hi hne)⟩
theorem vS (g c:Nat)(l:PL)(key val:ByteArray)(w:World)(ho:OwnL w g c l)(hr:bG l=true)(hn:l.length<=1000)(hs:Sz l):
  Calls Tryz.prog 94 #[.slice (some ⟨g,0,none⟩) l.length c,.agg #[.string key,.string val]] w (oO w g (cI l key val)):=by
 have b0:Below w.heap.size w (w.alloc (.cells #[.string key,.string val] 60)):=(aD _ _).alloc (aI _) _;have HL:=aA (ho.lst hn hs);have HO:=aA ho;have HR:=aA hr;have HX:=aA (RowTo.whole w #[.string key,.string val] 60);have hgw:=ho.row.lt;have hlc:=ho.len;have hcm:=ho.most
 cases hf:aM l key
 ·have HN:=aA (fun(w9:World) (vb:Nat) (h9:OwnL w9 g c l) (hne:vb≠g) (hv:RowTo w9 vb 60 2 [.string key,.string val])=>zAo g c vb l key val w9 h9 hr hn hf hne hv);have HF:=aA hf;clear hf ho hr hs;go_enter Tryz.func94,Tryz.ntmps94;go_wp2_with fail;refine(jA _ l key _ (HL.out.step b0) HR.out).mono ?_;rw[HF.out];rintro e w1 ⟨rfl,hb1⟩;have b1:=aR b0 hb1 b0.size;have X1:=HX.out.below hb1 HX.out.lt;have x0:=X1.cell (j:=0) (by simp);have x1:=X1.cell (j:=1) (by simp);simp only[aB,aC]at x0 x1;have hsz1:=b1.size;have B1:=aA b1;clear X1 hb1 b1;go_wp2_with fail;refine(HN.out _ w1.heap.size ((HO.out.below B1.out hgw).same (Below.heap_alloc _ _ _ (by omega))) (by omega) (RowTo.whole w1 #[.string key,.string val] 60)).mono ?_;rintro e w2 ⟨g',c',rfl,ho',hloc,hgr⟩;go_wp2;go_ret;refine⟨g',c',rfl,ho',hloc.imp id (fun h=>?_),oP (jM B1.out _) (oP (World.grownBy_alloc _ _ _) hgr)⟩;simp at h;omega
 ·have hp:=zK hr hf;have HI:=aA (zL (v:=val) hr hf);have HF:=aA hf;clear hf ho hr hs;go_enter Tryz.func94,Tryz.ntmps94;go_wp2_with fail;refine(jA _ l key _ (HL.out.step b0) HR.out).mono ?_;rw[HF.out];rintro e w1 ⟨rfl,hb1⟩;have b1:=aR b0 hb1 b0.size;have X1:=HX.out.below hb1 HX.out.lt;have x0:=X1.cell (j:=0) (by simp);have x1:=X1.cell (j:=1) (by simp);simp only[aB,aC]at x0 x1;generalize hm:dL l key=m at*;have HM:=aA hm;have O1:=HO.out.below b1 hgw;obtain⟨u0,f0⟩:=O1.row.any (j:=m*2) (by omega);obtain⟨u1,f1⟩:=O1.row.any (j:=m*2+1) (by omega);have y0:=O1.row.frozen (m*2);have y1:=O1.row.frozen (m*2+1);have hpi:(m:Int)<(l.length:Int):=by omega
  have B1:=aA b1;have OO:=aA O1;clear X1 hb1 b1 O1 hm;go_wp2;go_ret;refine⟨g,c,?_,?_,.inl rfl,zQ (zQ (jM B1.out _) _) _⟩
  ·rw[HI.out];simp
  ·rw[HI.out];refine⟨?_,by simpa using hlc,hcm⟩;rw[zP];exact(OO.out.row.put (by rw[fE];omega) _).put (by rw[fI,fE];omega) _
def gU:List PL->ByteArray->Option ByteArray
 |[],_=>none
 |l::r,k=>match aX l k with
  |some v=>some v
  |none=>gU r k
def vT (o:Option ByteArray):Value:=match o with
 |some v=> .agg #[.int .i64 2,.string v,.int .i64 0]
 |none=> .agg #[.int .i64 3,.string ⟨#[]⟩,.int .i64 0]
theorem zR: ∀{ls:List PL} {k v:ByteArray} {i:Nat} (hi:i<ls.length),(∀j (hj:j<ls.length),j<i->aM ls[j] k=false)->aX ls[i] k=some v->gU ls k=some v
 |l::r,k,v,0,_,_,h=>by unfold gU;simp only[aB]at h;rw[h]
 |l::r,k,v,i+1,hi,hn,h=>by
  have h0:=hn 0 (by simp) (by omega);unfold aM at h0;simp only[aB]at h0;unfold gU
  cases e:aX l k with
  |some x=>rw[e]at h0;cases h0
  |none=>exact zR (ls:=r) (by simpa using hi) (fun j hj hji=>hn (j+1) (by simpa using hj) (by omega)) (by simpa using h)
theorem zS: ∀{ls:List PL} {k:ByteArray},(∀j (hj:j<ls.length),aM ls[j] k=false)->gU ls k=none
 |[],_,_=>rfl
 |l::r,k,hn=>by
  have h0:=hn 0 (by simp);unfold aM at h0;simp only[aB]at h0;unfold gU
  cases e:aX l k with
  |some x=>rw[e]at h0;cases h0
  |none=>exact zS (ls:=r) (fun j hj=>hn (j+1) (by simpa using hj))
def zAp (w:World)(ls:List PL)(key:ByteArray)(k:Nat)(wr:World):Prop:=
 (∀j (hj:j<ls.length),j<k->aM ls[j] key=false)/\RowTo wr w.heap.size 46 3 [.int .i64 0,.string ⟨#[]⟩,.int .i64 0]/\Below w.heap.size w wr
theorem sG (key:ByteArray)(b:Nat)(ls:List PL)(vs:Nat->Value)(w:World)(hb:b<w.heap.size)(hl:ls.length<=2)
  (hc: ∀i (hi:i<ls.length),w.cell? ⟨b,i,none⟩=some (vs i)/\Lst w w.heap.size (vs i) ls[i]/\bG ls[i]=true):
  Calls Tryz.prog 68 #[.string key,.slice (some ⟨b,0,none⟩) ls.length ls.length] w fun e w'=>e= .returned (vT (gU ls key))/\Below w.heap.size w w':=by
 have HC:=aA hc;clear hc;go_enter Tryz.func68,Tryz.ntmps68;go_wp2
 go_loopw [11] (fun i wr=> ∃k:Nat,k<=ls.length/\i= .int .i64 k/\zAp w ls key k wr) (fun i _=>ls.length-(intOf i).toNat)
 case atStart=>exact⟨0,by omega,rfl,fun j hj h=>by omega,RowTo.whole w #[.int .i64 0,.string ⟨#[]⟩,.int .i64 0] 46,(aD _ _).alloc (aI _) _⟩
 case round=>
  obtain⟨k,hk,rfl,hno,hres,bel⟩:=hrel;have y0:=hres.cell (j:=0) (by simp);have y1:=hres.cell (j:=1) (by simp);have y2:=hres.cell (j:=2) (by simp);have z0:=hres.frozen 0;have z1:=hres.frozen 1;have z2:=hres.frozen 2;simp only[aB,aC]at y0 y1 y2
  by_cases hlt:k<ls.length
  ·obtain⟨c0,hlst,hrise⟩:=HC.out k hlt;have d0:=(bel.cell (p:=⟨b,k,none⟩) hb).trans c0;obtain⟨A,c,hv,hc⟩:=hlst.form;rw[hv]at d0 hlst;have HL:=aA hlst;have HR:=aA hrise;have HN:=aA hno;have HS:=aA hres;have HB:=aA bel;have hkl:(k:Int)<(ls.length:Int):=by omega
   clear hlst hrise hno hres bel c0 hv
   cases hf:aM ls[k] key
   ·have HF:=aA hf;clear hf;go_wp2_with fail;refine(jA _ _ key _ (HL.out.step HB.out) HR.out).mono ?_;rw[HF.out];rintro e w1 ⟨rfl,hb1⟩;have HS1:=aA (HS.out.below hb1 HS.out.lt);have HB1:=aA (aR HB.out hb1 HB.out.size);clear hb1;go_wp2;go_roundw
    case rel=>exact⟨k+1,by omega,by go_num,(fun j hj hjk=>if e:j=k then by subst e;exact HF.out else HN.out j hj (by omega)),HS1.out,HB1.out⟩
    case measure=>simp[intOf];omega
   ·have hp:=zK HR.out hf;have hat:=(qH HR.out hp).2 hf;have HA:=aA (zR hlt HN.out hat);obtain⟨b',off',rfl,hb',m0,m1⟩:=HL.out.pt hp;have HF:=aA hf;clear hf hat;go_wp2_with fail;refine(jA _ _ key _ (HL.out.step HB.out) HR.out).mono ?_;rw[HF.out];rintro e w1 ⟨rfl,hb1⟩;have HS1:=HS.out.below hb1 HS.out.lt;have HB1:=aR HB.out hb1 HB.out.size;have n1:=(HB1.cell (p:=⟨b',off'+dL ls[k] key*2+1,none⟩) hb').trans m1;have r0:=HS1.cell (j:=0) (by simp);have r1:=HS1.cell (j:=1) (by simp);have r2:=HS1.cell (j:=2) (by simp);have s0:=HS1.frozen 0;have s1:=HS1.frozen 1;have s2:=HS1.frozen 2;simp only[aB,aC]at r0 r1 r2;have HBB:=aA HB1;clear hb1 HS1 HB1 m0 m1;have hpi:(dL ls[k] key:Int)<(ls[k].length:Int):=(by omega);generalize dL ls[k] key=m at*;generalize ls[k][m].2=x at*;go_wp2;refine bE (v:= .agg #[.int .i64 2,.string x,.int .i64 0]) (by simp[results,Tryz.results68,go_sem,r0,r1,r2]) rfl ⟨by rw[HA.out];rfl,?_⟩;exact((HBB.out.setCell (by simp) _).setCell (by simp) _).setCell (by simp) _
  ·have HA:=aA (zS (fun j hj=>hno j hj (by omega)));have HB:=aA bel;clear hno hres bel;go_wp2;refine bE (v:= .agg #[.int .i64 3,.string ⟨#[]⟩,.int .i64 0]) (by simp[results,Tryz.results68,go_sem,y0,y1,y2]) rfl ⟨by rw[HA.out];rfl,?_⟩;exact((HB.out.setCell (by simp) _).setCell (by simp) _).setCell (by simp) _
def zAq:Go.Shelf.Ren:=⟨fun|25=>72|n=>n,fun|0=>0|3=>3|4=>4|5=>5|9=>9|37=>80|47=>164|n=>n,fun n=>n⟩
theorem zAr:LaysPu.n25 Tryz.prog zAq:=
  { mixed := (by kernel_rfl), f25 := (by kernel_rfl),
    t0:=(by kernel_rfl),a0:=(fun _=>by kernel_rfl),z0:=(fun _=>by kernel_rfl),v0:=(fun _=>by kernel_rfl),i0:=(by kernel_rfl),
    t3:=(by kernel_rfl),a3:=(fun _=>by kernel_rfl),z3:=(fun _=>by kernel_rfl),v3:=(fun _=>by kernel_rfl),i3:=(by kernel_rfl),
    t4:=(by kernel_rfl),a4:=(fun _=>by kernel_rfl),z4:=(fun _=>by kernel_rfl),v4:=(fun _=>by kernel_rfl),i4:=(by kernel_rfl),
    t5:=(by kernel_rfl),a5:=(fun _=>by kernel_rfl),z5:=(fun _=>by kernel_rfl),v5:=(fun _=>by kernel_rfl),i5:=(by kernel_rfl),
    t9:=(by kernel_rfl),a9:=(fun _=>by kernel_rfl),z9:=(fun _=>by kernel_rfl),v9:=(fun _=>by kernel_rfl),i9:=(by kernel_rfl),
    t37:=(by kernel_rfl),a37:=(fun _=>by kernel_rfl),z37:=(fun _=>by kernel_rfl),v37:=(fun _=>by kernel_rfl),i37:=(by kernel_rfl),
    t47 := (by kernel_rfl), a47 := (fun _ => by kernel_rfl), z47 := (fun _ => by kernel_rfl), v47 := (fun _ => by kernel_rfl), i47 := (by kernel_rfl) }
theorem jT (s:ByteArray)(w:World)(hs:s.size<=281474976710656):
  Calls Tryz.prog 46 #[.string s] w fun e w'=>e= .returned (.string s)/\Below w.heap.size w w':=by
 go_enter Tryz.func46,Tryz.ntmps46;go_wp2_with fail;refine(AnyPu.stringslite_Clone zAr s _ hs).mono ?_;rintro e w1 ⟨rfl,hb⟩;go_wp2;go_ret;exact⟨rfl,hb⟩
def bQ (k:Int)(t:ByteArray):Value:= .agg #[.int .i64 k,.string t,.int .i64 0]
theorem lZ (t:ByteArray)(w:World):
  Calls Tryz.prog 64 #[.string t] w fun e w'=>e= .returned (bQ 4 t)/\Below w.heap.size w w':=by
 go_enter Tryz.func64,Tryz.ntmps64;go_wp2;refine bE (v:=bQ 4 t) (by simp[results,Tryz.results64,go_sem,bQ]) rfl ⟨rfl,?_⟩
 repeat' (first|exact aD _ _|assumption|with_reducible refine aZ ?_ _|with_reducible refine Below.drew ?_|with_reducible refine dT ?_ ?_ _|with_reducible refine dU ?_ ?_ _|(simp;done)|(simp;omega))
theorem oQ (w:World):
  Calls Tryz.prog 93 #[] w fun e w'=>e= .returned (bQ 1 ⟨#[]⟩)/\Below w.heap.size w w':=by
 go_enter Tryz.func93,Tryz.ntmps93;go_wp2;refine bE (v:=bQ 1 ⟨#[]⟩) (by simp[results,Tryz.results93,go_sem,bQ]) rfl ⟨rfl,?_⟩
 repeat' (first|exact aD _ _|assumption|with_reducible refine aZ ?_ _|with_reducible refine Below.drew ?_|with_reducible refine dT ?_ ?_ _|with_reducible refine dU ?_ ?_ _|(simp;done)|(simp;omega))
structure Chg (w w':World)(g pb po:Nat)(v:Value):Prop where
 os:w'.os=w.os
 tape:w'.tape=w.tape
 output:w'.output=w.output
 size:w.heap.size<=w'.heap.size
 other: ∀b,b<w.heap.size->b≠g->b≠pb->w'.heap[b]? =w.heap[b]?
 here:w'.heap[pb]? =(w.setCell ⟨pb,po,none⟩ v).heap[pb]?
def sH (w:World)(g pb po:Nat)(l':PL)(e:Ending)(w':World):Prop:=
 ∃g' c',e= .returned (bQ 1 ⟨#[]⟩)/\OwnL w' g' c' l'/\(g'=g\/w.heap.size<=g')/\Chg w w' g pb po (.slice (some ⟨g',0,none⟩) l'.length c')
theorem zAs (g c pb po:Nat)(l:PL)(k:Int)(key val:ByteArray)(limit:Nat)(w:World)(ho:OwnL w g c l)(hr:bG l=true)(hn:l.length<=1000)(hs:Sz l)
  (hp:w.cell? ⟨pb,po,none⟩=some (.slice (some ⟨g,0,none⟩) l.length c)) (hf:aM l key=false) (hl:limit<=l.length):
  Calls Tryz.prog 70 #[.pointer (some ⟨pb,po,none⟩),.agg #[.int .i64 k,.string key,.string val],.int .i64 limit] w fun e w'=>e= .returned (bQ 4 ⟨#[102,117,108,108]⟩)/\Below w.heap.size w w':=by
 have hle:decide ((limit:Int)<=(l.length:Int))=true:=cF (by omega);have hle':decide (limit<=l.length)=true:=cF hl;have HF:=aA hf;clear hf;have hpb:pb<w.heap.size:=World.block_lt_of_cell? w _ hp;have b0:Below w.heap.size w ((w.alloc (.cells #[.int .i64 k,.string key,.string val] 41)).alloc (.cells #[.int .i64 0,.string ⟨#[]⟩,.int .i64 0] 46)):=((aD _ _).alloc (aI _) _).alloc (by simp) _;have HL:=aA (ho.lst hn hs);have HR:=aA hr;have HO:=aA ho;have hgw:=ho.row.lt;clear ho hr hs;go_enter Tryz.func70,Tryz.ntmps70;go_wp2;have q0:=(b0.cell (p:=⟨pb,po,none⟩) hpb).trans hp;have q1:((w.alloc (.cells #[.int .i64 k,.string key,.string val] 41)).alloc (.cells #[.int .i64 0,.string ⟨#[]⟩,.int .i64 0] 46)).cell? ⟨w.heap.size,1,none⟩=some (.string key):=by simp[go_sem]
 have q2:((w.alloc (.cells #[.int .i64 k,.string key,.string val] 41)).alloc (.cells #[.int .i64 0,.string ⟨#[]⟩,.int .i64 0] 46)).cell? ⟨w.heap.size,2,none⟩=some (.string val):=by simp[go_sem]
 have X0:Hid (RowTo ((w.alloc (.cells #[.int .i64 k,.string key,.string val] 41)).alloc (.cells #[.int .i64 0,.string ⟨#[]⟩,.int .i64 0] 46)) (w.heap.size+1) 46 3 [.int .i64 0,.string ⟨#[]⟩,.int .i64 0]):=by
  have:=RowTo.whole (w.alloc (.cells #[.int .i64 k,.string key,.string val] 41)) #[.int .i64 0,.string ⟨#[]⟩,.int .i64 0] 46;exact aA (by simpa using this)
 have hz:((w.alloc (.cells #[.int .i64 k,.string key,.string val] 41)).alloc (.cells #[.int .i64 0,.string ⟨#[]⟩,.int .i64 0] 46)).heap.size=w.heap.size+1+1:=by simp
 have B0:=aA b0;clear b0;generalize((w.alloc (.cells #[.int .i64 k,.string key,.string val] 41)).alloc (.cells #[.int .i64 0,.string ⟨#[]⟩,.int .i64 0] 46))=W0 at*;have hz0:w.heap.size<W0.heap.size:=by omega
 have hz1:pb<W0.heap.size:=by omega
 have HZ:=aA hz;clear hz;have kb:=aD W0.heap.size W0;have dS:=aA (show W0.drew.cell? ⟨pb,po,none⟩=some (.slice (some ⟨g,0,none⟩) l.length c)/\W0.drew.cell? ⟨w.heap.size,1,none⟩=some (.string key)from⟨q0,q1⟩)
 go_region_held3 (fun wx=>wx.cell? ⟨pb,po,none⟩=some (.slice (some ⟨g,0,none⟩) l.length c)/\wx.cell? ⟨w.heap.size,1,none⟩=some (.string key))
  (first
   |with_reducible exact⟨q0,q1⟩
   |with_reducible exact dS.out
   | with_reducible exact ⟨(kb.cell (p := ⟨pb, po, none⟩) hz1).trans q0, (kb.cell (p := ⟨w.heap.size, 1, none⟩) hz0).trans q1⟩)
  (first
   | (
    go_at_call 95
    refine(jA _ l key _ (by first|exact(HL.out.step B0.out)|exact(HL.out.step B0.out.drew)|exact(HL.out.step (aZ B0.out _))) HR.out).mono ?_
    rw[HF.out];rintro e w8 ⟨rfl,hy⟩
    have kb : Below W0.heap.size W0 w8 := by first | exact kb.trans (hy.mono kb.size) | exact kb.trans ⟨hy.os, hy.tape, hy.output, hy.size, fun i hi => hy.block i (bD hi kb.size)⟩))
 have p0:=(kb.cell (p:=⟨pb,po,none⟩) hz1).trans q0;have p1:=(kb.cell (p:=⟨w.heap.size,1,none⟩) hz0).trans q1;have p2:=(kb.cell (p:=⟨w.heap.size,2,none⟩) hz0).trans q2;have KB:=aA kb;have B8:=aA (aR B0.out kb B0.out.size);have X8:=aA (X0.out.below kb X0.out.lt);have hs8:=kb.size;clear kb q0 q1 q2 dS;go_wp2_with fail;refine(lZ _ _).mono ?_;rintro e w9 ⟨rfl,hb9⟩;have X9:=X8.out.below hb9 X8.out.lt;have r0:=X9.cell (j:=0) (by simp);have r1:=X9.cell (j:=1) (by simp);have r2:=X9.cell (j:=2) (by simp);have s0:=X9.frozen 0;have s1:=X9.frozen 1;have s2:=X9.frozen 2;simp only[aB,aC]at r0 r1 r2;have B9:=aA (aR B8.out hb9 B8.out.size);clear X9 hb9;unfold bQ;go_wp2;refine bE (v:= .agg #[.int .i64 4,.string ⟨#[102,117,108,108]⟩,.int .i64 0]) (by simp[results,Tryz.results70,go_sem,r0,r1,r2]) rfl ⟨rfl,?_⟩;exact((B9.out.setCell (by simp) _).setCell (by simp) _).setCell (by simp) _
theorem mO {a b:World}{p:Addr}{v:Value}(h:a.heap[p.block]? =b.heap[p.block]?):(a.setCell p v).heap[p.block]? =(b.setCell p v).heap[p.block]? :=by
 simp only[cE,Array.getElem?_modify,h]
theorem zT {w w8 wB w9:World}{g pb po g' c' R:Nat}{l':PL}{x y z:Value}(b8:Below w.heap.size w w8)(hR:R=w.heap.size+1)(hs8:w.heap.size+1+1<=w8.heap.size)(hpb:pb<w.heap.size)(hg:g<w.heap.size)(hne:pb≠g)(hgB:w8.grownBy wB (some g))(ho:OwnL wB g' c' l')(hl:g'=g\/w8.heap.size<=g')
    (hb9:Below (wB.setCell ⟨pb,po,none⟩ (.slice (some ⟨g',0,none⟩) l'.length c')).heap.size (wB.setCell ⟨pb,po,none⟩ (.slice (some ⟨g',0,none⟩) l'.length c')) w9):
    sH w g pb po l' (.returned (bQ 1 ⟨#[]⟩)) (((w9.setCell ⟨R,0,none⟩ x).setCell ⟨R,1,none⟩ y).setCell ⟨R,2,none⟩ z):=by
  subst hR;have hsB:=hgB.size;have hs9:wB.heap.size<=w9.heap.size:=by have:=hb9.size;simpa [cE] using this
  have hgl:=ho.row.lt;have hg':pb≠g':=by rcases hl with h|h<;>omega
  have hR':w.heap.size+1≠g':=by rcases hl with h|h<;>omega
  refine⟨g',c',rfl,?_,hl.imp id (fun h=>by omega),?_⟩
  · have o1:OwnL w9 g' c' l':=⟨(ho.row.other hg' _).below hb9 (by simpa [cE] using hgl),ho.len,ho.most⟩
    exact⟨((o1.row.other hR' _).other hR' _).other hR' _,o1.len,o1.most⟩
  · have blk: ∀b,b≠w.heap.size+1->(((w9.setCell ⟨w.heap.size+1,0,none⟩ x).setCell ⟨w.heap.size+1,1,none⟩ y).setCell ⟨w.heap.size+1,2,none⟩ z).heap[b]? =w9.heap[b]? :=fun b hb=>by
      rw[bF _ _ _ _ hb,bF _ _ _ _ hb,bF _ _ _ _ hb]
    refine⟨?_,?_,?_,?_,fun b hb h1 h2=>?_,?_⟩
    · exact(hb9.os.trans hgB.os).trans b8.os
    · exact(hb9.tape.trans hgB.tape).trans b8.tape
    · exact(hb9.output.trans hgB.output).trans b8.output
    · have:w.heap.size<=w9.heap.size:=by omega
      simpa [cE] using this
    · rw [blk b (by omega), hb9.block b (by have : b < wB.heap.size := by omega
                                            simpa [cE] using this), bF _ _ _ _ h2, hgB.block b (by omega) (fun e => h1 (by injection e)), b8.block b hb]
    · rw [blk pb (by omega), hb9.block pb (by have : pb < wB.heap.size := by omega
                                              simpa [cE] using this)]
      exact mO (p:=⟨pb,po,none⟩) ((hgB.block pb (by omega) (fun e=>hne (by injection e))).trans (b8.block pb hpb))
end Go.Proofs.YtpbaobmegomfpabGreatDoor

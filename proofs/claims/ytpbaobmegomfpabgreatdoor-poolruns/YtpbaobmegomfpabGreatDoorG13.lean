/-
  Texts of the proof.
-/
import Derived.Test.YtpbaobmegomfpabGreatDoorG12
set_option linter.unusedVariables false
set_option linter.unusedSimpArgs false
set_option maxRecDepth 100000
set_option maxHeartbeats 16000000
open List renaming getElem_toArray→aE,getElem_cons_zero→aB,getElem_cons_succ→aC,setIfInBounds_toArray→aH,set_cons_zero→aG,set_cons_succ→aF
open Nat renaming le_refl→aI,lt_of_lt_of_le→bD,le_trans→bL,le_of_lt→dM
open Go.Lib renaming hid→aA
open Go.RowKit.Below renaming refl→aD,heap_setCell→bF
open Go.World renaming cell?_of_block→aV,setCell→cE
open And renaming intro→aJ
open Go.Act renaming put→aQ
namespace Go.Proofs.YtpbaobmegomfpabGreatDoor
open Go.RowKit
theorem Lst.step' {w w':World}{v:Value}{l:PL}(h:Lst w w.heap.size v l)(hb:Below w.heap.size w w'):Lst w' w'.heap.size v l:=(h.below hb).more hb.size
theorem PMem.un16 {w:World}{base P:Nat}{f:Nat->Value}{G:Nat->Option Nat}{mode:Int}{m:Mach PE}(h:PMem 16 w base P f G mode m):PMem 0 w base P f G mode m:=⟨h.row,h.p0,h.lo,h.inj,fun k h1 h2 _=>h.sl k h1 h2 (by omega),h.md,h.wld,h.bytes,h.has,h.srv,h.set,h.prep⟩
section
variable {base P:Nat}{f:Nat->Value}{G:Nat->Option Nat}{mode:Int}{m:Mach PE}
def nZ (w:World)(base P:Nat)(mode:Int)(m':Mach PE)(e:Ending)(w':World):Prop:= ∃f' G',e= .returned (.tuple #[])/\PMem 0 w' base P f' G' mode m'/\Below base w w'
theorem PMem.plus {w w':World}(h:PMem 0 w base P f G mode m)(hb:Below w.heap.size w w'){X:Nat}(hX:w.heap.size<=X)(hX':X<w'.heap.size):PMem 0 w' base P f (aL G 16 (some X)) mode m:=
 ((h.but 16).move (by omega) hb.size (fun b hlt _=>hb.block b hlt) hX hX' (bL (h.lo 0 P h.p0).1 (dM (h.lo 0 P h.p0).2))).un16
theorem PMem.five {w:World}{X:Nat}(h:PMem 0 w base P f (aL G 16 (some X)) mode m)(a0 a1 a2 a3 a4:Value):PMem 0 (((((w.setCell ⟨X,0,none⟩ a0).setCell ⟨X,1,none⟩ a1).setCell ⟨X,2,none⟩ a2).setCell ⟨X,3,none⟩ a3).setCell ⟨X,4,none⟩ a4) base P f (aL G 16 (some X)) mode m:=by
 refine((h.but 16).keep (by omega) (by simp[cE]) (fun b hlt hne=>?_)).un16;have hbX:b≠X:=fun e=>hne (by unfold aL;rw[if_pos rfl,e])
 rw[bF _ _ _ _ hbX,bF _ _ _ _ hbX,bF _ _ _ _ hbX,bF _ _ _ _ hbX,bF _ _ _ _ hbX]
theorem gAc (w:World)(h:PMem 0 w base P f G mode m)(hT:Tabs w base)(hok:bX m.e.w){c s:Nat}(hc:c<6)(hs:(m.get c).srv=some s)(hlt:s<m.e.w.ss.length)(hp1: ∀q∈(m.e.of c).1,bZ 9 q.1 q.2=0)(hp2: ∀q∈(m.e.of c).2,bZ 11 q.1 q.2=0):
  Calls Tryz.prog 122 #[cC P 0,cC P (4+c*6)] w (nZ w base P mode {m with e:=⟨jV m.e.w s (m.e.of c),m.e.kept⟩}):=by
 have hP:=h.row.lt;have hbP:=(h.lo 0 P h.p0).1;obtain⟨q,hq,hqs⟩:=h.srv c hc;obtain rfl:=hqs s hs;obtain⟨gB,oB,cB,hf2,hFB,hgB,hcs⟩:=h.wld.at (by omega);obtain⟨v1,v2,v3,v4,sB,i1,i2,i3,i4⟩:=hcs s hlt;have a2:=h.row.cell (j:=2) (by omega);rw[hf2]at a2;have a3:=h.row.cell (j:=4+c*6+3) (by omega);rw[hq]at a3;obtain⟨q0,q1,q2,q3,q4,l1,l2,l3,l4⟩:=sB;obtain⟨E1,e1,rfl,hE1⟩:=l1.form;obtain⟨E2,e2,rfl,hE2⟩:=l2.form;obtain⟨E3,e3,rfl,hE3⟩:=l3.form;obtain⟨E4,e4,rfl,hE4⟩:=l4.form;have hbd:=h.wld.wld.sess.bytes;have hsI:(s:Int)<(m.e.w.ss.length:Int):=by omega
 have HH:=aA h;have hat:=iQ hlt;rw[<-hat]at q0 q1 q2 q3 q4 l1 l2 i1 i2;have HLL:=aA (aJ (aJ l1 i1) (aJ l2 i2));have HT:=aA hT;have HOK:=aA hok;have HSR:=aA hs;have HLT:=aA hlt;have HP1:=aA hp1;have HP2:=aA hp2;have HKP:=aA (show∃k1 k2,m.e.of c=(k1,k2)from⟨_,_,rfl⟩);obtain⟨S,HS⟩: ∃S,Hid (m.e.w.at s=S):=⟨_,aA rfl⟩;rw[HS.out]at q0 q1 q2 q3 q4 HLL;clear h hT hok hs hq hqs hf2 hFB hcs l1 l2 l3 l4 i1 i2 i3 i4 hE1 hE2 hE3 hE4 hat hlt hp1 hp2;obtain⟨n2,HN2⟩: ∃n,Hid (m.e.w.ss.length=n):=⟨_,aA rfl⟩;rw[HN2.out]at a2 hbd hsI;have hsn:s<n2:=by omega
 unfold cC;go_enter Tryz.func122,Tryz.ntmps122;go_wp2_with fail;refine eF 12 (fun wx=>wx.cell? ⟨P,2,none⟩=some (.slice (some ⟨gB,oB,none⟩) n2 cB)/\wx.cell? ⟨P,4+c*6+3,none⟩=some (.int .i64 s)/\wx.cell? ⟨gB,oB+s*5,none⟩=some (.int .i64 S.st)/\wx.cell? ⟨gB,oB+s*5+1,none⟩=some (.slice E1 S.set.length e1)/\wx.cell? ⟨gB,oB+s*5+2,none⟩=some (.slice E2 S.prep.length e2)/\wx.cell? ⟨gB,oB+s*5+3,none⟩=some (.slice E3 S.sav.length e3)/\wx.cell? ⟨gB,oB+s*5+4,none⟩=some (.slice E4 S.wr.length e4)) (by kernel_rfl) (show w.drew.cell? ⟨P,2,none⟩=some (.slice (some ⟨gB,oB,none⟩) n2 cB)/\w.drew.cell? ⟨P,4+c*6+3,none⟩=some (.int .i64 s)/\w.drew.cell? ⟨gB,oB+s*5,none⟩=some (.int .i64 S.st)/\w.drew.cell? ⟨gB,oB+s*5+1,none⟩=some (.slice E1 S.set.length e1)/\w.drew.cell? ⟨gB,oB+s*5+2,none⟩=some (.slice E2 S.prep.length e2)/\w.drew.cell? ⟨gB,oB+s*5+3,none⟩=some (.slice E3 S.sav.length e3)/\w.drew.cell? ⟨gB,oB+s*5+4,none⟩=some (.slice E4 S.wr.length e4)from⟨a2,a3,q0,q1,q2,q3,q4⟩) (fun hS=>?_);refine dF [(0,[]),(1,[]),(2,[]),(3,[]),(4,[]),(5,[]),(6,[]),(7,[]),(8,[]),(9,[]),(10,[])] ?_
 iterate 11
  refine dH (v:=?_) hS ?_ ?_;rotate_left
  ·(intro w hSw;(try dsimp only at hSw);(try simp only[aE,aB,aC]);go_simp;try with_reducible rfl)
  (try simp only[aE,aB,aC,aQ,aH,aG,aF])
 refine dG ?_;refine cK (i:=11) (fun K hK=>?_)
 (try simp only[aE,aB,aC])
 go_simp;have hS2:=(show(w.drew.alloc (.cells #[.int .i64 0,.slice none 0 0,.slice none 0 0,.slice none 0 0,.slice none 0 0] 115)).cell? ⟨P,2,none⟩=some (.slice (some ⟨gB,oB,none⟩) n2 cB)/\(w.drew.alloc (.cells #[.int .i64 0,.slice none 0 0,.slice none 0 0,.slice none 0 0,.slice none 0 0] 115)).cell? ⟨P,4+c*6+3,none⟩=some (.int .i64 s)/\(w.drew.alloc (.cells #[.int .i64 0,.slice none 0 0,.slice none 0 0,.slice none 0 0,.slice none 0 0] 115)).cell? ⟨gB,oB+s*5,none⟩=some (.int .i64 S.st)/\(w.drew.alloc (.cells #[.int .i64 0,.slice none 0 0,.slice none 0 0,.slice none 0 0,.slice none 0 0] 115)).cell? ⟨gB,oB+s*5+1,none⟩=some (.slice E1 S.set.length e1)/\(w.drew.alloc (.cells #[.int .i64 0,.slice none 0 0,.slice none 0 0,.slice none 0 0,.slice none 0 0] 115)).cell? ⟨gB,oB+s*5+2,none⟩=some (.slice E2 S.prep.length e2)/\(w.drew.alloc (.cells #[.int .i64 0,.slice none 0 0,.slice none 0 0,.slice none 0 0,.slice none 0 0] 115)).cell? ⟨gB,oB+s*5+3,none⟩=some (.slice E3 S.sav.length e3)/\(w.drew.alloc (.cells #[.int .i64 0,.slice none 0 0,.slice none 0 0,.slice none 0 0,.slice none 0 0] 115)).cell? ⟨gB,oB+s*5+4,none⟩=some (.slice E4 S.wr.length e4)from⟨((((aD w.heap.size w).drew).alloc (aI _) (.cells #[.int .i64 0,.slice none 0 0,.slice none 0 0,.slice none 0 0,.slice none 0 0] 115)).cell (p:=⟨P,2,none⟩) hP).trans a2,((((aD w.heap.size w).drew).alloc (aI _) (.cells #[.int .i64 0,.slice none 0 0,.slice none 0 0,.slice none 0 0,.slice none 0 0] 115)).cell (p:=⟨P,4+c*6+3,none⟩) hP).trans a3,((((aD w.heap.size w).drew).alloc (aI _) (.cells #[.int .i64 0,.slice none 0 0,.slice none 0 0,.slice none 0 0,.slice none 0 0] 115)).cell (p:=⟨gB,oB+s*5,none⟩) hgB).trans q0,((((aD w.heap.size w).drew).alloc (aI _) (.cells #[.int .i64 0,.slice none 0 0,.slice none 0 0,.slice none 0 0,.slice none 0 0] 115)).cell (p:=⟨gB,oB+s*5+1,none⟩) hgB).trans q1,((((aD w.heap.size w).drew).alloc (aI _) (.cells #[.int .i64 0,.slice none 0 0,.slice none 0 0,.slice none 0 0,.slice none 0 0] 115)).cell (p:=⟨gB,oB+s*5+2,none⟩) hgB).trans q2,((((aD w.heap.size w).drew).alloc (aI _) (.cells #[.int .i64 0,.slice none 0 0,.slice none 0 0,.slice none 0 0,.slice none 0 0] 115)).cell (p:=⟨gB,oB+s*5+3,none⟩) hgB).trans q3,((((aD w.heap.size w).drew).alloc (aI _) (.cells #[.int .i64 0,.slice none 0 0,.slice none 0 0,.slice none 0 0,.slice none 0 0] 115)).cell (p:=⟨gB,oB+s*5+4,none⟩) hgB).trans q4⟩);refine hK.out _ _ hS2 ?_;clear hK K hS;have hS:=hS2;clear hS2
 (try simp only[aE,aB,aC,aQ,aH,aG,aF])
 refine bY (fun K hK=>?_)
 (try simp only[aE,aB,aC])
 go_simp;refine hK.out _ _ ?_;clear hK K
 (try simp only[aE,aB,aC,aQ,aH,aG,aF])
 go_wp2_with fail;have nA:Below w.heap.size w ((w.alloc (.cells #[.int .i64 S.st,.slice E1 S.set.length e1,.slice E2 S.prep.length e2,.slice E3 S.sav.length e3,.slice E4 S.wr.length e4] 115)).drew):=((aD w.heap.size w).alloc (aI _) (.cells #[.int .i64 S.st,.slice E1 S.set.length e1,.slice E2 S.prep.length e2,.slice E3 S.sav.length e3,.slice E4 S.wr.length e4] 115)).drew;have HX:=aA (show RowTo ((w.alloc (.cells #[.int .i64 S.st,.slice E1 S.set.length e1,.slice E2 S.prep.length e2,.slice E3 S.sav.length e3,.slice E4 S.wr.length e4] 115)).drew) w.heap.size 115 5 [.int .i64 S.st,.slice E1 S.set.length e1,.slice E2 S.prep.length e2,.slice E3 S.sav.length e3,.slice E4 S.wr.length e4]from RowTo.whole w #[.int .i64 S.st,.slice E1 S.set.length e1,.slice E2 S.prep.length e2,.slice E3 S.sav.length e3,.slice E4 S.wr.length e4] 115);have hM1:=HH.out.plus nA (X:=w.heap.size) (aI _) (by simp[World.drew]);have HLA:=aA (aJ (aJ (HLL.out.1.1.step' nA) ((gM HLL.out.1.1 HLL.out.1.2).mono (Q:=cX (aL G 16 (some w.heap.size))) (fun b hb=>pA hb.1 (by have:=hb.2;omega)))) (aJ (HLL.out.2.1.step' nA) ((gM HLL.out.2.1 HLL.out.2.2).mono (Q:=cX (aL G 16 (some w.heap.size))) (fun b hb=>pA hb.1 (by have:=hb.2;omega)))));have HBA:=aA (nA.mono (bL hbP (dM hP)));have hXl:w.heap.size<((w.alloc (.cells #[.int .i64 S.st,.slice E1 S.set.length e1,.slice E2 S.prep.length e2,.slice E3 S.sav.length e3,.slice E4 S.wr.length e4] 115)).drew).heap.size:=by simp[World.drew]
 have hPX:P≠w.heap.size:=by omega
 have hbX:base<=w.heap.size:=by omega
 have HPU:=aA hP;clear hS;obtain⟨W1,HW1⟩: ∃u,Hid ((w.alloc (.cells #[.int .i64 S.st,.slice E1 S.set.length e1,.slice E2 S.prep.length e2,.slice E3 S.sav.length e3,.slice E4 S.wr.length e4] 115)).drew=u):=⟨_,aA rfl⟩;rw[HW1.out]at HX hM1 HLA HBA hXl ⊢;clear HW1 nA HH HLL a2 a3 q0 q1 q2 q3 q4 hgB hbd hsI;generalize w.heap.size=X at*;skip;obtain⟨K1,g1,hk1,_⟩:=(hM1.set c hc).1.form;obtain⟨K2,g2,hk2,_⟩:=(hM1.prep c hc).1.form;have HKL:=aA (aJ (hM1.set c hc) (hM1.prep c hc));rw[hk1,hk2]at HKL;have p3:=hM1.row.cell (j:=4+c*6+3) (by omega);obtain⟨q,hq,hqs⟩:=hM1.srv c hc;obtain rfl:=hqs s HSR.out;rw[hq]at p3;have p4:=hM1.row.cell (j:=4+c*6+4) (by omega);rw[hk1]at p4;have p5:=hM1.row.cell (j:=4+c*6+5) (by omega);rw[hk2]at p5;have t1:=HX.out.cell (j:=1) (by simp);have t2:=HX.out.cell (j:=2) (by simp);simp only[aB,aC]at t1 t2;have hP1:=hM1.row.lt;have HM1:=aA hM1;have HWA:=aA (fun(wc:World) (hwc:Below W1.heap.size W1 wc)=>mV _ _ S.set (m.e.of c).1 wc (HLA.out.1.1.step' hwc) (HKL.out.1.1.step' hwc));have HWB:=aA (fun(wc:World) (hwc:Below W1.heap.size W1 wc)=>mV _ _ S.prep (m.e.of c).2 wc (HLA.out.2.1.step' hwc) (HKL.out.2.1.step' hwc));clear hM1 hk1 hk2 hq hqs
 by_cases hA0:(eE S.set (m.e.of c).1).length=0
 ·by_cases hB0:(eE S.prep (m.e.of c).2).length=0
  ·as_aux_lemma=>
    have hA:=hA0;have hB:=hB0;have HOR:=aA (show¬((eE S.set (m.e.of c).1).length>0\/(eE S.prep (m.e.of c).2).length>0) by omega);refine eF 19 (fun wx=>wx.cell? ⟨X,1,none⟩=some (.slice E1 S.set.length e1)/\wx.cell? ⟨X,2,none⟩=some (.slice E2 S.prep.length e2)/\wx.cell? ⟨P,4+c*6+4,none⟩=some (.slice K1 (m.e.of c).1.length g1)/\wx.cell? ⟨P,4+c*6+5,none⟩=some (.slice K2 (m.e.of c).2.length g2)) (by kernel_rfl) (show W1.drew.cell? ⟨X,1,none⟩=some (.slice E1 S.set.length e1)/\W1.drew.cell? ⟨X,2,none⟩=some (.slice E2 S.prep.length e2)/\W1.drew.cell? ⟨P,4+c*6+4,none⟩=some (.slice K1 (m.e.of c).1.length g1)/\W1.drew.cell? ⟨P,4+c*6+5,none⟩=some (.slice K2 (m.e.of c).2.length g2)from⟨t1,t2,p4,p5⟩) (fun hS=>?_);refine dF [(0,[1,6,9]),(1,[6,9]),(2,[3,4,5,6,9]),(3,[4,5,6,9]),(4,[5,6,9]),(5,[6,9])] ?_
    iterate 6
     refine dH (v:=?_) hS ?_ ?_;rotate_left
     ·(intro w hSw;(try dsimp only at hSw);(try simp only[aE,aB,aC]);go_simp;try with_reducible rfl)
     (try simp only[aE,aB,aC,aQ,aH,aG,aF])
    refine dG ?_;refine cK (i:=6) (fun K hK=>?_)
    (try simp only[aE,aB,aC])
    go_simp;refine(HWA.out _ (aD _ _).drew).mono ?_;rintro e w3 ⟨u3,rfl,hlu,hiu,hb3⟩;obtain⟨Au,cu,hu,_⟩:=hlu.form;rw[hA]at hu;subst hu;have kb:=aR (aD W1.heap.size W1).drew hb3 (aI _);clear hb3 hlu hiu;go_simp;have hS2:=(show w3.cell? ⟨X,1,none⟩=some (.slice E1 S.set.length e1)/\w3.cell? ⟨X,2,none⟩=some (.slice E2 S.prep.length e2)/\w3.cell? ⟨P,4+c*6+4,none⟩=some (.slice K1 (m.e.of c).1.length g1)/\w3.cell? ⟨P,4+c*6+5,none⟩=some (.slice K2 (m.e.of c).2.length g2)from⟨(kb.cell (p:=⟨X,1,none⟩) hXl).trans t1,(kb.cell (p:=⟨X,2,none⟩) hXl).trans t2,(kb.cell (p:=⟨P,4+c*6+4,none⟩) hP1).trans p4,(kb.cell (p:=⟨P,4+c*6+5,none⟩) hP1).trans p5⟩);refine hK.out _ _ hS2 ?_;clear hK K hS;have hS:=hS2;clear hS2
    (try simp only[aE,aB,aC,aQ,aH,aG,aF])
    refine dF [(7,[8,9]),(8,[9]),(9,[]),(10,[11,16,17,18]),(11,[16,17,18]),(12,[13,14,15,16,17,18]),(13,[14,15,16,17,18]),(14,[15,16,17,18]),(15,[16,17,18])] ?_
    iterate 9
     refine dH (v:=?_) hS ?_ ?_;rotate_left
     ·(intro w hSw;(try dsimp only at hSw);(try simp only[aE,aB,aC]);go_simp;try with_reducible rfl)
     (try simp only[aE,aB,aC,aQ,aH,aG,aF])
    refine dG ?_;refine yO (i:=16) rfl rfl (by kernel_rfl) (fun K hK=>?_)
    (try simp only[aE,aB,aC])
    go_simp;refine(HWB.out _ kb).mono ?_;rintro e w4 ⟨u4,rfl,hlu,hiu,hb4⟩;obtain⟨Av,cv,hu,_⟩:=hlu.form;rw[hB]at hu;subst hu;have kb4:=aR kb hb4 kb.size;clear hb4 hlu hiu;go_simp;have hS2:=(show w4.cell? ⟨X,1,none⟩=some (.slice E1 S.set.length e1)/\w4.cell? ⟨X,2,none⟩=some (.slice E2 S.prep.length e2)/\w4.cell? ⟨P,4+c*6+4,none⟩=some (.slice K1 (m.e.of c).1.length g1)/\w4.cell? ⟨P,4+c*6+5,none⟩=some (.slice K2 (m.e.of c).2.length g2)from⟨(kb4.cell (p:=⟨X,1,none⟩) hXl).trans t1,(kb4.cell (p:=⟨X,2,none⟩) hXl).trans t2,(kb4.cell (p:=⟨P,4+c*6+4,none⟩) hP1).trans p4,(kb4.cell (p:=⟨P,4+c*6+5,none⟩) hP1).trans p5⟩);refine hK.out _ _ hS2 ?_;clear hK K hS;have hS:=hS2;clear hS2
    (try simp only[aE,aB,aC,aQ,aH,aG,aF])
    refine dF [(17,[18]),(18,[])] ?_
    iterate 2
     refine dH (v:=?_) hS ?_ ?_;rotate_left
     ·(intro w hSw;(try dsimp only at hSw);(try simp only[aE,aB,aC]);go_simp;try with_reducible rfl)
     (try simp only[aE,aB,aC,aQ,aH,aG,aF])
    refine dG ?_;refine bY (fun K hK=>?_)
    (try simp only[aE,aB,aC])
    go_simp;refine hK.out _ _ ?_;clear hK K
    (try simp only[aE,aB,aC,aQ,aH,aG,aF])
    clear hS;have KB:=aA kb4;have hz3:=kb4.size;clear kb kb4;have hMT:=HM1.out.below KB.out;have hBT:=HBA.out.trans (KB.out.mono (show base<=W1.heap.size by omega));have hTT:=HT.out.below hBT;have hlT1:=iX HLA.out.1 KB.out.size (fun b _ hb=>KB.out.block b hb);have hlT2:=iX HLA.out.2 KB.out.size (fun b _ hb=>KB.out.block b hb);have xr:=HX.out.below KB.out hXl;clear t1 t2 p3 p4 p5 HWA HWB HX KB HM1 HLA HKL;obtain⟨WT,HWT⟩: ∃u,Hid (w4=u):=⟨_,aA rfl⟩;rw[HWT.out]at hMT hBT hTT hlT1 hlT2 xr ⊢;clear HWT;have HTT:=HS;have HOK5:=HOK;have HL5:=HLT;obtain⟨K1,g1,hk1,_⟩:=(hMT.set c hc).1.form;have hkl:=hMT.set c hc;rw[hk1]at hkl;have p3:=hMT.row.cell (j:=4+c*6+3) (by omega);obtain⟨q,hq,hqs⟩:=hMT.srv c hc;obtain rfl:=hqs s HSR.out;rw[hq]at p3;have p4:=hMT.row.cell (j:=4+c*6+4) (by omega);rw[hk1]at p4;have t1:=xr.cell (j:=1) (by simp);have t2:=xr.cell (j:=2) (by simp);simp only[aB,aC]at t1 t2;have hXT:=xr.lt;have hPT:=hMT.row.lt;have HMT:=aA hMT;have HTTb:=aA hTT;have HBT:=aA hBT;have HL1:=aA hlT1;have HL2:=aA hlT2;have HT2:=aA t2;have HWA:=aA (fun(wc:World) (hwc:Below WT.heap.size WT wc)=>mV _ _ (m.e.of c).1 S.set wc (hkl.1.step' hwc) (hlT1.1.step' hwc));clear hMT hTT hBT hlT1 hlT2 hkl hq hqs xr hk1 t2;go_wp2_with fail;refine eF 12 (fun wx=>wx.cell? ⟨P,4+c*6+3,none⟩=some (.int .i64 s)/\wx.cell? ⟨P,4+c*6+4,none⟩=some (.slice K1 (m.e.of c).1.length g1)/\wx.cell? ⟨X,1,none⟩=some (.slice E1 S.set.length e1)) (by kernel_rfl) (show WT.drew.cell? ⟨P,4+c*6+3,none⟩=some (.int .i64 s)/\WT.drew.cell? ⟨P,4+c*6+4,none⟩=some (.slice K1 (m.e.of c).1.length g1)/\WT.drew.cell? ⟨X,1,none⟩=some (.slice E1 S.set.length e1)from⟨p3,p4,t1⟩) (fun hS=>?_);refine dF [(0,[]),(1,[2,3,4]),(2,[3,4]),(3,[4]),(4,[]),(5,[6,7,8,11]),(6,[7,8,11]),(7,[8,11]),(8,[11]),(9,[10,11]),(10,[11])] ?_
    iterate 11
     refine dH (v:=?_) hS ?_ ?_;rotate_left
     ·(intro w hSw;(try dsimp only at hSw);(try simp only[aE,aB,aC]);go_simp;try with_reducible rfl)
     (try simp only[aE,aB,aC,aQ,aH,aG,aF])
    refine dG ?_;refine cK (i:=11) (fun K hK=>?_)
    (try simp only[aE,aB,aC])
    go_simp;refine(HWA.out _ (aD _ _).drew).mono ?_;rintro e w7 ⟨u7,rfl,hlu,hiu,hb7⟩;obtain⟨Au,cu,hu,_⟩:=hlu.form;have kb:=aR (aD WT.heap.size WT).drew hb7 (aI _);have HU:=aA (aJ hlu (hiu.mono (Q:=fun b=>b≠P) (fun b hb=>by have:WT.heap.size<=b:=hb;omega)));subst hu;clear hb7 hlu hiu;go_simp;have hS2:=(show w7.cell? ⟨P,4+c*6+3,none⟩=some (.int .i64 s)/\w7.cell? ⟨P,4+c*6+4,none⟩=some (.slice K1 (m.e.of c).1.length g1)/\w7.cell? ⟨X,1,none⟩=some (.slice E1 S.set.length e1)from⟨(kb.cell (p:=⟨P,4+c*6+3,none⟩) hPT).trans p3,(kb.cell (p:=⟨P,4+c*6+4,none⟩) hPT).trans p4,(kb.cell (p:=⟨X,1,none⟩) hXT).trans t1⟩);refine hK.out _ _ hS2 ?_;clear hK K hS;have hS:=hS2;clear hS2
    (try simp only[aE,aB,aC,aQ,aH,aG,aF])
    refine bY (fun K hK=>?_)
    (try simp only[aE,aB,aC])
    go_simp;refine(pF w7 (HMT.out.below kb) (HTTb.out.below (kb.mono (by omega))) HOK5.out s HL5.out 9 _ _ HU.out.1 HU.out.2 (fun q hq=>HP1.out q (jP.1 hq).1)).mono ?_;rintro e w8 ⟨⟨f8,rfl,hM8⟩,hW8,hn8,hB8,hO8⟩;go_simp;refine hK.out _ _ ?_;clear hK K
    (try simp only[aE,aB,aC,aQ,aH,aG,aF])
    clear hS;have hT8:=HTTb.out.below ((kb.mono (by omega)).trans hB8);have hB8':=HBT.out.trans ((kb.mono (by omega)).trans hB8);have hO8':=(Only.below (P:=P) kb).trans hO8;have x2:=(aV (a:=⟨X,2,none⟩) (hO8'.2 X hXT (Ne.symm hPX))).trans HT2.out;have hX8:X<w8.heap.size:=bD hXT hO8'.1;have hl8:=hO8'.lst HL2.out.1 (HL2.out.2.mono (fun b hb e=>hb 0 (by rw[e];exact HMT.out.p0)));obtain⟨K2,g2,hk2,_⟩:=(hM8.prep c hc).1.form;have hkl:=hM8.prep c hc;rw[hk2]at hkl;have p3:=hM8.row.cell (j:=4+c*6+3) (by omega);obtain⟨q,hq,hqs⟩:=hM8.srv c hc;obtain rfl:=hqs s HSR.out;rw[hq]at p3;have p5:=hM8.row.cell (j:=4+c*6+5) (by omega);rw[hk2]at p5;have hP8:=hM8.row.lt;have HM8:=aA hM8;have HT8:=aA hT8;have HB8:=aA hB8';have HW8:=aA hW8;have HN8:=aA hn8;have HWB:=aA (fun(wc:World) (hwc:Below w8.heap.size w8 wc)=>mV _ _ (m.e.of c).2 S.prep wc (hkl.1.step' hwc) (hl8.step' hwc));clear kb hM8 hT8 hB8 hB8' hO8 hO8' hW8 hn8 hkl hl8 hq hqs hk2 HMT HTTb HBT HL1 HL2 HT2 HWA HU t1 p4 hPT hXT;go_wp2_with fail;refine eF 12 (fun wx=>wx.cell? ⟨P,4+c*6+3,none⟩=some (.int .i64 s)/\wx.cell? ⟨P,4+c*6+5,none⟩=some (.slice K2 (m.e.of c).2.length g2)/\wx.cell? ⟨X,2,none⟩=some (.slice E2 S.prep.length e2)) (by kernel_rfl) (show w8.drew.cell? ⟨P,4+c*6+3,none⟩=some (.int .i64 s)/\w8.drew.cell? ⟨P,4+c*6+5,none⟩=some (.slice K2 (m.e.of c).2.length g2)/\w8.drew.cell? ⟨X,2,none⟩=some (.slice E2 S.prep.length e2)from⟨p3,p5,x2⟩) (fun hS=>?_);refine dF [(0,[]),(1,[2,3,4]),(2,[3,4]),(3,[4]),(4,[]),(5,[6,7,8,11]),(6,[7,8,11]),(7,[8,11]),(8,[11]),(9,[10,11]),(10,[11])] ?_
    iterate 11
     refine dH (v:=?_) hS ?_ ?_;rotate_left
     ·(intro w hSw;(try dsimp only at hSw);(try simp only[aE,aB,aC]);go_simp;try with_reducible rfl)
     (try simp only[aE,aB,aC,aQ,aH,aG,aF])
    refine dG ?_;refine cK (i:=11) (fun K hK=>?_)
    (try simp only[aE,aB,aC])
    go_simp;refine(HWB.out _ (aD _ _).drew).mono ?_;rintro e w9 ⟨u9,rfl,hlu,hiu,hb9⟩;obtain⟨Au,cu,hu,_⟩:=hlu.form;have kb:=aR (aD w8.heap.size w8).drew hb9 (aI _);have HU:=aA (aJ hlu (hiu.mono (Q:=fun b=>b≠P) (fun b hb=>by have:w8.heap.size<=b:=hb;omega)));subst hu;clear hb9 hlu hiu;go_simp;have hS2:=(show w9.cell? ⟨P,4+c*6+3,none⟩=some (.int .i64 s)/\w9.cell? ⟨P,4+c*6+5,none⟩=some (.slice K2 (m.e.of c).2.length g2)/\w9.cell? ⟨X,2,none⟩=some (.slice E2 S.prep.length e2)from⟨(kb.cell (p:=⟨P,4+c*6+3,none⟩) hP8).trans p3,(kb.cell (p:=⟨P,4+c*6+5,none⟩) hP8).trans p5,(kb.cell (p:=⟨X,2,none⟩) hX8).trans x2⟩);refine hK.out _ _ hS2 ?_;clear hK K hS;have hS:=hS2;clear hS2
    (try simp only[aE,aB,aC,aQ,aH,aG,aF])
    refine bY (fun K hK=>?_)
    (try simp only[aE,aB,aC])
    go_simp;refine(pF w9 (HM8.out.below kb) (HT8.out.below (kb.mono (by omega))) HW8.out s (by show s<(eR m.e.w s 9 _).ss.length;rw[HN8.out];exact HL5.out) 11 _ _ HU.out.1 HU.out.2 (fun q hq=>HP2.out q (jP.1 hq).1)).mono ?_;rintro e wA ⟨⟨fA,rfl,hMA⟩,_,_,hBA,hOA⟩;go_simp;refine hK.out _ _ ?_;clear hK K
    (try simp only[aE,aB,aC,aQ,aH,aG,aF])
    have HRW:jV m.e.w s (m.e.of c)=eR (eR m.e.w s 9 (eE (m.e.of c).1 S.set)) s 11 (eE (m.e.of c).2 S.prep):=by
     unfold jV;simp only[HS.out];rw[if_neg HOR.out,HS.out]
    clear hS;have HFF:=aA (aJ hMA (HB8.out.trans ((kb.mono (by omega)).trans hBA)));clear hMA hBA hOA kb HM8 HT8 HB8 HW8 HN8 HWB HU p3 p5 x2;go_wp2;go_end0
    try rw[HRW]
    exact⟨_,_,rfl,HFF.out.1,HFF.out.2⟩
  ·as_aux_lemma=>
    have hA:=hA0;obtain⟨nB,hB⟩: ∃n,(eE S.prep (m.e.of c).2).length=n:=⟨_,rfl⟩;have hpos:0<nB:=(by omega);have hd:decide (0<(nB:Int))=true:=cF (by omega);have HOR:=aA (show(eE S.set (m.e.of c).1).length>0\/(eE S.prep (m.e.of c).2).length>0 by omega);refine eF 19 (fun wx=>wx.cell? ⟨X,1,none⟩=some (.slice E1 S.set.length e1)/\wx.cell? ⟨X,2,none⟩=some (.slice E2 S.prep.length e2)/\wx.cell? ⟨P,4+c*6+4,none⟩=some (.slice K1 (m.e.of c).1.length g1)/\wx.cell? ⟨P,4+c*6+5,none⟩=some (.slice K2 (m.e.of c).2.length g2)) (by kernel_rfl) (show W1.drew.cell? ⟨X,1,none⟩=some (.slice E1 S.set.length e1)/\W1.drew.cell? ⟨X,2,none⟩=some (.slice E2 S.prep.length e2)/\W1.drew.cell? ⟨P,4+c*6+4,none⟩=some (.slice K1 (m.e.of c).1.length g1)/\W1.drew.cell? ⟨P,4+c*6+5,none⟩=some (.slice K2 (m.e.of c).2.length g2)from⟨t1,t2,p4,p5⟩) (fun hS=>?_);refine dF [(0,[1,6,9]),(1,[6,9]),(2,[3,4,5,6,9]),(3,[4,5,6,9]),(4,[5,6,9]),(5,[6,9])] ?_
    iterate 6
     refine dH (v:=?_) hS ?_ ?_;rotate_left
     ·(intro w hSw;(try dsimp only at hSw);(try simp only[aE,aB,aC]);go_simp;try with_reducible rfl)
     (try simp only[aE,aB,aC,aQ,aH,aG,aF])
    refine dG ?_;refine cK (i:=6) (fun K hK=>?_)
    (try simp only[aE,aB,aC])
    go_simp;refine(HWA.out _ (aD _ _).drew).mono ?_;rintro e w3 ⟨u3,rfl,hlu,hiu,hb3⟩;obtain⟨Au,cu,hu,_⟩:=hlu.form;rw[hA]at hu;subst hu;have kb:=aR (aD W1.heap.size W1).drew hb3 (aI _);clear hb3 hlu hiu;go_simp;have hS2:=(show w3.cell? ⟨X,1,none⟩=some (.slice E1 S.set.length e1)/\w3.cell? ⟨X,2,none⟩=some (.slice E2 S.prep.length e2)/\w3.cell? ⟨P,4+c*6+4,none⟩=some (.slice K1 (m.e.of c).1.length g1)/\w3.cell? ⟨P,4+c*6+5,none⟩=some (.slice K2 (m.e.of c).2.length g2)from⟨(kb.cell (p:=⟨X,1,none⟩) hXl).trans t1,(kb.cell (p:=⟨X,2,none⟩) hXl).trans t2,(kb.cell (p:=⟨P,4+c*6+4,none⟩) hP1).trans p4,(kb.cell (p:=⟨P,4+c*6+5,none⟩) hP1).trans p5⟩);refine hK.out _ _ hS2 ?_;clear hK K hS;have hS:=hS2;clear hS2
    (try simp only[aE,aB,aC,aQ,aH,aG,aF])
    refine dF [(7,[8,9]),(8,[9]),(9,[]),(10,[11,16,17,18]),(11,[16,17,18]),(12,[13,14,15,16,17,18]),(13,[14,15,16,17,18]),(14,[15,16,17,18]),(15,[16,17,18])] ?_
    iterate 9
     refine dH (v:=?_) hS ?_ ?_;rotate_left
     ·(intro w hSw;(try dsimp only at hSw);(try simp only[aE,aB,aC]);go_simp;try with_reducible rfl)
     (try simp only[aE,aB,aC,aQ,aH,aG,aF])
    refine dG ?_;refine yO (i:=16) rfl rfl (by kernel_rfl) (fun K hK=>?_)
    (try simp only[aE,aB,aC])
    go_simp;refine(HWB.out _ kb).mono ?_;rintro e w4 ⟨u4,rfl,hlu,hiu,hb4⟩;obtain⟨Av,cv,hu,_⟩:=hlu.form;rw[hB]at hu;subst hu;have kb4:=aR kb hb4 kb.size;clear hb4 hlu hiu;go_simp;have hS2:=(show w4.cell? ⟨X,1,none⟩=some (.slice E1 S.set.length e1)/\w4.cell? ⟨X,2,none⟩=some (.slice E2 S.prep.length e2)/\w4.cell? ⟨P,4+c*6+4,none⟩=some (.slice K1 (m.e.of c).1.length g1)/\w4.cell? ⟨P,4+c*6+5,none⟩=some (.slice K2 (m.e.of c).2.length g2)from⟨(kb4.cell (p:=⟨X,1,none⟩) hXl).trans t1,(kb4.cell (p:=⟨X,2,none⟩) hXl).trans t2,(kb4.cell (p:=⟨P,4+c*6+4,none⟩) hP1).trans p4,(kb4.cell (p:=⟨P,4+c*6+5,none⟩) hP1).trans p5⟩);refine hK.out _ _ hS2 ?_;clear hK K hS;have hS:=hS2;clear hS2
    (try simp only[aE,aB,aC,aQ,aH,aG,aF])
    refine dF [(17,[18]),(18,[])] ?_
    iterate 2
     refine dH (v:=?_) hS ?_ ?_;rotate_left
     ·(intro w hSw;(try dsimp only at hSw);(try simp only[aE,aB,aC]);go_simp;try with_reducible rfl)
     (try simp only[aE,aB,aC,aQ,aH,aG,aF])
    refine dG ?_;refine bY (fun K hK=>?_)
    (try simp only[aE,aB,aC])
    go_simp;refine hK.out _ _ ?_;clear hK K
    (try simp only[aE,aB,aC,aQ,aH,aG,aF])
    clear hS;have KB:=aA kb4;have hz3:=kb4.size;clear kb kb4;have b3:=(KB.out.cell (p:=⟨P,4+c*6+3,none⟩) hP1).trans p3;have hPw:P<w4.heap.size:=(by omega);have HMw:=aA (HM1.out.below KB.out);have HTw:=aA (HT.out.below (HBA.out.trans (KB.out.mono (by omega))));have HXw:=aA (HX.out.below KB.out hXl);have hXw:X<w4.heap.size:=(by omega);have HBw:=aA (HBA.out.trans (KB.out.mono (by omega)));clear t1 t2 p3 p4 p5 HWA HWB HX KB HM1 HLA HKL;go_wp2_with fail;refine(pE w4 HMw.out HTw.out HOK.out s HLT.out ⟨4,⟨#[]⟩,⟨#[]⟩⟩ (qT (by decide) (by decide))).mono ?_;rintro e w5 ⟨f5,rfl,hM5,hB5,hO5⟩;have hX5:=HXw.out.same (hO5.2 X hXw (Ne.symm hPX));have HB5:=aA (HBw.out.trans hB5);have HT5:=aA (HTw.out.below hB5);have hz5:=hO5.1;have hok5:=mW HOK.out HLT.out (r:=⟨4,⟨#[]⟩,⟨#[]⟩⟩) (qT (by decide) (by decide));clear hB5 hO5 HMw HTw HXw HBw b3;generalize hW:(fL m.e.w s ⟨4,⟨#[]⟩,⟨#[]⟩⟩).1=V at*;have HV:=aA hW;clear hW;have hl5:s<V.ss.length:=(by rw[hok5.2];exact HLT.out);have HL5:=aA hl5;have HOK5:=aA hok5.1;have hsI:(s:Int)<(V.ss.length:Int):=(by omega);obtain⟨gB,oB,cB,hf2,hFB,hgB,hcs⟩:=hM5.wld.at (show 0<V.ss.length by omega);obtain⟨v1,v2,v3,v4,sB,i1,i2,i3,i4⟩:=hcs s hl5;have a2:=hM5.row.cell (j:=2) (by omega);rw[hf2]at a2;have a3:=hM5.row.cell (j:=4+c*6+3) (by omega);obtain⟨q,hq,hqs⟩:=hM5.srv c hc;obtain rfl:=hqs s HSR.out;rw[hq]at a3;obtain⟨q0,q1,q2,q3,q4,l1,l2,l3,l4⟩:=sB;obtain⟨F1,f1,rfl,hE1⟩:=l1.form;obtain⟨F2,f2,rfl,hE2⟩:=l2.form;obtain⟨F3,f3,rfl,hE3⟩:=l3.form;obtain⟨F4,f4,rfl,hE4⟩:=l4.form;have hbd:=hM5.wld.wld.sess.bytes;have hat:=iQ hl5;simp only[<-hat]at q0 q1 q2 q3 q4 l1 l2 i1 i2;have HLL:=aA (aJ (aJ l1 i1) (aJ l2 i2));obtain⟨T,HTT⟩: ∃T,Hid (V.at s=T):=⟨_,aA rfl⟩;simp only[HTT.out]at q0 q1 q2 q3 q4 HLL;have HM5:=aA hM5;have hP5:=hM5.row.lt;have hgX:gB≠X:=fun e=>hFB 16 (by unfold aL;rw[if_pos rfl,e])
    have HXX:=aA hX5;have hX5l:=hX5.lt;have y0:=hX5.cell (j:=0) (by simp);have y1:=hX5.cell (j:=1) (by simp);have y2:=hX5.cell (j:=2) (by simp);have y3:=hX5.cell (j:=3) (by simp);have y4:=hX5.cell (j:=4) (by simp);simp only[aB,aC]at y0 y1 y2 y3 y4;have z0:=hX5.frozen 0;have z1:=hX5.frozen 1;have z2:=hX5.frozen 2;have z3:=hX5.frozen 3;have z4:=hX5.frozen 4;clear hM5 hok5 hf2 hFB hcs l1 l2 l3 l4 i1 i2 i3 i4 hE1 hE2 hE3 hE4 hat hq hqs hX5;obtain⟨n5,HN5⟩: ∃n,Hid (V.ss.length=n):=⟨_,aA rfl⟩;rw[HN5.out]at a2 hbd hsI hl5;go_wp2_with fail;refine eF 11 (fun wx=>wx.cell? ⟨P,2,none⟩=some (.slice (some ⟨gB,oB,none⟩) n5 cB)/\wx.cell? ⟨P,4+c*6+3,none⟩=some (.int .i64 s)/\wx.cell? ⟨gB,oB+s*5,none⟩=some (.int .i64 T.st)/\wx.cell? ⟨gB,oB+s*5+1,none⟩=some (.slice F1 T.set.length f1)/\wx.cell? ⟨gB,oB+s*5+2,none⟩=some (.slice F2 T.prep.length f2)/\wx.cell? ⟨gB,oB+s*5+3,none⟩=some (.slice F3 T.sav.length f3)/\wx.cell? ⟨gB,oB+s*5+4,none⟩=some (.slice F4 T.wr.length f4)) (by kernel_rfl) (show w5.drew.cell? ⟨P,2,none⟩=some (.slice (some ⟨gB,oB,none⟩) n5 cB)/\w5.drew.cell? ⟨P,4+c*6+3,none⟩=some (.int .i64 s)/\w5.drew.cell? ⟨gB,oB+s*5,none⟩=some (.int .i64 T.st)/\w5.drew.cell? ⟨gB,oB+s*5+1,none⟩=some (.slice F1 T.set.length f1)/\w5.drew.cell? ⟨gB,oB+s*5+2,none⟩=some (.slice F2 T.prep.length f2)/\w5.drew.cell? ⟨gB,oB+s*5+3,none⟩=some (.slice F3 T.sav.length f3)/\w5.drew.cell? ⟨gB,oB+s*5+4,none⟩=some (.slice F4 T.wr.length f4)from⟨a2,a3,q0,q1,q2,q3,q4⟩) (fun hS=>?_);refine dF [(0,[]),(1,[]),(2,[]),(3,[]),(4,[]),(5,[]),(6,[]),(7,[]),(8,[]),(9,[]),(10,[])] ?_
    iterate 11
     refine dH (v:=?_) hS ?_ ?_;rotate_left
     ·(intro w hSw;(try dsimp only at hSw);(try simp only[aE,aB,aC]);go_simp;try with_reducible rfl)
     (try simp only[aE,aB,aC,aQ,aH,aG,aF])
    refine dG ?_;refine bY (fun K hK=>?_)
    (try simp only[aE,aB,aC])
    go_simp;refine hK.out _ _ ?_;clear hK K
    (try simp only[aE,aB,aC,aQ,aH,aG,aF])
    clear hS;have hMT:=(HM5.out.five (.int .i64 T.st) (.slice F1 T.set.length f1) (.slice F2 T.prep.length f2) (.slice F3 T.sav.length f3) (.slice F4 T.wr.length f4)).below (aD _ _).drew
    have hkk: ∀b,b≠X->(((((w5.setCell ⟨X,0,none⟩ (.int .i64 T.st)).setCell ⟨X,1,none⟩ (.slice F1 T.set.length f1)).setCell ⟨X,2,none⟩ (.slice F2 T.prep.length f2)).setCell ⟨X,3,none⟩ (.slice F3 T.sav.length f3)).setCell ⟨X,4,none⟩ (.slice F4 T.wr.length f4)).drew.heap[b]? =w5.heap[b]? :=fun b hb=>by
     show(((((w5.setCell ⟨X,0,none⟩ (.int .i64 T.st)).setCell ⟨X,1,none⟩ (.slice F1 T.set.length f1)).setCell ⟨X,2,none⟩ (.slice F2 T.prep.length f2)).setCell ⟨X,3,none⟩ (.slice F3 T.sav.length f3)).setCell ⟨X,4,none⟩ (.slice F4 T.wr.length f4)).heap[b]? =_;rw[bF _ _ _ _ hb,bF _ _ _ _ hb,bF _ _ _ _ hb,bF _ _ _ _ hb,bF _ _ _ _ hb]
    have hzz:(((((w5.setCell ⟨X,0,none⟩ (.int .i64 T.st)).setCell ⟨X,1,none⟩ (.slice F1 T.set.length f1)).setCell ⟨X,2,none⟩ (.slice F2 T.prep.length f2)).setCell ⟨X,3,none⟩ (.slice F3 T.sav.length f3)).setCell ⟨X,4,none⟩ (.slice F4 T.wr.length f4)).drew.heap.size=w5.heap.size:=by simp[cE,World.drew]
    have hBT:Below base w (((((w5.setCell ⟨X,0,none⟩ (.int .i64 T.st)).setCell ⟨X,1,none⟩ (.slice F1 T.set.length f1)).setCell ⟨X,2,none⟩ (.slice F2 T.prep.length f2)).setCell ⟨X,3,none⟩ (.slice F3 T.sav.length f3)).setCell ⟨X,4,none⟩ (.slice F4 T.wr.length f4)).drew:=by
     have h0:=HB5.out;exact((((((h0.setCell (p:=⟨X,0,none⟩) hbX (.int .i64 T.st)).setCell (p:=⟨X,1,none⟩) hbX (.slice F1 T.set.length f1)).setCell (p:=⟨X,2,none⟩) hbX (.slice F2 T.prep.length f2)).setCell (p:=⟨X,3,none⟩) hbX (.slice F3 T.sav.length f3)).setCell (p:=⟨X,4,none⟩) hbX (.slice F4 T.wr.length f4))).drew
    have hTT:=HT5.out.below (show Below base w5 (((((w5.setCell ⟨X,0,none⟩ (.int .i64 T.st)).setCell ⟨X,1,none⟩ (.slice F1 T.set.length f1)).setCell ⟨X,2,none⟩ (.slice F2 T.prep.length f2)).setCell ⟨X,3,none⟩ (.slice F3 T.sav.length f3)).setCell ⟨X,4,none⟩ (.slice F4 T.wr.length f4)).drew from(((((((aD base w5).setCell (p:=⟨X,0,none⟩) hbX (.int .i64 T.st)).setCell (p:=⟨X,1,none⟩) hbX (.slice F1 T.set.length f1)).setCell (p:=⟨X,2,none⟩) hbX (.slice F2 T.prep.length f2)).setCell (p:=⟨X,3,none⟩) hbX (.slice F3 T.sav.length f3)).setCell (p:=⟨X,4,none⟩) hbX (.slice F4 T.wr.length f4))).drew);have hlT1:=iX HLL.out.1 (Nat.le_of_eq hzz.symm) (fun b hb _=>hkk b (fun e=>hb 16 (by unfold aL;rw[if_pos rfl,e])));have hlT2:=iX HLL.out.2 (Nat.le_of_eq hzz.symm) (fun b hb _=>hkk b (fun e=>hb 16 (by unfold aL;rw[if_pos rfl,e])));have xr:=(HXX.out.put (j:=0) (by simp) (.int .i64 T.st));have xr:=(xr.put (j:=1) (by simp) (.slice F1 T.set.length f1));have xr:=(xr.put (j:=2) (by simp) (.slice F2 T.prep.length f2));have xr:=(xr.put (j:=3) (by simp) (.slice F3 T.sav.length f3));have xr:=(xr.put (j:=4) (by simp) (.slice F4 T.wr.length f4));have xr:=xr.drew;simp only[aG,aF]at xr;obtain⟨WT,HWT⟩: ∃u,Hid ((((((w5.setCell ⟨X,0,none⟩ (.int .i64 T.st)).setCell ⟨X,1,none⟩ (.slice F1 T.set.length f1)).setCell ⟨X,2,none⟩ (.slice F2 T.prep.length f2)).setCell ⟨X,3,none⟩ (.slice F3 T.sav.length f3)).setCell ⟨X,4,none⟩ (.slice F4 T.wr.length f4)).drew=u):=⟨_,aA rfl⟩;rw[HWT.out]at hMT hBT hTT hlT1 hlT2 xr hzz ⊢;clear HWT hkk HLL HM5 HB5 HT5 HXX a2 a3 q0 q1 q2 q3 q4 y0 y1 y2 y3 y4 z0 z1 z2 z3 z4 hbd hsI hgB hgX hzz HN5;obtain⟨K1,g1,hk1,_⟩:=(hMT.set c hc).1.form;have hkl:=hMT.set c hc;rw[hk1]at hkl;have p3:=hMT.row.cell (j:=4+c*6+3) (by omega);obtain⟨q,hq,hqs⟩:=hMT.srv c hc;obtain rfl:=hqs s HSR.out;rw[hq]at p3;have p4:=hMT.row.cell (j:=4+c*6+4) (by omega);rw[hk1]at p4;have t1:=xr.cell (j:=1) (by simp);have t2:=xr.cell (j:=2) (by simp);simp only[aB,aC]at t1 t2;have hXT:=xr.lt;have hPT:=hMT.row.lt;have HMT:=aA hMT;have HTTb:=aA hTT;have HBT:=aA hBT;have HL1:=aA hlT1;have HL2:=aA hlT2;have HT2:=aA t2;have HWA:=aA (fun(wc:World) (hwc:Below WT.heap.size WT wc)=>mV _ _ (m.e.of c).1 T.set wc (hkl.1.step' hwc) (hlT1.1.step' hwc));clear hMT hTT hBT hlT1 hlT2 hkl hq hqs xr hk1 t2;go_wp2_with fail;refine eF 12 (fun wx=>wx.cell? ⟨P,4+c*6+3,none⟩=some (.int .i64 s)/\wx.cell? ⟨P,4+c*6+4,none⟩=some (.slice K1 (m.e.of c).1.length g1)/\wx.cell? ⟨X,1,none⟩=some (.slice F1 T.set.length f1)) (by kernel_rfl) (show WT.drew.cell? ⟨P,4+c*6+3,none⟩=some (.int .i64 s)/\WT.drew.cell? ⟨P,4+c*6+4,none⟩=some (.slice K1 (m.e.of c).1.length g1)/\WT.drew.cell? ⟨X,1,none⟩=some (.slice F1 T.set.length f1)from⟨p3,p4,t1⟩) (fun hS=>?_);refine dF [(0,[]),(1,[2,3,4]),(2,[3,4]),(3,[4]),(4,[]),(5,[6,7,8,11]),(6,[7,8,11]),(7,[8,11]),(8,[11]),(9,[10,11]),(10,[11])] ?_
    iterate 11
     refine dH (v:=?_) hS ?_ ?_;rotate_left
     ·(intro w hSw;(try dsimp only at hSw);(try simp only[aE,aB,aC]);go_simp;try with_reducible rfl)
     (try simp only[aE,aB,aC,aQ,aH,aG,aF])
    refine dG ?_;refine cK (i:=11) (fun K hK=>?_)
    (try simp only[aE,aB,aC])
    go_simp;refine(HWA.out _ (aD _ _).drew).mono ?_;rintro e w7 ⟨u7,rfl,hlu,hiu,hb7⟩;obtain⟨Au,cu,hu,_⟩:=hlu.form;have kb:=aR (aD WT.heap.size WT).drew hb7 (aI _);have HU:=aA (aJ hlu (hiu.mono (Q:=fun b=>b≠P) (fun b hb=>by have:WT.heap.size<=b:=hb;omega)));subst hu;clear hb7 hlu hiu;go_simp;have hS2:=(show w7.cell? ⟨P,4+c*6+3,none⟩=some (.int .i64 s)/\w7.cell? ⟨P,4+c*6+4,none⟩=some (.slice K1 (m.e.of c).1.length g1)/\w7.cell? ⟨X,1,none⟩=some (.slice F1 T.set.length f1)from⟨(kb.cell (p:=⟨P,4+c*6+3,none⟩) hPT).trans p3,(kb.cell (p:=⟨P,4+c*6+4,none⟩) hPT).trans p4,(kb.cell (p:=⟨X,1,none⟩) hXT).trans t1⟩);refine hK.out _ _ hS2 ?_;clear hK K hS;have hS:=hS2;clear hS2
    (try simp only[aE,aB,aC,aQ,aH,aG,aF])
    refine bY (fun K hK=>?_)
    (try simp only[aE,aB,aC])
    go_simp;refine(pF w7 (HMT.out.below kb) (HTTb.out.below (kb.mono (by omega))) HOK5.out s HL5.out 9 _ _ HU.out.1 HU.out.2 (fun q hq=>HP1.out q (jP.1 hq).1)).mono ?_;rintro e w8 ⟨⟨f8,rfl,hM8⟩,hW8,hn8,hB8,hO8⟩;go_simp;refine hK.out _ _ ?_;clear hK K
    (try simp only[aE,aB,aC,aQ,aH,aG,aF])
    clear hS;have hT8:=HTTb.out.below ((kb.mono (by omega)).trans hB8);have hB8':=HBT.out.trans ((kb.mono (by omega)).trans hB8);have hO8':=(Only.below (P:=P) kb).trans hO8;have x2:=(aV (a:=⟨X,2,none⟩) (hO8'.2 X hXT (Ne.symm hPX))).trans HT2.out;have hX8:X<w8.heap.size:=bD hXT hO8'.1;have hl8:=hO8'.lst HL2.out.1 (HL2.out.2.mono (fun b hb e=>hb 0 (by rw[e];exact HMT.out.p0)));obtain⟨K2,g2,hk2,_⟩:=(hM8.prep c hc).1.form;have hkl:=hM8.prep c hc;rw[hk2]at hkl;have p3:=hM8.row.cell (j:=4+c*6+3) (by omega);obtain⟨q,hq,hqs⟩:=hM8.srv c hc;obtain rfl:=hqs s HSR.out;rw[hq]at p3;have p5:=hM8.row.cell (j:=4+c*6+5) (by omega);rw[hk2]at p5;have hP8:=hM8.row.lt;have HM8:=aA hM8;have HT8:=aA hT8;have HB8:=aA hB8';have HW8:=aA hW8;have HN8:=aA hn8;have HWB:=aA (fun(wc:World) (hwc:Below w8.heap.size w8 wc)=>mV _ _ (m.e.of c).2 T.prep wc (hkl.1.step' hwc) (hl8.step' hwc));clear kb hM8 hT8 hB8 hB8' hO8 hO8' hW8 hn8 hkl hl8 hq hqs hk2 HMT HTTb HBT HL1 HL2 HT2 HWA HU t1 p4 hPT hXT;go_wp2_with fail;refine eF 12 (fun wx=>wx.cell? ⟨P,4+c*6+3,none⟩=some (.int .i64 s)/\wx.cell? ⟨P,4+c*6+5,none⟩=some (.slice K2 (m.e.of c).2.length g2)/\wx.cell? ⟨X,2,none⟩=some (.slice F2 T.prep.length f2)) (by kernel_rfl) (show w8.drew.cell? ⟨P,4+c*6+3,none⟩=some (.int .i64 s)/\w8.drew.cell? ⟨P,4+c*6+5,none⟩=some (.slice K2 (m.e.of c).2.length g2)/\w8.drew.cell? ⟨X,2,none⟩=some (.slice F2 T.prep.length f2)from⟨p3,p5,x2⟩) (fun hS=>?_);refine dF [(0,[]),(1,[2,3,4]),(2,[3,4]),(3,[4]),(4,[]),(5,[6,7,8,11]),(6,[7,8,11]),(7,[8,11]),(8,[11]),(9,[10,11]),(10,[11])] ?_
    iterate 11
     refine dH (v:=?_) hS ?_ ?_;rotate_left
     ·(intro w hSw;(try dsimp only at hSw);(try simp only[aE,aB,aC]);go_simp;try with_reducible rfl)
     (try simp only[aE,aB,aC,aQ,aH,aG,aF])
    refine dG ?_;refine cK (i:=11) (fun K hK=>?_)
    (try simp only[aE,aB,aC])
    go_simp;refine(HWB.out _ (aD _ _).drew).mono ?_;rintro e w9 ⟨u9,rfl,hlu,hiu,hb9⟩;obtain⟨Au,cu,hu,_⟩:=hlu.form;have kb:=aR (aD w8.heap.size w8).drew hb9 (aI _);have HU:=aA (aJ hlu (hiu.mono (Q:=fun b=>b≠P) (fun b hb=>by have:w8.heap.size<=b:=hb;omega)));subst hu;clear hb9 hlu hiu;go_simp;have hS2:=(show w9.cell? ⟨P,4+c*6+3,none⟩=some (.int .i64 s)/\w9.cell? ⟨P,4+c*6+5,none⟩=some (.slice K2 (m.e.of c).2.length g2)/\w9.cell? ⟨X,2,none⟩=some (.slice F2 T.prep.length f2)from⟨(kb.cell (p:=⟨P,4+c*6+3,none⟩) hP8).trans p3,(kb.cell (p:=⟨P,4+c*6+5,none⟩) hP8).trans p5,(kb.cell (p:=⟨X,2,none⟩) hX8).trans x2⟩);refine hK.out _ _ hS2 ?_;clear hK K hS;have hS:=hS2;clear hS2
    (try simp only[aE,aB,aC,aQ,aH,aG,aF])
    refine bY (fun K hK=>?_)
    (try simp only[aE,aB,aC])
    go_simp;refine(pF w9 (HM8.out.below kb) (HT8.out.below (kb.mono (by omega))) HW8.out s (by show s<(eR V s 9 _).ss.length;rw[HN8.out];exact HL5.out) 11 _ _ HU.out.1 HU.out.2 (fun q hq=>HP2.out q (jP.1 hq).1)).mono ?_;rintro e wA ⟨⟨fA,rfl,hMA⟩,_,_,hBA,hOA⟩;go_simp;refine hK.out _ _ ?_;clear hK K
    (try simp only[aE,aB,aC,aQ,aH,aG,aF])
    have HRW:jV m.e.w s (m.e.of c)=eR (eR V s 9 (eE (m.e.of c).1 T.set)) s 11 (eE (m.e.of c).2 T.prep):=by
     unfold jV;simp only[HS.out];rw[if_pos HOR.out];have hv:(doM m.e.w s 4 ⟨#[]⟩ ⟨#[]⟩).1=V:=HV.out;rw[hv,HTT.out]
    clear hS;have HFF:=aA (aJ hMA (HB8.out.trans ((kb.mono (by omega)).trans hBA)));clear hMA hBA hOA kb HM8 HT8 HB8 HW8 HN8 HWB HU p3 p5 x2;go_wp2;go_end0
    try rw[HRW]
    exact⟨_,_,rfl,HFF.out.1,HFF.out.2⟩
 ·as_aux_lemma=>
   obtain⟨nA,hA⟩: ∃n,(eE S.set (m.e.of c).1).length=n:=⟨_,rfl⟩;have hpos:0<nA:=by omega
   have hd:decide (0<(nA:Int))=true:=cF (by omega);have HOR:=aA (show(eE S.set (m.e.of c).1).length>0\/(eE S.prep (m.e.of c).2).length>0 by omega);refine eF 19 (fun wx=>wx.cell? ⟨X,1,none⟩=some (.slice E1 S.set.length e1)/\wx.cell? ⟨X,2,none⟩=some (.slice E2 S.prep.length e2)/\wx.cell? ⟨P,4+c*6+4,none⟩=some (.slice K1 (m.e.of c).1.length g1)/\wx.cell? ⟨P,4+c*6+5,none⟩=some (.slice K2 (m.e.of c).2.length g2)) (by kernel_rfl) (show W1.drew.cell? ⟨X,1,none⟩=some (.slice E1 S.set.length e1)/\W1.drew.cell? ⟨X,2,none⟩=some (.slice E2 S.prep.length e2)/\W1.drew.cell? ⟨P,4+c*6+4,none⟩=some (.slice K1 (m.e.of c).1.length g1)/\W1.drew.cell? ⟨P,4+c*6+5,none⟩=some (.slice K2 (m.e.of c).2.length g2)from⟨t1,t2,p4,p5⟩) (fun hS=>?_);refine dF [(0,[1,6,9]),(1,[6,9]),(2,[3,4,5,6,9]),(3,[4,5,6,9]),(4,[5,6,9]),(5,[6,9])] ?_
   iterate 6
    refine dH (v:=?_) hS ?_ ?_;rotate_left
    ·(intro w hSw;(try dsimp only at hSw);(try simp only[aE,aB,aC]);go_simp;try with_reducible rfl)
    (try simp only[aE,aB,aC,aQ,aH,aG,aF])
   refine dG ?_;refine cK (i:=6) (fun K hK=>?_)
   (try simp only[aE,aB,aC])
   go_simp;refine(HWA.out _ (aD _ _).drew).mono ?_;rintro e w3 ⟨u3,rfl,hlu,hiu,hb3⟩;obtain⟨Au,cu,hu,_⟩:=hlu.form;rw[hA]at hu;subst hu;have kb:=aR (aD W1.heap.size W1).drew hb3 (aI _);clear hb3 hlu hiu;go_simp;have hS2:=(show w3.cell? ⟨X,1,none⟩=some (.slice E1 S.set.length e1)/\w3.cell? ⟨X,2,none⟩=some (.slice E2 S.prep.length e2)/\w3.cell? ⟨P,4+c*6+4,none⟩=some (.slice K1 (m.e.of c).1.length g1)/\w3.cell? ⟨P,4+c*6+5,none⟩=some (.slice K2 (m.e.of c).2.length g2)from⟨(kb.cell (p:=⟨X,1,none⟩) hXl).trans t1,(kb.cell (p:=⟨X,2,none⟩) hXl).trans t2,(kb.cell (p:=⟨P,4+c*6+4,none⟩) hP1).trans p4,(kb.cell (p:=⟨P,4+c*6+5,none⟩) hP1).trans p5⟩);refine hK.out _ _ hS2 ?_;clear hK K hS;have hS:=hS2;clear hS2
   (try simp only[aE,aB,aC,aQ,aH,aG,aF])
   refine dF [(7,[8,9]),(8,[9]),(9,[])] ?_
   iterate 3
    refine dH (v:=?_) hS ?_ ?_;rotate_left
    ·(intro w hSw;(try dsimp only at hSw);(try simp only[aE,aB,aC]);go_simp;try with_reducible rfl)
    (try simp only[aE,aB,aC,aQ,aH,aG,aF])
   refine dG ?_;refine iS (i:=10) [11,16,17,18] (v:=undef) rfl (by kernel_rfl) (by kernel_rfl) (by kernel_rfl) (by kernel_rfl) (fun _ _ _ h=>h) (Or.inr ⟨by rfl,rfl⟩) hS ?_
   (try simp only[aE,aB,aC,aQ,aH,aG,aF])
   refine iS (i:=11) [16,17,18] (v:=undef) rfl (by kernel_rfl) (by kernel_rfl) (by kernel_rfl) (by kernel_rfl) (fun _ _ _ h=>h) (Or.inr ⟨by rfl,rfl⟩) hS ?_
   (try simp only[aE,aB,aC,aQ,aH,aG,aF])
   refine iS (i:=12) [13,14,15,16,17,18] (v:=undef) rfl (by kernel_rfl) (by kernel_rfl) (by kernel_rfl) (by kernel_rfl) (fun _ _ _ h=>h) (Or.inr ⟨by rfl,rfl⟩) hS ?_
   (try simp only[aE,aB,aC,aQ,aH,aG,aF])
   refine iS (i:=13) [14,15,16,17,18] (v:=undef) rfl (by kernel_rfl) (by kernel_rfl) (by kernel_rfl) (by kernel_rfl) (fun _ _ _ h=>h) (Or.inr ⟨by rfl,rfl⟩) hS ?_
   (try simp only[aE,aB,aC,aQ,aH,aG,aF])
   refine iS (i:=14) [15,16,17,18] (v:=undef) rfl (by kernel_rfl) (by kernel_rfl) (by kernel_rfl) (by kernel_rfl) (fun _ _ _ h=>h) (Or.inr ⟨by rfl,rfl⟩) hS ?_
   (try simp only[aE,aB,aC,aQ,aH,aG,aF])
   refine iS (i:=15) [16,17,18] (v:=undef) rfl (by kernel_rfl) (by kernel_rfl) (by kernel_rfl) (by kernel_rfl) (fun _ _ _ h=>h) (Or.inr ⟨by rfl,rfl⟩) hS ?_
   (try simp only[aE,aB,aC,aQ,aH,aG,aF])
   refine iS (i:=16) [17,18] (v:=undef) rfl (by kernel_rfl) (by kernel_rfl) (by kernel_rfl) (by kernel_rfl) (fun _ _ _ h=>h) (Or.inr ⟨by rfl,rfl⟩) hS ?_
   (try simp only[aE,aB,aC,aQ,aH,aG,aF])
   refine iS (i:=17) [18] (v:=undef) rfl (by kernel_rfl) (by kernel_rfl) (by kernel_rfl) (by kernel_rfl) (fun _ _ _ h=>h) (Or.inr ⟨by rfl,rfl⟩) hS ?_
   (try simp only[aE,aB,aC,aQ,aH,aG,aF])
   refine iI (i:=18) (v:=undef) rfl (by kernel_rfl) (by kernel_rfl) (by kernel_rfl) (by kernel_rfl) (fun _ _ _ h=>h) (Or.inr ⟨by rfl,rfl⟩) hS ?_
   (try simp only[aE,aB,aC,aQ,aH,aG,aF])
   refine bY (fun K hK=>?_)
   (try simp only[aE,aB,aC])
   go_simp;refine hK.out _ _ ?_;clear hK K
   (try simp only[aE,aB,aC,aQ,aH,aG,aF])
   clear hS;have KB:=aA kb;have hz3:=kb.size;clear kb;skip;have b3:=(KB.out.cell (p:=⟨P,4+c*6+3,none⟩) hP1).trans p3;have hPw:P<w3.heap.size:=by omega
   have HMw:=aA (HM1.out.below KB.out);have HTw:=aA (HT.out.below (HBA.out.trans (KB.out.mono (by omega))));have HXw:=aA (HX.out.below KB.out hXl);have hXw:X<w3.heap.size:=by omega
   have HBw:=aA (HBA.out.trans (KB.out.mono (by omega)));clear t1 t2 p3 p4 p5 HWA HWB HX KB HM1 HLA HKL;go_wp2_with fail;refine(pE w3 HMw.out HTw.out HOK.out s HLT.out ⟨4,⟨#[]⟩,⟨#[]⟩⟩ (qT (by decide) (by decide))).mono ?_;rintro e w5 ⟨f5,rfl,hM5,hB5,hO5⟩;have hX5:=HXw.out.same (hO5.2 X hXw (Ne.symm hPX));have HB5:=aA (HBw.out.trans hB5);have HT5:=aA (HTw.out.below hB5);have hz5:=hO5.1;have hok5:=mW HOK.out HLT.out (r:=⟨4,⟨#[]⟩,⟨#[]⟩⟩) (qT (by decide) (by decide));clear hB5 hO5 HMw HTw HXw HBw b3;generalize hW:(fL m.e.w s ⟨4,⟨#[]⟩,⟨#[]⟩⟩).1=V at*;have HV:=aA hW;clear hW;have hl5:s<V.ss.length:=by rw[hok5.2];exact HLT.out
   have HL5:=aA hl5;have HOK5:=aA hok5.1;have hsI:(s:Int)<(V.ss.length:Int):=by omega
   obtain⟨gB,oB,cB,hf2,hFB,hgB,hcs⟩:=hM5.wld.at (show 0<V.ss.length by omega);obtain⟨v1,v2,v3,v4,sB,i1,i2,i3,i4⟩:=hcs s hl5;have a2:=hM5.row.cell (j:=2) (by omega);rw[hf2]at a2;have a3:=hM5.row.cell (j:=4+c*6+3) (by omega);obtain⟨q,hq,hqs⟩:=hM5.srv c hc;obtain rfl:=hqs s HSR.out;rw[hq]at a3;obtain⟨q0,q1,q2,q3,q4,l1,l2,l3,l4⟩:=sB;obtain⟨F1,f1,rfl,hE1⟩:=l1.form;obtain⟨F2,f2,rfl,hE2⟩:=l2.form;obtain⟨F3,f3,rfl,hE3⟩:=l3.form;obtain⟨F4,f4,rfl,hE4⟩:=l4.form;have hbd:=hM5.wld.wld.sess.bytes;have hat:=iQ hl5;simp only[<-hat]at q0 q1 q2 q3 q4 l1 l2 i1 i2;have HLL:=aA (aJ (aJ l1 i1) (aJ l2 i2));obtain⟨T,HTT⟩: ∃T,Hid (V.at s=T):=⟨_,aA rfl⟩;simp only[HTT.out]at q0 q1 q2 q3 q4 HLL;have HM5:=aA hM5;have hP5:=hM5.row.lt;have hgX:gB≠X:=fun e=>hFB 16 (by unfold aL;rw[if_pos rfl,e])
   have HXX:=aA hX5;have hX5l:=hX5.lt;have y0:=hX5.cell (j:=0) (by simp);have y1:=hX5.cell (j:=1) (by simp);have y2:=hX5.cell (j:=2) (by simp);have y3:=hX5.cell (j:=3) (by simp);have y4:=hX5.cell (j:=4) (by simp);simp only[aB,aC]at y0 y1 y2 y3 y4;have z0:=hX5.frozen 0;have z1:=hX5.frozen 1;have z2:=hX5.frozen 2;have z3:=hX5.frozen 3;have z4:=hX5.frozen 4;clear hM5 hok5 hf2 hFB hcs l1 l2 l3 l4 i1 i2 i3 i4 hE1 hE2 hE3 hE4 hat hq hqs hX5;obtain⟨n5,HN5⟩: ∃n,Hid (V.ss.length=n):=⟨_,aA rfl⟩;rw[HN5.out]at a2 hbd hsI hl5;go_wp2_with fail;refine eF 11 (fun wx=>wx.cell? ⟨P,2,none⟩=some (.slice (some ⟨gB,oB,none⟩) n5 cB)/\wx.cell? ⟨P,4+c*6+3,none⟩=some (.int .i64 s)/\wx.cell? ⟨gB,oB+s*5,none⟩=some (.int .i64 T.st)/\wx.cell? ⟨gB,oB+s*5+1,none⟩=some (.slice F1 T.set.length f1)/\wx.cell? ⟨gB,oB+s*5+2,none⟩=some (.slice F2 T.prep.length f2)/\wx.cell? ⟨gB,oB+s*5+3,none⟩=some (.slice F3 T.sav.length f3)/\wx.cell? ⟨gB,oB+s*5+4,none⟩=some (.slice F4 T.wr.length f4)) (by kernel_rfl) (show w5.drew.cell? ⟨P,2,none⟩=some (.slice (some ⟨gB,oB,none⟩) n5 cB)/\w5.drew.cell? ⟨P,4+c*6+3,none⟩=some (.int .i64 s)/\w5.drew.cell? ⟨gB,oB+s*5,none⟩=some (.int .i64 T.st)/\w5.drew.cell? ⟨gB,oB+s*5+1,none⟩=some (.slice F1 T.set.length f1)/\w5.drew.cell? ⟨gB,oB+s*5+2,none⟩=some (.slice F2 T.prep.length f2)/\w5.drew.cell? ⟨gB,oB+s*5+3,none⟩=some (.slice F3 T.sav.length f3)/\w5.drew.cell? ⟨gB,oB+s*5+4,none⟩=some (.slice F4 T.wr.length f4)from⟨a2,a3,q0,q1,q2,q3,q4⟩) (fun hS=>?_);refine dF [(0,[]),(1,[]),(2,[]),(3,[]),(4,[]),(5,[]),(6,[]),(7,[]),(8,[]),(9,[]),(10,[])] ?_
   iterate 11
    refine dH (v:=?_) hS ?_ ?_;rotate_left
    ·(intro w hSw;(try dsimp only at hSw);(try simp only[aE,aB,aC]);go_simp;try with_reducible rfl)
    (try simp only[aE,aB,aC,aQ,aH,aG,aF])
   refine dG ?_;refine bY (fun K hK=>?_)
   (try simp only[aE,aB,aC])
   go_simp;refine hK.out _ _ ?_;clear hK K
   (try simp only[aE,aB,aC,aQ,aH,aG,aF])
   clear hS;have hMT:=(HM5.out.five (.int .i64 T.st) (.slice F1 T.set.length f1) (.slice F2 T.prep.length f2) (.slice F3 T.sav.length f3) (.slice F4 T.wr.length f4)).below (aD _ _).drew
   have hkk: ∀b,b≠X->(((((w5.setCell ⟨X,0,none⟩ (.int .i64 T.st)).setCell ⟨X,1,none⟩ (.slice F1 T.set.length f1)).setCell ⟨X,2,none⟩ (.slice F2 T.prep.length f2)).setCell ⟨X,3,none⟩ (.slice F3 T.sav.length f3)).setCell ⟨X,4,none⟩ (.slice F4 T.wr.length f4)).drew.heap[b]? =w5.heap[b]? :=fun b hb=>by
    show(((((w5.setCell ⟨X,0,none⟩ (.int .i64 T.st)).setCell ⟨X,1,none⟩ (.slice F1 T.set.length f1)).setCell ⟨X,2,none⟩ (.slice F2 T.prep.length f2)).setCell ⟨X,3,none⟩ (.slice F3 T.sav.length f3)).setCell ⟨X,4,none⟩ (.slice F4 T.wr.length f4)).heap[b]? =_;rw[bF _ _ _ _ hb,bF _ _ _ _ hb,bF _ _ _ _ hb,bF _ _ _ _ hb,bF _ _ _ _ hb]
   have hzz:(((((w5.setCell ⟨X,0,none⟩ (.int .i64 T.st)).setCell ⟨X,1,none⟩ (.slice F1 T.set.length f1)).setCell ⟨X,2,none⟩ (.slice F2 T.prep.length f2)).setCell ⟨X,3,none⟩ (.slice F3 T.sav.length f3)).setCell ⟨X,4,none⟩ (.slice F4 T.wr.length f4)).drew.heap.size=w5.heap.size:=by simp[cE,World.drew]
   have hBT:Below base w (((((w5.setCell ⟨X,0,none⟩ (.int .i64 T.st)).setCell ⟨X,1,none⟩ (.slice F1 T.set.length f1)).setCell ⟨X,2,none⟩ (.slice F2 T.prep.length f2)).setCell ⟨X,3,none⟩ (.slice F3 T.sav.length f3)).setCell ⟨X,4,none⟩ (.slice F4 T.wr.length f4)).drew:=by
    have h0:=HB5.out;exact((((((h0.setCell (p:=⟨X,0,none⟩) hbX (.int .i64 T.st)).setCell (p:=⟨X,1,none⟩) hbX (.slice F1 T.set.length f1)).setCell (p:=⟨X,2,none⟩) hbX (.slice F2 T.prep.length f2)).setCell (p:=⟨X,3,none⟩) hbX (.slice F3 T.sav.length f3)).setCell (p:=⟨X,4,none⟩) hbX (.slice F4 T.wr.length f4))).drew
   have hTT:=HT5.out.below (show Below base w5 (((((w5.setCell ⟨X,0,none⟩ (.int .i64 T.st)).setCell ⟨X,1,none⟩ (.slice F1 T.set.length f1)).setCell ⟨X,2,none⟩ (.slice F2 T.prep.length f2)).setCell ⟨X,3,none⟩ (.slice F3 T.sav.length f3)).setCell ⟨X,4,none⟩ (.slice F4 T.wr.length f4)).drew from(((((((aD base w5).setCell (p:=⟨X,0,none⟩) hbX (.int .i64 T.st)).setCell (p:=⟨X,1,none⟩) hbX (.slice F1 T.set.length f1)).setCell (p:=⟨X,2,none⟩) hbX (.slice F2 T.prep.length f2)).setCell (p:=⟨X,3,none⟩) hbX (.slice F3 T.sav.length f3)).setCell (p:=⟨X,4,none⟩) hbX (.slice F4 T.wr.length f4))).drew);have hlT1:=iX HLL.out.1 (Nat.le_of_eq hzz.symm) (fun b hb _=>hkk b (fun e=>hb 16 (by unfold aL;rw[if_pos rfl,e])));have hlT2:=iX HLL.out.2 (Nat.le_of_eq hzz.symm) (fun b hb _=>hkk b (fun e=>hb 16 (by unfold aL;rw[if_pos rfl,e])));have xr:=(HXX.out.put (j:=0) (by simp) (.int .i64 T.st));have xr:=(xr.put (j:=1) (by simp) (.slice F1 T.set.length f1));have xr:=(xr.put (j:=2) (by simp) (.slice F2 T.prep.length f2));have xr:=(xr.put (j:=3) (by simp) (.slice F3 T.sav.length f3));have xr:=(xr.put (j:=4) (by simp) (.slice F4 T.wr.length f4));have xr:=xr.drew;simp only[aG,aF]at xr;obtain⟨WT,HWT⟩: ∃u,Hid ((((((w5.setCell ⟨X,0,none⟩ (.int .i64 T.st)).setCell ⟨X,1,none⟩ (.slice F1 T.set.length f1)).setCell ⟨X,2,none⟩ (.slice F2 T.prep.length f2)).setCell ⟨X,3,none⟩ (.slice F3 T.sav.length f3)).setCell ⟨X,4,none⟩ (.slice F4 T.wr.length f4)).drew=u):=⟨_,aA rfl⟩;rw[HWT.out]at hMT hBT hTT hlT1 hlT2 xr hzz ⊢;clear HWT hkk HLL HM5 HB5 HT5 HXX a2 a3 q0 q1 q2 q3 q4 y0 y1 y2 y3 y4 z0 z1 z2 z3 z4 hbd hsI hgB hgX hzz HN5;obtain⟨K1,g1,hk1,_⟩:=(hMT.set c hc).1.form;have hkl:=hMT.set c hc;rw[hk1]at hkl;have p3:=hMT.row.cell (j:=4+c*6+3) (by omega);obtain⟨q,hq,hqs⟩:=hMT.srv c hc;obtain rfl:=hqs s HSR.out;rw[hq]at p3;have p4:=hMT.row.cell (j:=4+c*6+4) (by omega);rw[hk1]at p4;have t1:=xr.cell (j:=1) (by simp);have t2:=xr.cell (j:=2) (by simp);simp only[aB,aC]at t1 t2;have hXT:=xr.lt;have hPT:=hMT.row.lt;have HMT:=aA hMT;have HTTb:=aA hTT;have HBT:=aA hBT;have HL1:=aA hlT1;have HL2:=aA hlT2;have HT2:=aA t2;have HWA:=aA (fun(wc:World) (hwc:Below WT.heap.size WT wc)=>mV _ _ (m.e.of c).1 T.set wc (hkl.1.step' hwc) (hlT1.1.step' hwc));clear hMT hTT hBT hlT1 hlT2 hkl hq hqs xr hk1 t2;go_wp2_with fail;refine eF 12 (fun wx=>wx.cell? ⟨P,4+c*6+3,none⟩=some (.int .i64 s)/\wx.cell? ⟨P,4+c*6+4,none⟩=some (.slice K1 (m.e.of c).1.length g1)/\wx.cell? ⟨X,1,none⟩=some (.slice F1 T.set.length f1)) (by kernel_rfl) (show WT.drew.cell? ⟨P,4+c*6+3,none⟩=some (.int .i64 s)/\WT.drew.cell? ⟨P,4+c*6+4,none⟩=some (.slice K1 (m.e.of c).1.length g1)/\WT.drew.cell? ⟨X,1,none⟩=some (.slice F1 T.set.length f1)from⟨p3,p4,t1⟩) (fun hS=>?_);refine dF [(0,[]),(1,[2,3,4]),(2,[3,4]),(3,[4]),(4,[]),(5,[6,7,8,11]),(6,[7,8,11]),(7,[8,11]),(8,[11]),(9,[10,11]),(10,[11])] ?_
   iterate 11
    refine dH (v:=?_) hS ?_ ?_;rotate_left
    ·(intro w hSw;(try dsimp only at hSw);(try simp only[aE,aB,aC]);go_simp;try with_reducible rfl)
    (try simp only[aE,aB,aC,aQ,aH,aG,aF])
   refine dG ?_;refine cK (i:=11) (fun K hK=>?_)
   (try simp only[aE,aB,aC])
   go_simp;refine(HWA.out _ (aD _ _).drew).mono ?_;rintro e w7 ⟨u7,rfl,hlu,hiu,hb7⟩;obtain⟨Au,cu,hu,_⟩:=hlu.form;have kb:=aR (aD WT.heap.size WT).drew hb7 (aI _);have HU:=aA (aJ hlu (hiu.mono (Q:=fun b=>b≠P) (fun b hb=>by have:WT.heap.size<=b:=hb;omega)));subst hu;clear hb7 hlu hiu;go_simp;have hS2:=(show w7.cell? ⟨P,4+c*6+3,none⟩=some (.int .i64 s)/\w7.cell? ⟨P,4+c*6+4,none⟩=some (.slice K1 (m.e.of c).1.length g1)/\w7.cell? ⟨X,1,none⟩=some (.slice F1 T.set.length f1)from⟨(kb.cell (p:=⟨P,4+c*6+3,none⟩) hPT).trans p3,(kb.cell (p:=⟨P,4+c*6+4,none⟩) hPT).trans p4,(kb.cell (p:=⟨X,1,none⟩) hXT).trans t1⟩);refine hK.out _ _ hS2 ?_;clear hK K hS;have hS:=hS2;clear hS2
   (try simp only[aE,aB,aC,aQ,aH,aG,aF])
   refine bY (fun K hK=>?_)
   (try simp only[aE,aB,aC])
   go_simp;refine(pF w7 (HMT.out.below kb) (HTTb.out.below (kb.mono (by omega))) HOK5.out s HL5.out 9 _ _ HU.out.1 HU.out.2 (fun q hq=>HP1.out q (jP.1 hq).1)).mono ?_;rintro e w8 ⟨⟨f8,rfl,hM8⟩,hW8,hn8,hB8,hO8⟩;go_simp;refine hK.out _ _ ?_;clear hK K
   (try simp only[aE,aB,aC,aQ,aH,aG,aF])
   clear hS;have hT8:=HTTb.out.below ((kb.mono (by omega)).trans hB8);have hB8':=HBT.out.trans ((kb.mono (by omega)).trans hB8);have hO8':=(Only.below (P:=P) kb).trans hO8;have x2:=(aV (a:=⟨X,2,none⟩) (hO8'.2 X hXT (Ne.symm hPX))).trans HT2.out;have hX8:X<w8.heap.size:=bD hXT hO8'.1;have hl8:=hO8'.lst HL2.out.1 (HL2.out.2.mono (fun b hb e=>hb 0 (by rw[e];exact HMT.out.p0)));obtain⟨K2,g2,hk2,_⟩:=(hM8.prep c hc).1.form;have hkl:=hM8.prep c hc;rw[hk2]at hkl;have p3:=hM8.row.cell (j:=4+c*6+3) (by omega);obtain⟨q,hq,hqs⟩:=hM8.srv c hc;obtain rfl:=hqs s HSR.out;rw[hq]at p3;have p5:=hM8.row.cell (j:=4+c*6+5) (by omega);rw[hk2]at p5;have hP8:=hM8.row.lt;have HM8:=aA hM8;have HT8:=aA hT8;have HB8:=aA hB8';have HW8:=aA hW8;have HN8:=aA hn8;have HWB:=aA (fun(wc:World) (hwc:Below w8.heap.size w8 wc)=>mV _ _ (m.e.of c).2 T.prep wc (hkl.1.step' hwc) (hl8.step' hwc));clear kb hM8 hT8 hB8 hB8' hO8 hO8' hW8 hn8 hkl hl8 hq hqs hk2 HMT HTTb HBT HL1 HL2 HT2 HWA HU t1 p4 hPT hXT;go_wp2_with fail;refine eF 12 (fun wx=>wx.cell? ⟨P,4+c*6+3,none⟩=some (.int .i64 s)/\wx.cell? ⟨P,4+c*6+5,none⟩=some (.slice K2 (m.e.of c).2.length g2)/\wx.cell? ⟨X,2,none⟩=some (.slice F2 T.prep.length f2)) (by kernel_rfl) (show w8.drew.cell? ⟨P,4+c*6+3,none⟩=some (.int .i64 s)/\w8.drew.cell? ⟨P,4+c*6+5,none⟩=some (.slice K2 (m.e.of c).2.length g2)/\w8.drew.cell? ⟨X,2,none⟩=some (.slice F2 T.prep.length f2)from⟨p3,p5,x2⟩) (fun hS=>?_);refine dF [(0,[]),(1,[2,3,4]),(2,[3,4]),(3,[4]),(4,[]),(5,[6,7,8,11]),(6,[7,8,11]),(7,[8,11]),(8,[11]),(9,[10,11]),(10,[11])] ?_
   iterate 11
    refine dH (v:=?_) hS ?_ ?_;rotate_left
    ·(intro w hSw;(try dsimp only at hSw);(try simp only[aE,aB,aC]);go_simp;try with_reducible rfl)
    (try simp only[aE,aB,aC,aQ,aH,aG,aF])
   refine dG ?_;refine cK (i:=11) (fun K hK=>?_)
   (try simp only[aE,aB,aC])
   go_simp;refine(HWB.out _ (aD _ _).drew).mono ?_;rintro e w9 ⟨u9,rfl,hlu,hiu,hb9⟩;obtain⟨Au,cu,hu,_⟩:=hlu.form;have kb:=aR (aD w8.heap.size w8).drew hb9 (aI _);have HU:=aA (aJ hlu (hiu.mono (Q:=fun b=>b≠P) (fun b hb=>by have:w8.heap.size<=b:=hb;omega)));subst hu;clear hb9 hlu hiu;go_simp;have hS2:=(show w9.cell? ⟨P,4+c*6+3,none⟩=some (.int .i64 s)/\w9.cell? ⟨P,4+c*6+5,none⟩=some (.slice K2 (m.e.of c).2.length g2)/\w9.cell? ⟨X,2,none⟩=some (.slice F2 T.prep.length f2)from⟨(kb.cell (p:=⟨P,4+c*6+3,none⟩) hP8).trans p3,(kb.cell (p:=⟨P,4+c*6+5,none⟩) hP8).trans p5,(kb.cell (p:=⟨X,2,none⟩) hX8).trans x2⟩);refine hK.out _ _ hS2 ?_;clear hK K hS;have hS:=hS2;clear hS2
   (try simp only[aE,aB,aC,aQ,aH,aG,aF])
   refine bY (fun K hK=>?_)
   (try simp only[aE,aB,aC])
   go_simp;refine(pF w9 (HM8.out.below kb) (HT8.out.below (kb.mono (by omega))) HW8.out s (by show s<(eR V s 9 _).ss.length;rw[HN8.out];exact HL5.out) 11 _ _ HU.out.1 HU.out.2 (fun q hq=>HP2.out q (jP.1 hq).1)).mono ?_;rintro e wA ⟨⟨fA,rfl,hMA⟩,_,_,hBA,hOA⟩;go_simp;refine hK.out _ _ ?_;clear hK K
   (try simp only[aE,aB,aC,aQ,aH,aG,aF])
   have HRW:jV m.e.w s (m.e.of c)=eR (eR V s 9 (eE (m.e.of c).1 T.set)) s 11 (eE (m.e.of c).2 T.prep):=by
    unfold jV;simp only[HS.out];rw[if_pos HOR.out];have hv:(doM m.e.w s 4 ⟨#[]⟩ ⟨#[]⟩).1=V:=HV.out;rw[hv,HTT.out]
   clear hS;have HFF:=aA (aJ hMA (HB8.out.trans ((kb.mono (by omega)).trans hBA)));clear hMA hBA hOA kb HM8 HT8 HB8 HW8 HN8 HWB HU p3 p5 x2;go_wp2;go_end0
   try rw[HRW]
   exact⟨_,_,rfl,HFF.out.1,HFF.out.2⟩
end
end Go.Proofs.YtpbaobmegomfpabGreatDoor

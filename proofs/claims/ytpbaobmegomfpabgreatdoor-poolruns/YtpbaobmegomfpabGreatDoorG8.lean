/-
  Texts of the proof.
-/
import Derived.Test.YtpbaobmegomfpabGreatDoorG7
set_option linter.unusedVariables false
set_option linter.unusedSimpArgs false
set_option maxRecDepth 100000
set_option maxHeartbeats 16000000
open List renaming getElem_toArray→aE,getElem_cons_zero→aB,getElem_cons_succ→aC,getElem?_eq_getElem→dP,getD_eq_getElem?_getD→eU
open Nat renaming le_refl→aI,lt_of_lt_of_le→bD,le_trans→bL,zero_add→cW
open Go.Lib renaming hid→aA
open Go.RowKit.Below renaming refl→aD,heap_setCell→bF,setCell→dT,alloc→dU
open Go.World renaming cell?_of_block→aV,setCell→cE,cell?_setCell_other→jS
open Classical renaming byContradiction→gP
open Bool renaming and_eq_true→eB,or_eq_true→fO
open Go renaming bodyPost_ret→bE,below_drewN→aZ
namespace Go.Proofs.YtpbaobmegomfpabGreatDoor
open Go.RowKit
theorem uA2 {w:World}{v0 v1 v2 v3 v4:Value}:RowTo (w.alloc (.cells #[v0,v1,v2,v3,v4] 115)) w.heap.size 115 5 [v0,v1,v2,v3,v4]:=RowTo.whole w #[v0,v1,v2,v3,v4] 115
theorem kAv (s:Sess)(v1 v2 v3 v4:Value)(w:World)(h1:Lst w w.heap.size v1 s.set)(h2:Lst w w.heap.size v2 s.prep)(h3:Lst w w.heap.size v3 s.sav)(h4:Lst w w.heap.size v4 s.wr)(hW:Words w):
  Calls Tryz.prog 91 #[.agg #[.int .i64 s.st,v1,v2,v3,v4]] w fun e w'=>e= .returned (.bool (eK s))/\Below w.heap.size w w':=by
 obtain⟨A1,c1,rfl,_⟩:=h1.form;obtain⟨A2,c2,rfl,_⟩:=h2.form;obtain⟨A3,c3,rfl,_⟩:=h3.form;obtain⟨A4,c4,rfl,_⟩:=h4.form;have L1:=aA h1;have L2:=aA h2;have L3:=aA h3;have L4:=aA h4;have HW:=aA hW;clear h1 h2 h3 h4 hW;have B0:=aA ((aD w.heap.size w).alloc (aI _) (.cells #[.int .i64 s.st,.slice A1 s.set.length c1,.slice A2 s.prep.length c2,.slice A3 s.sav.length c3,.slice A4 s.wr.length c4] 115));have S0:=aA (uA2 (w:=w) (v0:= .int .i64 s.st) (v1:= .slice A1 s.set.length c1) (v2:= .slice A2 s.prep.length c2) (v3:= .slice A3 s.sav.length c3) (v4:= .slice A4 s.wr.length c4))
 by_cases hst:s.st<0\/2<s.st
 ·have HP:=aA (zU (s:=s) (uY (by omega)));rcases hst with hst|hst
  ·have d1:decide (s.st<0)=true:=cF hst;go_enter Tryz.func91,Tryz.ntmps91;go_wp2;go_ret;exact⟨by rw[HP.out];rfl,B0.out⟩
  ·have d1:decide (s.st<0)=false:=aY (by omega);have d2:decide (2<s.st)=true:=cF hst;go_enter Tryz.func91,Tryz.ntmps91;go_wp2;go_ret;exact⟨by rw[HP.out];rfl,B0.out⟩
 have d1:decide (s.st<0)=false:=aY (by omega);have d2:decide (2<s.st)=false:=aY (by omega);have H0:=aA (show iJ 0 s.st 2=true from rN (by omega))
 by_cases h5:s.st=0/\0<s.sav.length
 ·have HP:=aA (zV h5.1 h5.2);have e1:(s.st==0)=true:=beq_iff_eq.2 h5.1;have e2:decide ((0:Int)<(s.sav.length:Int))=true:=cF (by omega);have e3:decide (0<s.sav.length)=true:=cF h5.2;clear h5 hst;go_enter Tryz.func91,Tryz.ntmps91;go_wp2;go_ret;exact⟨by rw[HP.out];rfl,B0.out⟩
 by_cases h6:s.st≠1/\0<s.wr.length
 ·have HP:=aA (zW h6.1 h6.2);have e1:(s.st !=1)=true:=eP.2 h6.1;have e2:decide ((0:Int)<(s.wr.length:Int))=true:=cF (by omega);have e3:decide (0<s.wr.length)=true:=cF h6.2
  by_cases hs0:s.st=0
  ·have e4:(s.st==0)=true:=beq_iff_eq.2 hs0;have e5:decide ((0:Int)<(s.sav.length:Int))=false:=aY (fun h=>h5 ⟨hs0,by omega⟩);have e6:decide (0<s.sav.length)=false:=aY (fun h=>h5 ⟨hs0,h⟩);clear h5 h6 hst hs0;go_enter Tryz.func91,Tryz.ntmps91;go_wp2;go_ret;exact⟨by rw[HP.out];rfl,B0.out⟩
  ·have e4:(s.st==0)=false:=bJ.2 hs0;clear h5 h6 hst hs0;go_enter Tryz.func91,Tryz.ntmps91;go_wp2;go_ret;exact⟨by rw[HP.out];rfl,B0.out⟩
 have HG:=aA (fun a b c d=>zX H0.out a b c d h5 h6)
 by_cases hs1:s.st=1
 ·have e1:(s.st !=1)=false:=by rw[hs1];rfl
  have e4:(s.st==0)=false:=by rw[hs1];rfl
  clear h5 h6 hst hs1
  cases h1:cD s.set 6 9
  ·have HP:=aA (sL h1);have H1:=aA h1;clear h1;go_enter Tryz.func91,Tryz.ntmps91;go_wp2_with fail;refine(dE _ s.set 9 6 _ (L1.out.step B0.out) (HW.out.below B0.out) (by omega)).mono ?_;rw[H1.out];rintro e w3 ⟨rfl,hb3⟩;have B1:=aA (aR B0.out hb3 B0.out.size);have S1:=aA (S0.out.below hb3 S0.out.lt);have y0:=S1.out.cell (j:=3) (by simp);simp only[aB,aC]at y0;clear hb3;go_wp2;go_ret;exact⟨by rw[HP.out];rfl,B1.out⟩
  have H1:=aA h1;clear h1
  cases h3:cD s.sav 6 9
  ·have HP:=aA (sN h3);have H3:=aA h3;clear h3;go_enter Tryz.func91,Tryz.ntmps91;go_wp2_with fail;refine(dE _ s.set 9 6 _ (L1.out.step B0.out) (HW.out.below B0.out) (by omega)).mono ?_;rw[H1.out];rintro e w3 ⟨rfl,hb3⟩;have B1:=aA (aR B0.out hb3 B0.out.size);have S1:=aA (S0.out.below hb3 S0.out.lt);have y0:=S1.out.cell (j:=3) (by simp);simp only[aB,aC]at y0;clear hb3;go_wp2_with fail;refine(dE _ s.sav 9 6 _ (L3.out.step B1.out) (HW.out.below B1.out) (by omega)).mono ?_;rw[H3.out];rintro e w4 ⟨rfl,hb4⟩;have B2:=aA (aR B1.out hb4 B1.out.size);have S2:=aA (S1.out.below hb4 S1.out.lt);have y1:=S2.out.cell (j:=2) (by simp);simp only[aB,aC]at y1;clear hb4;go_wp2;go_ret;exact⟨by rw[HP.out];rfl,B2.out⟩
  have H3:=aA h3;clear h3
  cases h2:cD s.prep 6 11
  ·have HP:=aA (sM h2);have H2:=aA h2;clear h2;go_enter Tryz.func91,Tryz.ntmps91;go_wp2_with fail;refine(dE _ s.set 9 6 _ (L1.out.step B0.out) (HW.out.below B0.out) (by omega)).mono ?_;rw[H1.out];rintro e w3 ⟨rfl,hb3⟩;have B1:=aA (aR B0.out hb3 B0.out.size);have S1:=aA (S0.out.below hb3 S0.out.lt);have y0:=S1.out.cell (j:=3) (by simp);simp only[aB,aC]at y0;clear hb3;go_wp2_with fail;refine(dE _ s.sav 9 6 _ (L3.out.step B1.out) (HW.out.below B1.out) (by omega)).mono ?_;rw[H3.out];rintro e w4 ⟨rfl,hb4⟩;have B2:=aA (aR B1.out hb4 B1.out.size);have S2:=aA (S1.out.below hb4 S1.out.lt);have y1:=S2.out.cell (j:=2) (by simp);simp only[aB,aC]at y1;clear hb4;go_wp2_with fail;refine(dE _ s.prep 11 6 _ (L2.out.step B2.out) (HW.out.below B2.out) (by omega)).mono ?_;rw[H2.out];rintro e w5 ⟨rfl,hb5⟩;have B3:=aA (aR B2.out hb5 B2.out.size);have S3:=aA (S2.out.below hb5 S2.out.lt);have y2:=S3.out.cell (j:=4) (by simp);simp only[aB,aC]at y2;clear hb5;go_wp2;go_ret;exact⟨by rw[HP.out];rfl,B3.out⟩
  have H2:=aA h2;clear h2
  cases h4:cD s.wr 100 10
  ·have HP:=aA (sO h4);have H4:=aA h4;clear h4;go_enter Tryz.func91,Tryz.ntmps91;go_wp2_with fail;refine(dE _ s.set 9 6 _ (L1.out.step B0.out) (HW.out.below B0.out) (by omega)).mono ?_;rw[H1.out];rintro e w3 ⟨rfl,hb3⟩;have B1:=aA (aR B0.out hb3 B0.out.size);have S1:=aA (S0.out.below hb3 S0.out.lt);have y0:=S1.out.cell (j:=3) (by simp);simp only[aB,aC]at y0;clear hb3;go_wp2_with fail;refine(dE _ s.sav 9 6 _ (L3.out.step B1.out) (HW.out.below B1.out) (by omega)).mono ?_;rw[H3.out];rintro e w4 ⟨rfl,hb4⟩;have B2:=aA (aR B1.out hb4 B1.out.size);have S2:=aA (S1.out.below hb4 S1.out.lt);have y1:=S2.out.cell (j:=2) (by simp);simp only[aB,aC]at y1;clear hb4;go_wp2_with fail;refine(dE _ s.prep 11 6 _ (L2.out.step B2.out) (HW.out.below B2.out) (by omega)).mono ?_;rw[H2.out];rintro e w5 ⟨rfl,hb5⟩;have B3:=aA (aR B2.out hb5 B2.out.size);have S3:=aA (S2.out.below hb5 S2.out.lt);have y2:=S3.out.cell (j:=4) (by simp);simp only[aB,aC]at y2;clear hb5;go_wp2_with fail;refine(dE _ s.wr 10 100 _ (L4.out.step B3.out) (HW.out.below B3.out) (by omega)).mono ?_;rw[H4.out];rintro e w6 ⟨rfl,hb6⟩;have B4:=aA (aR B3.out hb6 B3.out.size);have S4:=aA (S3.out.below hb6 S3.out.lt);have y3:=S4.out.cell (j:=0) (by simp);simp only[aB,aC]at y3;clear hb6;go_wp2;go_ret;exact⟨by rw[HP.out];rfl,B4.out⟩
  have H4:=aA h4;clear h4;have HP:=aA (HG.out H1.out H2.out H3.out H4.out);go_enter Tryz.func91,Tryz.ntmps91;go_wp2_with fail;refine(dE _ s.set 9 6 _ (L1.out.step B0.out) (HW.out.below B0.out) (by omega)).mono ?_;rw[H1.out];rintro e w3 ⟨rfl,hb3⟩;have B1:=aA (aR B0.out hb3 B0.out.size);have S1:=aA (S0.out.below hb3 S0.out.lt);have y0:=S1.out.cell (j:=3) (by simp);simp only[aB,aC]at y0;clear hb3;go_wp2_with fail;refine(dE _ s.sav 9 6 _ (L3.out.step B1.out) (HW.out.below B1.out) (by omega)).mono ?_;rw[H3.out];rintro e w4 ⟨rfl,hb4⟩;have B2:=aA (aR B1.out hb4 B1.out.size);have S2:=aA (S1.out.below hb4 S1.out.lt);have y1:=S2.out.cell (j:=2) (by simp);simp only[aB,aC]at y1;clear hb4;go_wp2_with fail;refine(dE _ s.prep 11 6 _ (L2.out.step B2.out) (HW.out.below B2.out) (by omega)).mono ?_;rw[H2.out];rintro e w5 ⟨rfl,hb5⟩;have B3:=aA (aR B2.out hb5 B2.out.size);have S3:=aA (S2.out.below hb5 S2.out.lt);have y2:=S3.out.cell (j:=4) (by simp);simp only[aB,aC]at y2;clear hb5;go_wp2_with fail;refine(dE _ s.wr 10 100 _ (L4.out.step B3.out) (HW.out.below B3.out) (by omega)).mono ?_;rw[H4.out];rintro e w6 ⟨rfl,hb6⟩;have B4:=aA (aR B3.out hb6 B3.out.size);have S4:=aA (S3.out.below hb6 S3.out.lt);have y3:=S4.out.cell (j:=0) (by simp);simp only[aB,aC]at y3;clear hb6;go_wp2;go_ret;exact⟨by rw[HP.out];rfl,B4.out⟩
 have e1:(s.st !=1)=true:=eP.2 hs1;have e2:decide ((0:Int)<(s.wr.length:Int))=false:=aY (fun h=>h6 ⟨hs1,by omega⟩);have e3:decide (0<s.wr.length)=false:=aY (fun h=>h6 ⟨hs1,h⟩)
 by_cases hs0:s.st=0
 ·have e4:(s.st==0)=true:=beq_iff_eq.2 hs0;have e5:decide ((0:Int)<(s.sav.length:Int))=false:=aY (fun h=>h5 ⟨hs0,by omega⟩);have e6:decide (0<s.sav.length)=false:=aY (fun h=>h5 ⟨hs0,h⟩);clear h5 h6 hst hs1 hs0
  cases h1:cD s.set 6 9
  ·have HP:=aA (sL h1);have H1:=aA h1;clear h1;go_enter Tryz.func91,Tryz.ntmps91;go_wp2_with fail;refine(dE _ s.set 9 6 _ (L1.out.step B0.out) (HW.out.below B0.out) (by omega)).mono ?_;rw[H1.out];rintro e w3 ⟨rfl,hb3⟩;have B1:=aA (aR B0.out hb3 B0.out.size);have S1:=aA (S0.out.below hb3 S0.out.lt);have y0:=S1.out.cell (j:=3) (by simp);simp only[aB,aC]at y0;clear hb3;go_wp2;go_ret;exact⟨by rw[HP.out];rfl,B1.out⟩
  have H1:=aA h1;clear h1
  cases h3:cD s.sav 6 9
  ·have HP:=aA (sN h3);have H3:=aA h3;clear h3;go_enter Tryz.func91,Tryz.ntmps91;go_wp2_with fail;refine(dE _ s.set 9 6 _ (L1.out.step B0.out) (HW.out.below B0.out) (by omega)).mono ?_;rw[H1.out];rintro e w3 ⟨rfl,hb3⟩;have B1:=aA (aR B0.out hb3 B0.out.size);have S1:=aA (S0.out.below hb3 S0.out.lt);have y0:=S1.out.cell (j:=3) (by simp);simp only[aB,aC]at y0;clear hb3;go_wp2_with fail;refine(dE _ s.sav 9 6 _ (L3.out.step B1.out) (HW.out.below B1.out) (by omega)).mono ?_;rw[H3.out];rintro e w4 ⟨rfl,hb4⟩;have B2:=aA (aR B1.out hb4 B1.out.size);have S2:=aA (S1.out.below hb4 S1.out.lt);have y1:=S2.out.cell (j:=2) (by simp);simp only[aB,aC]at y1;clear hb4;go_wp2;go_ret;exact⟨by rw[HP.out];rfl,B2.out⟩
  have H3:=aA h3;clear h3
  cases h2:cD s.prep 6 11
  ·have HP:=aA (sM h2);have H2:=aA h2;clear h2;go_enter Tryz.func91,Tryz.ntmps91;go_wp2_with fail;refine(dE _ s.set 9 6 _ (L1.out.step B0.out) (HW.out.below B0.out) (by omega)).mono ?_;rw[H1.out];rintro e w3 ⟨rfl,hb3⟩;have B1:=aA (aR B0.out hb3 B0.out.size);have S1:=aA (S0.out.below hb3 S0.out.lt);have y0:=S1.out.cell (j:=3) (by simp);simp only[aB,aC]at y0;clear hb3;go_wp2_with fail;refine(dE _ s.sav 9 6 _ (L3.out.step B1.out) (HW.out.below B1.out) (by omega)).mono ?_;rw[H3.out];rintro e w4 ⟨rfl,hb4⟩;have B2:=aA (aR B1.out hb4 B1.out.size);have S2:=aA (S1.out.below hb4 S1.out.lt);have y1:=S2.out.cell (j:=2) (by simp);simp only[aB,aC]at y1;clear hb4;go_wp2_with fail;refine(dE _ s.prep 11 6 _ (L2.out.step B2.out) (HW.out.below B2.out) (by omega)).mono ?_;rw[H2.out];rintro e w5 ⟨rfl,hb5⟩;have B3:=aA (aR B2.out hb5 B2.out.size);have S3:=aA (S2.out.below hb5 S2.out.lt);have y2:=S3.out.cell (j:=4) (by simp);simp only[aB,aC]at y2;clear hb5;go_wp2;go_ret;exact⟨by rw[HP.out];rfl,B3.out⟩
  have H2:=aA h2;clear h2
  cases h4:cD s.wr 100 10
  ·have HP:=aA (sO h4);have H4:=aA h4;clear h4;go_enter Tryz.func91,Tryz.ntmps91;go_wp2_with fail;refine(dE _ s.set 9 6 _ (L1.out.step B0.out) (HW.out.below B0.out) (by omega)).mono ?_;rw[H1.out];rintro e w3 ⟨rfl,hb3⟩;have B1:=aA (aR B0.out hb3 B0.out.size);have S1:=aA (S0.out.below hb3 S0.out.lt);have y0:=S1.out.cell (j:=3) (by simp);simp only[aB,aC]at y0;clear hb3;go_wp2_with fail;refine(dE _ s.sav 9 6 _ (L3.out.step B1.out) (HW.out.below B1.out) (by omega)).mono ?_;rw[H3.out];rintro e w4 ⟨rfl,hb4⟩;have B2:=aA (aR B1.out hb4 B1.out.size);have S2:=aA (S1.out.below hb4 S1.out.lt);have y1:=S2.out.cell (j:=2) (by simp);simp only[aB,aC]at y1;clear hb4;go_wp2_with fail;refine(dE _ s.prep 11 6 _ (L2.out.step B2.out) (HW.out.below B2.out) (by omega)).mono ?_;rw[H2.out];rintro e w5 ⟨rfl,hb5⟩;have B3:=aA (aR B2.out hb5 B2.out.size);have S3:=aA (S2.out.below hb5 S2.out.lt);have y2:=S3.out.cell (j:=4) (by simp);simp only[aB,aC]at y2;clear hb5;go_wp2_with fail;refine(dE _ s.wr 10 100 _ (L4.out.step B3.out) (HW.out.below B3.out) (by omega)).mono ?_;rw[H4.out];rintro e w6 ⟨rfl,hb6⟩;have B4:=aA (aR B3.out hb6 B3.out.size);have S4:=aA (S3.out.below hb6 S3.out.lt);have y3:=S4.out.cell (j:=0) (by simp);simp only[aB,aC]at y3;clear hb6;go_wp2;go_ret;exact⟨by rw[HP.out];rfl,B4.out⟩
  have H4:=aA h4;clear h4;have HP:=aA (HG.out H1.out H2.out H3.out H4.out);go_enter Tryz.func91,Tryz.ntmps91;go_wp2_with fail;refine(dE _ s.set 9 6 _ (L1.out.step B0.out) (HW.out.below B0.out) (by omega)).mono ?_;rw[H1.out];rintro e w3 ⟨rfl,hb3⟩;have B1:=aA (aR B0.out hb3 B0.out.size);have S1:=aA (S0.out.below hb3 S0.out.lt);have y0:=S1.out.cell (j:=3) (by simp);simp only[aB,aC]at y0;clear hb3;go_wp2_with fail;refine(dE _ s.sav 9 6 _ (L3.out.step B1.out) (HW.out.below B1.out) (by omega)).mono ?_;rw[H3.out];rintro e w4 ⟨rfl,hb4⟩;have B2:=aA (aR B1.out hb4 B1.out.size);have S2:=aA (S1.out.below hb4 S1.out.lt);have y1:=S2.out.cell (j:=2) (by simp);simp only[aB,aC]at y1;clear hb4;go_wp2_with fail;refine(dE _ s.prep 11 6 _ (L2.out.step B2.out) (HW.out.below B2.out) (by omega)).mono ?_;rw[H2.out];rintro e w5 ⟨rfl,hb5⟩;have B3:=aA (aR B2.out hb5 B2.out.size);have S3:=aA (S2.out.below hb5 S2.out.lt);have y2:=S3.out.cell (j:=4) (by simp);simp only[aB,aC]at y2;clear hb5;go_wp2_with fail;refine(dE _ s.wr 10 100 _ (L4.out.step B3.out) (HW.out.below B3.out) (by omega)).mono ?_;rw[H4.out];rintro e w6 ⟨rfl,hb6⟩;have B4:=aA (aR B3.out hb6 B3.out.size);have S4:=aA (S3.out.below hb6 S3.out.lt);have y3:=S4.out.cell (j:=0) (by simp);simp only[aB,aC]at y3;clear hb6;go_wp2;go_ret;exact⟨by rw[HP.out];rfl,B4.out⟩
 ·have e4:(s.st==0)=false:=bJ.2 hs0;clear h5 h6 hst hs1 hs0
  cases h1:cD s.set 6 9
  ·have HP:=aA (sL h1);have H1:=aA h1;clear h1;go_enter Tryz.func91,Tryz.ntmps91;go_wp2_with fail;refine(dE _ s.set 9 6 _ (L1.out.step B0.out) (HW.out.below B0.out) (by omega)).mono ?_;rw[H1.out];rintro e w3 ⟨rfl,hb3⟩;have B1:=aA (aR B0.out hb3 B0.out.size);have S1:=aA (S0.out.below hb3 S0.out.lt);have y0:=S1.out.cell (j:=3) (by simp);simp only[aB,aC]at y0;clear hb3;go_wp2;go_ret;exact⟨by rw[HP.out];rfl,B1.out⟩
  have H1:=aA h1;clear h1
  cases h3:cD s.sav 6 9
  ·have HP:=aA (sN h3);have H3:=aA h3;clear h3;go_enter Tryz.func91,Tryz.ntmps91;go_wp2_with fail;refine(dE _ s.set 9 6 _ (L1.out.step B0.out) (HW.out.below B0.out) (by omega)).mono ?_;rw[H1.out];rintro e w3 ⟨rfl,hb3⟩;have B1:=aA (aR B0.out hb3 B0.out.size);have S1:=aA (S0.out.below hb3 S0.out.lt);have y0:=S1.out.cell (j:=3) (by simp);simp only[aB,aC]at y0;clear hb3;go_wp2_with fail;refine(dE _ s.sav 9 6 _ (L3.out.step B1.out) (HW.out.below B1.out) (by omega)).mono ?_;rw[H3.out];rintro e w4 ⟨rfl,hb4⟩;have B2:=aA (aR B1.out hb4 B1.out.size);have S2:=aA (S1.out.below hb4 S1.out.lt);have y1:=S2.out.cell (j:=2) (by simp);simp only[aB,aC]at y1;clear hb4;go_wp2;go_ret;exact⟨by rw[HP.out];rfl,B2.out⟩
  have H3:=aA h3;clear h3
  cases h2:cD s.prep 6 11
  ·have HP:=aA (sM h2);have H2:=aA h2;clear h2;go_enter Tryz.func91,Tryz.ntmps91;go_wp2_with fail;refine(dE _ s.set 9 6 _ (L1.out.step B0.out) (HW.out.below B0.out) (by omega)).mono ?_;rw[H1.out];rintro e w3 ⟨rfl,hb3⟩;have B1:=aA (aR B0.out hb3 B0.out.size);have S1:=aA (S0.out.below hb3 S0.out.lt);have y0:=S1.out.cell (j:=3) (by simp);simp only[aB,aC]at y0;clear hb3;go_wp2_with fail;refine(dE _ s.sav 9 6 _ (L3.out.step B1.out) (HW.out.below B1.out) (by omega)).mono ?_;rw[H3.out];rintro e w4 ⟨rfl,hb4⟩;have B2:=aA (aR B1.out hb4 B1.out.size);have S2:=aA (S1.out.below hb4 S1.out.lt);have y1:=S2.out.cell (j:=2) (by simp);simp only[aB,aC]at y1;clear hb4;go_wp2_with fail;refine(dE _ s.prep 11 6 _ (L2.out.step B2.out) (HW.out.below B2.out) (by omega)).mono ?_;rw[H2.out];rintro e w5 ⟨rfl,hb5⟩;have B3:=aA (aR B2.out hb5 B2.out.size);have S3:=aA (S2.out.below hb5 S2.out.lt);have y2:=S3.out.cell (j:=4) (by simp);simp only[aB,aC]at y2;clear hb5;go_wp2;go_ret;exact⟨by rw[HP.out];rfl,B3.out⟩
  have H2:=aA h2;clear h2
  cases h4:cD s.wr 100 10
  ·have HP:=aA (sO h4);have H4:=aA h4;clear h4;go_enter Tryz.func91,Tryz.ntmps91;go_wp2_with fail;refine(dE _ s.set 9 6 _ (L1.out.step B0.out) (HW.out.below B0.out) (by omega)).mono ?_;rw[H1.out];rintro e w3 ⟨rfl,hb3⟩;have B1:=aA (aR B0.out hb3 B0.out.size);have S1:=aA (S0.out.below hb3 S0.out.lt);have y0:=S1.out.cell (j:=3) (by simp);simp only[aB,aC]at y0;clear hb3;go_wp2_with fail;refine(dE _ s.sav 9 6 _ (L3.out.step B1.out) (HW.out.below B1.out) (by omega)).mono ?_;rw[H3.out];rintro e w4 ⟨rfl,hb4⟩;have B2:=aA (aR B1.out hb4 B1.out.size);have S2:=aA (S1.out.below hb4 S1.out.lt);have y1:=S2.out.cell (j:=2) (by simp);simp only[aB,aC]at y1;clear hb4;go_wp2_with fail;refine(dE _ s.prep 11 6 _ (L2.out.step B2.out) (HW.out.below B2.out) (by omega)).mono ?_;rw[H2.out];rintro e w5 ⟨rfl,hb5⟩;have B3:=aA (aR B2.out hb5 B2.out.size);have S3:=aA (S2.out.below hb5 S2.out.lt);have y2:=S3.out.cell (j:=4) (by simp);simp only[aB,aC]at y2;clear hb5;go_wp2_with fail;refine(dE _ s.wr 10 100 _ (L4.out.step B3.out) (HW.out.below B3.out) (by omega)).mono ?_;rw[H4.out];rintro e w6 ⟨rfl,hb6⟩;have B4:=aA (aR B3.out hb6 B3.out.size);have S4:=aA (S3.out.below hb6 S3.out.lt);have y3:=S4.out.cell (j:=0) (by simp);simp only[aB,aC]at y3;clear hb6;go_wp2;go_ret;exact⟨by rw[HP.out];rfl,B4.out⟩
  have H4:=aA h4;clear h4;have HP:=aA (HG.out H1.out H2.out H3.out H4.out);go_enter Tryz.func91,Tryz.ntmps91;go_wp2_with fail;refine(dE _ s.set 9 6 _ (L1.out.step B0.out) (HW.out.below B0.out) (by omega)).mono ?_;rw[H1.out];rintro e w3 ⟨rfl,hb3⟩;have B1:=aA (aR B0.out hb3 B0.out.size);have S1:=aA (S0.out.below hb3 S0.out.lt);have y0:=S1.out.cell (j:=3) (by simp);simp only[aB,aC]at y0;clear hb3;go_wp2_with fail;refine(dE _ s.sav 9 6 _ (L3.out.step B1.out) (HW.out.below B1.out) (by omega)).mono ?_;rw[H3.out];rintro e w4 ⟨rfl,hb4⟩;have B2:=aA (aR B1.out hb4 B1.out.size);have S2:=aA (S1.out.below hb4 S1.out.lt);have y1:=S2.out.cell (j:=2) (by simp);simp only[aB,aC]at y1;clear hb4;go_wp2_with fail;refine(dE _ s.prep 11 6 _ (L2.out.step B2.out) (HW.out.below B2.out) (by omega)).mono ?_;rw[H2.out];rintro e w5 ⟨rfl,hb5⟩;have B3:=aA (aR B2.out hb5 B2.out.size);have S3:=aA (S2.out.below hb5 S2.out.lt);have y2:=S3.out.cell (j:=4) (by simp);simp only[aB,aC]at y2;clear hb5;go_wp2_with fail;refine(dE _ s.wr 10 100 _ (L4.out.step B3.out) (HW.out.below B3.out) (by omega)).mono ?_;rw[H4.out];rintro e w6 ⟨rfl,hb6⟩;have B4:=aA (aR B3.out hb6 B3.out.size);have S4:=aA (S3.out.below hb6 S3.out.lt);have y3:=S4.out.cell (j:=0) (by simp);simp only[aB,aC]at y3;clear hb6;go_wp2;go_ret;exact⟨by rw[HP.out];rfl,B4.out⟩
def qL (W:Wd):Int:=if iA W then 0 else 5
theorem qM {W:Wd}(h:iA W=false):qL W=5:=by unfold qL;rw[h];rfl
theorem kAw {W:Wd}(h:iA W=true):qL W=0:=by unfold qL;rw[h];rfl
def uA3 (w:World)(W:Wd)(r s:Value)(i:Nat)(wr:World):Prop:=(∀j (hj:j<W.ss.length),j<i->eK W.ss[j]=true)/\nP w r s wr/\Below w.heap.size w wr
theorem uA4 {W:Wd}(h1:cD W.rows 100 10=true)(h2:W.ss.length<=8)(h3: ∀i (hi:i<W.ss.length),eK W.ss[i]=true):iA W=(kZ W&&decide ((aW W).length<=100)):=by
 have hall:W.ss.all eK=true:=by
  rw[List.all_eq_true];intro s hs;obtain⟨i,hi,rfl⟩:=List.getElem_of_mem hs;exact h3 i hi
 rw[vA6 (fun i hi=>(bW (sP.1 (h3 i hi)).wr).1)];unfold iA;rw[h1,cF h2,hall];rfl
theorem uA5 (r s:Value)(W:Wd)(w:World)(hW:Wld w w.heap.size r s W)(hWo:Words w):
  Calls Tryz.prog 62 #[.agg #[r,s]] w fun e w'=>e= .returned (.int .i64 (qL W))/\Below w.heap.size w w':=by
 have HWW:=aA hW;have HWo:=aA hWo;obtain⟨hr,hs⟩:=hW;obtain⟨A,c,rfl,hc⟩:=hs.form;obtain⟨D,d,rfl,hd⟩:=hr.form;have hby:=hs.bytes;have HS:=aA hs;have HR:=aA hr;clear hs hr hWo;have b0:Below w.heap.size w (w.alloc (.cells #[.slice D W.rows.length d,.slice A W.ss.length c] 39)):=(aD _ _).alloc (aI _) _;have HX:=aA (RowTo.whole w #[.slice D W.rows.length d,.slice A W.ss.length c] 39)
 by_cases h8:W.ss.length<=8
 case neg=>
  have HP:=aA (qM (zAw h8));have hd8:decide ((8:Int)<(W.ss.length:Int))=true:=cF (by omega);have hd8':decide (8<W.ss.length)=true:=cF (by omega);go_enter Tryz.func62,Tryz.ntmps62;go_wp2;go_ret;exact⟨by rw[HP.out];rfl,b0⟩
 have hd8:decide ((8:Int)<(W.ss.length:Int))=false:=aY (by omega);have hd8':decide (8<W.ss.length)=false:=aY (by omega)
 cases hp:cD W.rows 100 10
 ·have HP:=aA (qM (zAv hp));have HPB:=aA hp;clear hp;go_enter Tryz.func62,Tryz.ntmps62;go_wp2_with fail;refine(dE _ W.rows 10 100 _ (HR.out.step b0) (HWo.out.below b0) (by omega)).mono ?_;rw[HPB.out];rintro e w1 ⟨rfl,hb1⟩;go_wp2;go_ret;exact⟨by rw[HP.out];rfl,aR b0 hb1 b0.size⟩
 have HPB:=aA hp;clear hp;go_enter Tryz.func62,Tryz.ntmps62;go_wp2_with fail;refine(dE _ W.rows 10 100 _ (HR.out.step b0) (HWo.out.below b0) (by omega)).mono ?_;rw[HPB.out];rintro e w1 ⟨rfl,hb1⟩;have HX1:=HX.out.below hb1 HX.out.lt;have x1:=HX1.cell (j:=1) (by simp);simp only[aB,aC]at x1;have HXX:=aA HX1;have HBB:=aA (aR b0 hb1 b0.size);clear HX1 HX hb1;go_wp2;clear x1
 go_loopw [18] (fun i wr=> ∃k:Nat,k<=W.ss.length/\i= .int .i64 k/\uA3 w W (.slice D W.rows.length d) (.slice A W.ss.length c) k wr) (fun i _=>W.ss.length-(intOf i).toNat)
 case atStart=>exact⟨0,by omega,rfl,fun j hj h=>by omega,HXX.out,HBB.out⟩
 case round=>
  clear HXX HBB b0;obtain⟨i,hi,rfl,hok,hbox,bel⟩:=hrel;have x0:=hbox.cell (j:=0) (by simp);have x1:=hbox.cell (j:=1) (by simp);simp only[aB,aC]at x0 x1;have hxl:=hbox.lt;have HOK:=aA hok;have HX:=aA hbox;have HB:=aA bel;clear hok hbox bel
  by_cases hlt:i<W.ss.length
  ·obtain⟨b,off,v1,v2,v3,v4,rfl,hb,hses⟩:=HS.out.pt hlt;have HW1:=aA (fun h=>zAx (W:=W) hlt h);have HOK1:=aA (fun(h:eK W.ss[i]=true)=>(fun j hj hji=>if e:j=i then by subst e;exact h else HOK.out j hj (by omega): ∀j (hj:j<W.ss.length),j<i+1->eK W.ss[j]=true));generalize hsk:W.ss[i]=s at*;obtain⟨d0,d1,d2,d3,d4,l1,l2,l3,l4⟩:=hses.keep (w':=wr) hb (aI _) fun p hp=>HB.out.cell hp
   obtain⟨A1,c1,rfl,_⟩:=l1.form;obtain⟨A2,c2,rfl,_⟩:=l2.form;obtain⟨A3,c3,rfl,_⟩:=l3.form;obtain⟨A4,c4,rfl,_⟩:=l4.form;have HL:=aA hses;clear l1 l2 l3 l4 hses hsk;have B0:=aA (HB.out.alloc HB.out.size (.cells #[.int .i64 s.st,.slice A1 s.set.length c1,.slice A2 s.prep.length c2,.slice A3 s.sav.length c3,.slice A4 s.wr.length c4] 115));have X0:=aA (RowTo.alloc HX.out (.cells #[.int .i64 s.st,.slice A1 s.set.length c1,.slice A2 s.prep.length c2,.slice A3 s.sav.length c3,.slice A4 s.wr.length c4] 115))
   cases hb:eK s
   ·have HP:=aA (qM (HW1.out hb));have HQ:=aA hb;clear hb;go_wp2_with fail;refine(kAv s _ _ _ _ _ (HL.out.l1.step B0.out) (HL.out.l2.step B0.out) (HL.out.l3.step B0.out) (HL.out.l4.step B0.out) (HWo.out.below B0.out)).mono ?_;rw[HQ.out];rintro e w2 ⟨rfl,hb2⟩;go_wp2;go_ret;exact⟨by rw[HP.out];rfl,aR B0.out hb2 B0.out.size⟩
   ·have HT:=aA (HOK1.out hb);have HQ:=aA hb;clear hb;go_wp2_with fail;refine(kAv s _ _ _ _ _ (HL.out.l1.step B0.out) (HL.out.l2.step B0.out) (HL.out.l3.step B0.out) (HL.out.l4.step B0.out) (HWo.out.below B0.out)).mono ?_;rw[HQ.out];rintro e w2 ⟨rfl,hb2⟩;have HB2:=aA (aR B0.out hb2 B0.out.size);have HX2:=aA (X0.out.below hb2 X0.out.lt);clear hb2;go_wp2;go_roundw
    case rel=>exact⟨i+1,by omega,by go_num,HT.out,HX2.out,HB2.out⟩
    case measure=>simp[intOf];omega
  ·have hall: ∀j (hj:j<W.ss.length),eK W.ss[j]=true:=fun j hj=>HOK.out j hj (by omega)
   have HL:=aA (uA4 HPB.out h8 hall);have hpr:=bW HPB.out;have hwr: ∀j (hj:j<W.ss.length),W.ss[j].wr.length<=100:=fun j hj=>(bW (sP.1 (hall j hj)).wr).2.1
   have HF:=aA (fun(w9:World) (h9:Wld w9 w9.heap.size (.slice D W.rows.length d) (.slice A W.ss.length c) W)=>jAx _ _ W w9 h9 hpr.2.1 hpr.1 h8 hwr);clear hall hpr hwr
   cases hf:(kZ W&&decide ((aW W).length<=100))
   ·have HP:=aA (qM (HL.out.trans hf));have HQ:=aA hf;clear hf;go_wp2_with fail;refine(HF.out _ (HWW.out.step HB.out)).mono ?_;rw[HQ.out];rintro e w2 ⟨rfl,hb2⟩;go_wp2;go_ret;exact⟨by rw[HP.out];rfl,aR HB.out hb2 HB.out.size⟩
   ·have HP:=aA (kAw (HL.out.trans hf));have HQ:=aA hf;clear hf;go_wp2_with fail;refine(HF.out _ (HWW.out.step HB.out)).mono ?_;rw[HQ.out];rintro e w2 ⟨rfl,hb2⟩;go_wp2;go_ret;exact⟨by rw[HP.out];rfl,aR HB.out hb2 HB.out.size⟩
theorem uA6 (r s:Value)(W:Wd)(i k:Int)(key val:ByteArray)(w:World)(hW:Wld w w.heap.size r s W)(hWo:Words w)(hkz:key.size<=maxLen)(hvz:val.size<=maxLen):
  Calls Tryz.prog 43 #[.agg #[r,s],.int .i64 i,.agg #[.int .i64 k,.string key,.string val]] w fun e w'=>e= .returned (.int .i64 (kK W i k key val))/\Below w.heap.size w w':=by
 obtain⟨A,c,rfl,hc⟩:=hW.sess.form;obtain⟨D,d,rfl,hd⟩:=hW.rows.form;have b0:Below w.heap.size w ((w.alloc (.cells #[.slice D W.rows.length d,.slice A W.ss.length c] 39)).alloc (.cells #[.int .i64 k,.string key,.string val] 41)):=((aD _ _).alloc (aI _) _).alloc (by simp) _;have X0:RowTo ((w.alloc (.cells #[.slice D W.rows.length d,.slice A W.ss.length c] 39)).alloc (.cells #[.int .i64 k,.string key,.string val] 41)) w.heap.size 39 2 [.slice D W.rows.length d,.slice A W.ss.length c]:=(RowTo.whole w #[.slice D W.rows.length d,.slice A W.ss.length c] 39).alloc _
 have Y0:RowTo ((w.alloc (.cells #[.slice D W.rows.length d,.slice A W.ss.length c] 39)).alloc (.cells #[.int .i64 k,.string key,.string val] 41)) (w.heap.size+1) 41 3 [.int .i64 k,.string key,.string val]:=by
  have:=RowTo.whole (w.alloc (.cells #[.slice D W.rows.length d,.slice A W.ss.length c] 39)) #[.int .i64 k,.string key,.string val] 41
  simpa using this
 have HC:=aA (uA5 _ _ W _ (hW.step b0) (hWo.below b0));have HWo:=aA hWo;have B0:=aA b0;have HX0:=aA X0;have HY0:=aA Y0;clear hW hWo b0 X0 Y0
 cases hb:iA W
 ·have HD:=aA (show kK W i k key val=5 by unfold kK;rw[if_pos hb]);have HB:=aA (qM hb);clear hb;go_enter Tryz.func43,Tryz.ntmps43;go_wp2_with fail;refine HC.out.mono ?_;rw[HB.out];rintro e w1 ⟨rfl,hb1⟩;have B1:=aA (aR B0.out hb1 B0.out.size);clear hb1;go_wp2;go_ret;exact⟨by rw[HD.out];rfl,B1.out⟩
 have HB:=aA (kAw hb)
 have hcase:(i<0/\kK W i k key val=6)\/(0<=i/\(W.ss.length:Int)<=i/\kK W i k key val=6)\/(0<=i/\i<(W.ss.length:Int)/\kK W i k key val=bZ k key val):=by
  unfold kK;rw[if_neg (by rw[hb];simp)]
  by_cases h1:i<0
  ·left;exact⟨h1,if_pos (.inl h1)⟩
  ·right
   by_cases h2:(W.ss.length:Int)<=i
   ·left;exact⟨by omega,h2,if_pos (.inr h2)⟩
   ·right;exact⟨by omega,by omega,if_neg (by omega)⟩
 clear hb;rcases hcase with⟨h1,hd⟩|⟨h1,h2,hd⟩|⟨h1,h2,hd⟩
 ·have HD:=aA hd;have t1:decide (i<0)=true:=cF h1;clear hd;go_enter Tryz.func43,Tryz.ntmps43;go_wp2_with fail;refine HC.out.mono ?_;rw[HB.out];rintro e w1 ⟨rfl,hb1⟩;have B1:=aA (aR B0.out hb1 B0.out.size);have X1:=HX0.out.below hb1 HX0.out.lt;have c1:=X1.cell (j:=1) (by simp);simp only[aB,aC]at c1;clear hb1 X1;go_wp2;go_ret;exact⟨by rw[HD.out];rfl,B1.out⟩
 ·have HD:=aA hd;have t1:decide (i<0)=false:=aY (by omega);have t2:decide ((W.ss.length:Int)<=i)=true:=cF h2;clear hd;go_enter Tryz.func43,Tryz.ntmps43;go_wp2_with fail;refine HC.out.mono ?_;rw[HB.out];rintro e w1 ⟨rfl,hb1⟩;have B1:=aA (aR B0.out hb1 B0.out.size);have X1:=HX0.out.below hb1 HX0.out.lt;have c1:=X1.cell (j:=1) (by simp);simp only[aB,aC]at c1;clear hb1 X1;go_wp2;go_ret;exact⟨by rw[HD.out];rfl,B1.out⟩
 ·have HD:=aA hd;have t1:decide (i<0)=false:=aY (by omega);have t2:decide ((W.ss.length:Int)<=i)=false:=aY (by omega);clear hd;go_enter Tryz.func43,Tryz.ntmps43;go_wp2_with fail;refine HC.out.mono ?_;rw[HB.out];rintro e w1 ⟨rfl,hb1⟩;have B1:=aA (aR B0.out hb1 B0.out.size);have X1:=HX0.out.below hb1 HX0.out.lt;have c1:=X1.cell (j:=1) (by simp);have Y1:=HY0.out.below hb1 HY0.out.lt;have y0:=Y1.cell (j:=0) (by simp);have y1:=Y1.cell (j:=1) (by simp);have y2:=Y1.cell (j:=2) (by simp);simp only[aB,aC]at c1 y0 y1 y2;clear hb1 X1 Y1;go_wp2_with fail;refine(nQ k key val _ hkz hvz (HWo.out.below B1.out)).mono ?_;rintro e w2 ⟨rfl,hb2⟩;have B2:=aA (aR B1.out hb2 B1.out.size);clear hb2;go_wp2;go_ret;exact⟨by rw[HD.out];rfl,B2.out⟩
theorem uA7:(Tryz.prog.info? 115).map (fun i=>(i.zero,i.size,i.bytes))=some (some (.agg #[.int .i64 0,.slice none 0 0,.slice none 0 0,.slice none 0 0,.slice none 0 0]),5,104):=by kernel_rfl
theorem wJ (n:Nat)(h:n*104<=140737488351232)(w:World):
  (Instr.makeSlice 37 (.int .i64 (n:Int)) (.int .i64 (n:Int))).run Tryz.prog w= .ok (.slice (some ⟨w.heap.size,0,none⟩) n n) (w.alloc (.cells (madeCells (Value.agg #[.int .i64 0,.slice none 0 0,.slice none 0 0,.slice none 0 0,.slice none 0 0]).cells (n*5)) 115)):=by
 obtain⟨i0,hi,hz0,hz1,hz2⟩:=info_parts uA7;have hr:=run_make (P:=Tryz.prog) w 37 115 i0 _ Tryz.underlying37 hi hz0 .i64 .i64 (n:Int) (n:Int) (by omega) (Int.le_refl _) (by rw[hz2];omega) (by omega);rw[hz1]at hr
 simpa only[Int.toNat_natCast] using hr
structure OwnW (w:World)(base gR S:Nat)(G:Nat->Nat->Nat)(W:Wd):Prop where
 rows:RowTo w gR 60 (W.rows.length*2) (bO W.rows)
 sess:OwnS w base S W.ss.length G W.ss W.ss.length
 loR:base<=gR
 loS:base<=S
 neS:gR≠S
 neG: ∀i j,i<W.ss.length->j<4->G i j≠gR
def uA8 (w:World)(W:Wd)(e:Ending)(w':World):Prop:=
 ∃gR S G,e= .returned (.agg #[sl gR W.rows.length,sl S W.ss.length])/\OwnW w' w.heap.size gR S G W/\Below w.heap.size w w'
theorem qN {w:World}{b R i o:Nat}{u a0 a1 a2 a3 a4:Value}(h:w.cell? ⟨b,i,none⟩=some u)(hne:b≠R):
  (((((w.setCell ⟨R,o,none⟩ a0).setCell ⟨R,o+1,none⟩ a1).setCell ⟨R,o+2,none⟩ a2).setCell ⟨R,o+3,none⟩ a3).setCell ⟨R,o+4,none⟩ a4).cell? ⟨b,i,none⟩=some u:=
 (zAa (p:=⟨b,i,none⟩) hne).trans h
def uA9 (w:World)(W:Wd)(r s:Value)(k:Nat)(wr:World):Prop:=
 ∃G,OwnS wr (w.heap.size+1+1) (w.heap.size+1+1) W.ss.length G W.ss k/\RowTo wr w.heap.size 39 2 [r,s]/\RowTo wr (w.heap.size+1) 39 2 []/\Below w.heap.size w wr
theorem uAa (r s:Value)(W:Wd)(w:World)(hW:Wld w w.heap.size r s W):
  Calls Tryz.prog 44 #[.agg #[r,s]] w (uA8 w W):=by
 obtain⟨hr,hs⟩:=hW;obtain⟨A,c,rfl,hc⟩:=hs.form;obtain⟨A',c',rfl,hc'⟩:=hr.form;have hby:=hs.bytes;have hmk:=wJ W.ss.length hby;have HS:=aA hs;have HR:=aA hr;clear hs hr;go_enter Tryz.func44,Tryz.ntmps44;go_wp2;clear hmk
 go_loopw [13] (fun i wr=> ∃k:Nat,k<=W.ss.length/\i= .int .i64 k/\uA9 w W (.slice A' W.rows.length c') (.slice A W.ss.length c) k wr) (fun i _=>W.ss.length-(intOf i).toNat)
 case atStart=>
  refine⟨0,by omega,rfl,fun _ _=>0,⟨?_,fun i _ h=>absurd h (by omega),fun i j _ h=>absurd h (by omega),fun i j _ h=>absurd h (by omega),fun i j h=>absurd h (by omega),fun i j h=>absurd h (by omega),fun i j i' j' h=>absurd h (by omega)⟩,?_,?_,?_⟩
  ·have:=RowTo.new ((w.alloc (.cells #[.slice A' W.rows.length c',.slice A W.ss.length c] 39)).alloc (.cells #[.slice none 0 0,.slice none 0 0] 39)) (madeCells #[.int .i64 0,.slice none 0 0,.slice none 0 0,.slice none 0 0,.slice none 0 0] (W.ss.length*5)) 115;rw[wC]at this
   simpa using this
  ·exact((RowTo.whole w #[.slice A' W.rows.length c',.slice A W.ss.length c] 39).alloc _).alloc _
  ·have:=(RowTo.new (w.alloc (.cells #[.slice A' W.rows.length c',.slice A W.ss.length c] 39)) #[.slice none 0 0,.slice none 0 0] 39).alloc (.cells (madeCells #[.int .i64 0,.slice none 0 0,.slice none 0 0,.slice none 0 0,.slice none 0 0] (W.ss.length*5)) 115)
   simpa using this
  ·repeat' (first|exact aD _ _|assumption|with_reducible refine aZ ?_ _|with_reducible refine Below.drew ?_|with_reducible refine dT ?_ ?_ _|with_reducible refine dU ?_ ?_ _|(simp;done)|(simp;omega))
 case round=>
  obtain⟨k,hk,rfl,G,hown,hbox,hres,bel⟩:=hrel
  by_cases hlt:k<W.ss.length
  ·obtain⟨b,off,v1,v2,v3,v4,rfl,hb,hses⟩:=HS.out.pt hlt;generalize hsk:W.ss[k]=s at*;have HK:=aA hsk;clear hsk;obtain⟨d0,d1,d2,d3,d4,l1,l2,l3,l4⟩:=hses.keep (w':=wr) hb (aI _) fun p hp=>bel.cell hp
   obtain⟨A1,c1,rfl,_⟩:=l1.form;obtain⟨A2,c2,rfl,_⟩:=l2.form;obtain⟨A3,c3,rfl,_⟩:=l3.form;obtain⟨A4,c4,rfl,_⟩:=l4.form;have L1:=aA hses.l1;have L2:=aA hses.l2;have L3:=aA hses.l3;have L4:=aA hses.l4;have hwlt:=hown.blk.lt;have HO:=aA hown;have HX:=aA hbox;have HY:=aA hres;have HB:=aA bel;clear hown hbox hres bel hses l1 l2 l3 l4;go_wp2;clear d0 d1 d2 d3 d4;have e0:=nO wr #[.int .i64 s.st,(.slice A1 s.set.length c1),(.slice A2 s.prep.length c2),(.slice A3 s.sav.length c3),(.slice A4 s.wr.length c4)] 115 0 (by simp);have e1:=nO wr #[.int .i64 s.st,(.slice A1 s.set.length c1),(.slice A2 s.prep.length c2),(.slice A3 s.sav.length c3),(.slice A4 s.wr.length c4)] 115 1 (by simp);have e2:=nO wr #[.int .i64 s.st,(.slice A1 s.set.length c1),(.slice A2 s.prep.length c2),(.slice A3 s.sav.length c3),(.slice A4 s.wr.length c4)] 115 2 (by simp);have e3:=nO wr #[.int .i64 s.st,(.slice A1 s.set.length c1),(.slice A2 s.prep.length c2),(.slice A3 s.sav.length c3),(.slice A4 s.wr.length c4)] 115 3 (by simp);have e4:=nO wr #[.int .i64 s.st,(.slice A1 s.set.length c1),(.slice A2 s.prep.length c2),(.slice A3 s.sav.length c3),(.slice A4 s.wr.length c4)] 115 4 (by simp);simp only[aE,aB,aC]at e0 e1 e2 e3 e4;have R0:=aA (HO.out.blk.alloc (.cells #[.int .i64 s.st,(.slice A1 s.set.length c1),(.slice A2 s.prep.length c2),(.slice A3 s.sav.length c3),(.slice A4 s.wr.length c4)] 115));have A0:=aA ((aD wr.heap.size wr).alloc (aI _) (.cells #[.int .i64 s.st,(.slice A1 s.set.length c1),(.slice A2 s.prep.length c2),(.slice A3 s.sav.length c3),(.slice A4 s.wr.length c4)] 115));have B0:=aA (HB.out.alloc HB.out.size (.cells #[.int .i64 s.st,(.slice A1 s.set.length c1),(.slice A2 s.prep.length c2),(.slice A3 s.sav.length c3),(.slice A4 s.wr.length c4)] 115));have hz0:wr.heap.size<(wr.alloc (.cells #[.int .i64 s.st,(.slice A1 s.set.length c1),(.slice A2 s.prep.length c2),(.slice A3 s.sav.length c3),(.slice A4 s.wr.length c4)] 115)).heap.size:=by simp
   generalize wr.alloc (.cells #[.int .i64 s.st,(.slice A1 s.set.length c1),(.slice A2 s.prep.length c2),(.slice A3 s.sav.length c3),(.slice A4 s.wr.length c4)] 115)=W0 at*;have kb:=aD W0.heap.size W0;have kbw:=B0.out;have hz1:w.heap.size+1+1<W0.heap.size:=by omega
   have hne:wr.heap.size≠w.heap.size+1+1:=by omega
   have dS0:=aA (show W0.drew.cell? ⟨wr.heap.size,0,none⟩=some (.int .i64 s.st)/\W0.drew.cell? ⟨wr.heap.size,1,none⟩=some (.slice A1 s.set.length c1)/\W0.drew.cell? ⟨wr.heap.size,2,none⟩=some (.slice A2 s.prep.length c2)/\W0.drew.cell? ⟨wr.heap.size,3,none⟩=some (.slice A3 s.sav.length c3)/\W0.drew.cell? ⟨wr.heap.size,4,none⟩=some (.slice A4 s.wr.length c4)from⟨e0,e1,e2,e3,e4⟩)
   go_region_held3 (fun wx=>wx.cell? ⟨wr.heap.size,0,none⟩=some (.int .i64 s.st)/\wx.cell? ⟨wr.heap.size,1,none⟩=some (.slice A1 s.set.length c1)/\wx.cell? ⟨wr.heap.size,2,none⟩=some (.slice A2 s.prep.length c2)/\wx.cell? ⟨wr.heap.size,3,none⟩=some (.slice A3 s.sav.length c3)/\wx.cell? ⟨wr.heap.size,4,none⟩=some (.slice A4 s.wr.length c4))
    (first
     |with_reducible exact⟨e0,e1,e2,e3,e4⟩
     |with_reducible exact dS0.out
     |with_reducible exact⟨qN ((kb.cell (p:=⟨wr.heap.size,0,none⟩) hz0).trans e0) hne,qN ((kb.cell (p:=⟨wr.heap.size,1,none⟩) hz0).trans e1) hne,qN ((kb.cell (p:=⟨wr.heap.size,2,none⟩) hz0).trans e2) hne,qN ((kb.cell (p:=⟨wr.heap.size,3,none⟩) hz0).trans e3) hne,qN ((kb.cell (p:=⟨wr.heap.size,4,none⟩) hz0).trans e4) hne⟩
     | with_reducible exact ⟨(kb.cell (p := ⟨wr.heap.size, 0, none⟩) hz0).trans e0, (kb.cell (p := ⟨wr.heap.size, 1, none⟩) hz0).trans e1, (kb.cell (p := ⟨wr.heap.size, 2, none⟩) hz0).trans e2, (kb.cell (p := ⟨wr.heap.size, 3, none⟩) hz0).trans e3, (kb.cell (p := ⟨wr.heap.size, 4, none⟩) hz0).trans e4⟩)
    (first
     | (
      go_at_call_of 63 (Value.slice A1 s.set.length c1)
      (with_reducible refine(oS (.slice A1 s.set.length c1) s.set _ ?_).mono ?_)
      case refine_1=>first|exact L1.out.step kbw|exact L1.out.step kbw.drew|exact L1.out.step (aZ kbw _)
      rintro e w3 ⟨g0,rfl,q0,r0,hy⟩;have kb:Below W0.heap.size W0 w3:=by first|exact jB kb hy kb.size|exact mB kb hy kb.size
      have kbw:Below w.heap.size w w3:=jB B0.out kb B0.out.size
      have q0 : W0.heap.size ≤ g0 := q0)
     | (
      go_at_call_of 63 (Value.slice A2 s.prep.length c2)
      (with_reducible refine(oS (.slice A2 s.prep.length c2) s.prep _ ?_).mono ?_)
      case refine_1=>first|exact L2.out.step kbw|exact L2.out.step kbw.drew|exact L2.out.step (aZ kbw _)
      rintro e w3 ⟨g1,rfl,q1,r1,hy⟩;have kb:Below W0.heap.size W0 w3:=by first|exact jB kb hy kb.size|exact mB kb hy kb.size
      have kbw:Below w.heap.size w w3:=jB B0.out kb B0.out.size;have q1:g0<g1:=bD r0.lt q1
      have r0 := r0.below hy r0.lt)
     | (
      go_at_call_of 63 (Value.slice A3 s.sav.length c3)
      (with_reducible refine(oS (.slice A3 s.sav.length c3) s.sav _ ?_).mono ?_)
      case refine_1=>first|exact L3.out.step kbw|exact L3.out.step kbw.drew|exact L3.out.step (aZ kbw _)
      rintro e w3 ⟨g2,rfl,q2,r2,hy⟩;have kb:Below W0.heap.size W0 w3:=by first|exact jB kb hy kb.size|exact mB kb hy kb.size
      have kbw:Below w.heap.size w w3:=jB B0.out kb B0.out.size;have q2:g1<g2:=bD r1.lt q2;have r0:=r0.below hy r0.lt
      have r1 := r1.below hy r1.lt)
     | (
      go_at_call_of 63 (Value.slice A4 s.wr.length c4)
      (with_reducible refine(oS (.slice A4 s.wr.length c4) s.wr _ ?_).mono ?_)
      case refine_1=>first|exact L4.out.step kbw|exact L4.out.step kbw.drew|exact L4.out.step (aZ kbw _)
      rintro e w3 ⟨g3,rfl,q3,r3,hy⟩;have kb:Below W0.heap.size W0 w3:=by first|exact jB kb hy kb.size|exact mB kb hy kb.size
      have kbw:Below w.heap.size w w3:=jB B0.out kb B0.out.size;have q3:g2<g3:=bD r2.lt q3;have r0:=r0.below hy r0.lt;have r1:=r1.below hy r1.lt;have r2:=r2.below hy r2.lt;have Rb:=aA (R0.out.below kb hz1);obtain⟨u0,f0⟩:=Rb.out.any (j:=k*5) (by omega);obtain⟨u1,f1⟩:=Rb.out.any (j:=k*5+1) (by omega);obtain⟨u2,f2⟩:=Rb.out.any (j:=k*5+2) (by omega);obtain⟨u3,f3⟩:=Rb.out.any (j:=k*5+3) (by omega);obtain⟨u4,f4⟩:=Rb.out.any (j:=k*5+4) (by omega);have y0:=Rb.out.frozen (k*5);have y1:=Rb.out.frozen (k*5+1);have y2:=Rb.out.frozen (k*5+2);have y3:=Rb.out.frozen (k*5+3)
      have y4 := Rb.out.frozen (k * 5 + 4)))
   go_wp2;go_roundw
   case rel=>
    refine⟨k+1,by omega,by go_num,(fun i j=>if i=k then nM g0 g1 g2 g3 j else G i j),?_,?_,?_,?_⟩
    ·have hk':=HK.out;subst hk';exact HO.out.step hlt rfl (by omega) (A0.out.trans (kb.mono (by omega))) r0 r1 r2 r3 (by omega) q1 q2 q3
    ·have:=(HX.out.below (A0.out.trans (kb.mono (by omega))) HX.out.lt);exact nK this (by omega)
    ·have:=(HY.out.below (A0.out.trans (kb.mono (by omega))) HY.out.lt);exact nK this (by omega)
    ·exact zA9 kbw (by omega)
   case measure=>simp[intOf];omega
  ·obtain rfl:k=W.ss.length:=by omega
   have x0:=hbox.cell (j:=0) (by simp);have x1:=hbox.cell (j:=1) (by simp);simp only[aB,aC]at x0 x1;have HO:=aA hown;have HY:=aA hres;have HB:=aA bel;have hwlt:=hown.blk.lt;clear hown hbox hres bel;go_wp2_with fail;refine(oS _ W.rows _ (HR.out.step HB.out)).mono ?_;rintro e w3 ⟨g,rfl,q,rr,hy⟩;have Y3:=HY.out.below hy HY.out.lt;obtain⟨u0,f0⟩:=Y3.any (j:=0) (by omega);obtain⟨u1,f1⟩:=Y3.any (j:=1) (by omega);have y0:=Y3.frozen 0;have y1:=Y3.frozen 1;have HR3:=aA rr;have HY3:=aA Y3;clear rr Y3;go_wp2;refine bE (v:= .agg #[.slice (some ⟨g,0,none⟩) W.rows.length W.rows.length,.slice (some ⟨w.heap.size+1+1,0,none⟩) W.ss.length W.ss.length]) (by simp[results,Tryz.results44,go_sem,f0,f1]) rfl ?_;have O3:=HO.out.kept (aI _) hy;have hne:w.heap.size+1≠g:=by omega
   refine⟨g,w.heap.size+1+1,G,rfl,⟨(HR3.out.other hne _).other hne _,?_,by omega,by omega,by omega,fun i j hi hj=>?_⟩,?_⟩
   ·have hS:=O3.blk.lt
    have hw: ∀p:Addr,p.block≠w.heap.size+1->((w3.setCell ⟨w.heap.size+1,0,none⟩ (.slice (some ⟨g,0,none⟩) W.rows.length W.rows.length)).setCell ⟨w.heap.size+1,1,none⟩ (.slice (some ⟨w.heap.size+1+1,0,none⟩) W.ss.length W.ss.length)).cell? p=w3.cell? p:=fun p hp=>by
     rw[jS _ _ _ _ (fun e=>hp (by rw[<-e])),jS _ _ _ _ (fun e=>hp (by rw[<-e]))]
    have hG: ∀i j,i<W.ss.length->j<4->w.heap.size+1≠G i j:=fun i j hi hj e=>(by have:=HO.out.lo i j hi hj;omega);refine⟨(O3.blk.other (by simp) _).other (by simp) _,fun i hi hik=>(hw _ (by simp)).trans (O3.st i hi hik),fun i j hi hik hj=>(hw _ (by simp)).trans (O3.cs i j hi hik hj),fun i j hi hik hj=>((O3.ls i j hi hik hj).other (hG i j hik hj) _).other (hG i j hik hj) _,fun i j hi hj=>by have:=O3.lo i j hi hj;omega,O3.ne,O3.inj⟩
   ·have:=(HO.out.ls i j hi hi hj).lt;omega
   ·exact((jB HB.out hy HB.out.size).setCell (by simp) _).setCell (by simp) _
theorem OwnW.wld {w:World}{base gR S:Nat}{G:Nat->Nat->Nat}{W:Wd}(h:OwnW w base gR S G W){w0:World}{r s:Value}{B0:Nat}(h0:Wld w0 B0 r s W):Wld w w.heap.size (sl gR W.rows.length) (sl S W.ss.length) W:=by
 refine⟨h.rows.lst (aI _) h.rows.lt h0.rows.bytes h0.rows.sizes,⟨⟨_,_,rfl,aI _⟩,h0.sess.bytes,fun hn=>⟨S,0,W.ss.length,rfl,h.sess.blk.lt,fun i hi=>?_⟩⟩⟩;obtain⟨b,off,c,e,hb,hc⟩:=h0.sess.cells hn;obtain⟨v1,v2,v3,v4,hs⟩:=hc i hi;have hc0:=h.sess.st i hi hi;have hc1:=h.sess.cs i 0 hi hi (by omega);have hc2:=h.sess.cs i 1 hi hi (by omega);have hc3:=h.sess.cs i 2 hi hi (by omega);have hc4:=h.sess.cs i 3 hi hi (by omega);have l1:=h.sess.ls i 0 hi hi (by omega);have l2:=h.sess.ls i 1 hi hi (by omega);have l3:=h.sess.ls i 2 hi hi (by omega);have l4:=h.sess.ls i 3 hi hi (by omega);rw[cW];exact⟨_,_,_,_,hc0,hc1,hc2,hc3,hc4,l1.lst (aI _) l1.lt hs.l1.bytes hs.l1.sizes,l2.lst (aI _) l2.lt hs.l2.bytes hs.l2.sizes,l3.lst (aI _) l3.lt hs.l3.bytes hs.l3.sizes,l4.lst (aI _) l4.lt hs.l4.bytes hs.l4.sizes⟩
theorem uAb (l m:PL)(k:ByteArray):aM (l++m) k=(aM l k||aM m k):=by
 induction l with
 |nil=>simp[aM,aX]
 |cons p l ih=>
  unfold aM at ih ⊢;rw[List.cons_append]
  cases e:bN p.1 k
  ·rw[fJ e,fJ e];exact ih
  ·rw[gT e,gT e];simp
theorem uAc (ss:List Sess)(k:ByteArray):aM (ss.flatMap (·.wr)) k=ss.any (fun s=>aM s.wr k):=by
 induction ss with
 |nil=>simp[aM,aX]
 |cons s ss ih=>rw[List.flatMap_cons,uAb,ih];simp
theorem kM {W:Wd}(h:bG W.rows=true)(k:ByteArray):aM (aW W) k=(aM W.rows k||W.ss.any (fun s=>aM s.wr k)):=by
 unfold aW;rw[sR h,uAc]
theorem nR {ss:List Sess}{f:Sess->Bool}:ss.any f=true ↔ ∃k,∃hk:k<ss.length,f ss[k]=true:=by
 rw[List.any_eq_true]
 constructor
 ·rintro⟨s,hs,h⟩;obtain⟨k,hk,rfl⟩:=List.getElem_of_mem hs;exact⟨k,hk,h⟩
 ·rintro⟨k,hk,h⟩;exact⟨_,List.getElem_mem hk,h⟩
theorem kAx {R:PL}(h:bG R=true): ∀l:PL,bG (cL R l)=true:=by
 intro l;unfold cL
 induction l generalizing R with
 |nil=>exact h
 |cons p l ih=>rw[List.foldl_cons];exact ih (by rw[eS h];exact jL h)
theorem kAy {R:PL}{k:ByteArray}(h:bG R=true): ∀l:PL,aM (cL R l) k=(aM R k||aM l k):=by
 intro l;unfold cL
 induction l generalizing R with
 |nil=>simp[aM,aX]
 |cons p l ih=>
  rw[List.foldl_cons,ih (by rw[eS h];exact jL h),eS h,sQ h]
  have:aM (p::l) k=(bN p.1 k||aM l k):=by
   unfold aM
   cases e:bN p.1 k
   ·rw[fJ e];simp
   ·rw[gT e];simp
  rw[this]
  cases bN p.1 k<;>cases aM R k<;>simp
theorem plusF_mem {q:ByteArray×ByteArray}: ∀{l R:PL},q∈cL R l->q∈R\/q∈l
 |[],R,h=> .inl h
 |p::l,R,h=>by
  unfold cL at h;rw[List.foldl_cons]at h;rcases plusF_mem (l:=l) (R:=bI R p.1 p.2) h with h|h
  ·rcases mP h with h|h
   ·exact .inr (by rw[h];simp)
   ·exact .inl h
  ·exact .inr (by simp[h])
theorem wK {l:PL}{most:Nat}{kind:Int}(h1:bG l=true)(h2:l.length<=most)(h3: ∀p∈l,bZ kind p.1 p.2=0):cD l most kind=true:=by
 unfold cD;rw[h1,cF h2,Bool.and_true,Bool.and_true,List.all_eq_true];exact fun p hp=>cF (h3 p hp)
theorem jF (most:Nat)(kind:Int):cD [] most kind=true:=wK rfl (Nat.zero_le _) (fun _ h=>by cases h)
theorem sV {l:PL}{most:Nat}{kind:Int}{key val:ByteArray}(h:cD l most kind=true)(hc:bZ kind key val=0)(hr:aM l key=true\/l.length<most):cD (bI l key val) most kind=true:=by
 obtain⟨h1,h2,h3⟩:=bW h;rw[eS h1];refine wK (jL h1) ?_ (fun p hp=>?_)
 ·rw[qG h1];rcases hr with hr|hr
  ·unfold aM at hr;rw[if_pos hr];exact h2
  ·split<;>omega
 ·rcases oK hp with rfl|hp
  ·exact hc
  ·exact h3 p hp
theorem wL {l:PL}{k v k':ByteArray}(h:bG l=true):aM (bI l k v) k'=(bN k k'||aM l k'):=by rw[eS h,sQ h]
section
variable {W:Wd}{i:Nat}{s':Sess}
theorem eY (W:Wd)(i:Nat)(s':Sess):(W.put i s').ss.length=W.ss.length:=by unfold Wd.put;simp
theorem nS (hi:i<W.ss.length){k:Nat}(hk:k<(W.put i s').ss.length):(W.put i s').ss[k]=if i=k then s' else W.ss[k]'(by rw[eY]at hk;exact hk):=by
 simp only[Wd.put];rw[List.getElem_set]
theorem uAd (hi:i<W.ss.length)(hs: ∀k,aM s'.wr k=true->aM W.ss[i].wr k=true){me:Int}{key:ByteArray}(h:eI W.ss me key=false):eI (W.put i s').ss me key=false:=by
 refine sI fun k hk hf=>gP fun hne=>?_
 rw[nS hi hk]at hf;have hk':k<W.ss.length:=by rw[eY]at hk;exact hk
 have:(aX W.ss[k].wr key).isSome=true:=by
  by_cases e:i=k
  ·subst e;rw[if_pos rfl]at hf;exact hs key hf
  ·rw[if_neg e]at hf;exact hf
 rw[kX hk' this hne]at h;cases h
theorem wM (hi:i<W.ss.length){key:ByteArray}(h:(W.put i s').ss.any (fun s=>aM s.wr key)=true):aM s'.wr key=true\/W.ss.any (fun s=>aM s.wr key)=true:=by
 obtain⟨k,hk,hf⟩:=nR.1 h;rw[nS hi hk]at hf;have hk':k<W.ss.length:=by rw[eY]at hk;exact hk
 by_cases e:i=k
 ·rw[if_pos e]at hf;exact .inl hf
 ·rw[if_neg e]at hf;exact .inr (nR.2 ⟨k,hk',hf⟩)
theorem kAz {W':Wd}(h:bX W)(hr:bG W'.rows=true)(hf: ∀k,aM (aW W') k=true->aM (aW W) k=true):(aW W').length<=100:=
 bL (lD (jN h) (wE hr _) (fun p hp=>hf p.1 (lE hp))) h.all
theorem qA0 {W':Wd}(h:bX W)(hr:bG W'.rows=true){key:ByteArray}(hn: ¬(aM (aW W) key=false/\100<=(aW W).length))(hf: ∀k,aM (aW W') k=true->bN key k=true\/aM (aW W) k=true):(aW W').length<=100:=by
 have h1 := lD (R := cI (aW W) key ⟨#[]⟩) (jL (jN h)) (wE hr (W'.ss.flatMap (·.wr))) (fun p hp => by
  rw[sQ (jN h)];rcases hf p.1 (lE hp)with h|h
  ·rw[h];rfl
  ·rw [h]; simp)
 rw[qG (jN h)]at h1;have h2:=h.all;have h3:(aW W').length=(iN W'.rows (W'.ss.flatMap (·.wr))).length:=rfl
 cases e:aM (aW W) key
 ·unfold aM at e;rw[e]at h1;have h4: ¬100<=(aW W).length:=fun hh=>hn ⟨e,hh⟩
  simp at h1;omega
 ·unfold aM at e;rw[e]at h1;simp at h1;omega
theorem lG (h:bX W)(hi:i<W.ss.length)(hs:nN s')(hw: ∀p∈s'.wr,p∈W.ss[i].wr):bX (W.put i s'):=by
 have hf: ∀k,aM s'.wr k=true->aM W.ss[i].wr k=true:=fun k hk=>by
  obtain⟨v,hv⟩:=Option.isSome_iff_exists.1 hk;exact oL (hw _ (kF hv))
 refine⟨h.rows,by rw[eY];exact h.many,fun k hk=>?_,fun k hk p hp=>?_,?_⟩
 ·rw[nS hi hk]
  split
  ·exact hs
  ·exact h.sess k _
 ·have hk':k<W.ss.length:=by rw[eY]at hk;exact hk
  rw[nS hi hk]at hp;refine uAd hi hf (h.apart k hk' p ?_)
  by_cases e:i=k
  ·subst e;rw[if_pos rfl]at hp;exact hw p hp
  ·rw[if_neg e]at hp;exact hp
 ·have hr:=(bW h.rows).1;refine kAz h hr fun k hk=>?_
  rw[kM (W:=W.put i s') hr]at hk;rw[kM hr];rw[fO]at hk ⊢;rcases hk with hk|hk
  ·exact .inl hk
  ·right
   rcases wM hi hk with h1|h1
   ·exact nR.2 ⟨i,hi,hf k h1⟩
   ·exact h1
theorem uAe (h:bX W)(hi:i<W.ss.length){key val:ByteArray}(hst:W.ss[i].st=1)(hc:bZ 10 key val=0)(hh:eI W.ss i key=false)(hn: ¬(aM (aW W) key=false/\100<=(aW W).length)):
  bX (W.put i {W.ss[i]with wr:=bI W.ss[i].wr key val}):=by
 have hs:=h.sess i hi;have hrw:=(bW hs.wr).1;have hr:=(bW h.rows).1;refine⟨h.rows,by rw[eY];exact h.many,fun k hk=>?_,fun k hk p hp=>?_,?_⟩
 ·rw[nS hi hk]
  split
  ·exact⟨hs.lo,hs.hi,hs.set,hs.prep,hs.sav,sV hs.wr hc (sT h hi hn),hs.idle,fun hne=>absurd hst hne⟩
  ·exact h.sess k _
 ·have hk':k<W.ss.length:=by rw[eY]at hk;exact hk
  rw[nS hi hk]at hp;refine sI fun m hm hf=>gP fun hne=>?_
  have hm':m<W.ss.length:=by rw[eY]at hm;exact hm
  rw[nS hi hm]at hf
  by_cases e:i=k
  ·subst e;rw[if_pos rfl]at hp;rw[if_neg (by omega)]at hf;rw[eS hrw]at hp;rcases oK hp with rfl|hp
   ·rw[kX hm' hf hne]at hh;cases hh
   ·have:=h.apart i hi p hp;rw[kX hm' hf hne]at this;cases this
  ·rw[if_neg e]at hp;have hap:=h.apart k hk' p hp
   by_cases e2:i=m
   ·subst e2;rw[if_pos rfl]at hf;have hf:aM (bI W.ss[i].wr key val) p.1=true:=hf;rw[wL hrw,fO]at hf;rcases hf with hf|hf
    ·rw[iK.1 hf,kX hk' (oL hp) (by omega)]at hh;cases hh
    ·rw[kX hi hf hne]at hap;cases hap
   ·rw[if_neg e2]at hf;rw[kX hm' hf hne]at hap;cases hap
 ·refine qA0 h hr hn fun k hk=>?_
  rw[kM (W:=W.put i _) hr,fO]at hk;rw[kM hr,fO];rcases hk with hk|hk
  ·exact .inr (.inl hk)
  ·rcases wM hi hk with h1|h1
   ·have h1:aM (bI W.ss[i].wr key val) k=true:=h1;rw[wL hrw,fO]at h1;rcases h1 with h1|h1
    ·exact .inl h1
    ·exact .inr (.inr (nR.2 ⟨i,hi,h1⟩))
   ·exact .inr (.inr h1)
theorem uAf (h:bX W){key val:ByteArray}(hc:bZ 10 key val=0)(hn: ¬(aM (aW W) key=false/\100<=(aW W).length)):bX ⟨bI W.rows key val,W.ss⟩:=by
 have hr:=(bW h.rows).1;have hp:=sV h.rows hc (wG h hn);have hr':=(bW hp).1;refine⟨hp,h.many,h.sess,h.apart,qA0 h hr' hn fun k hk=>?_⟩;rw[kM (W:=⟨bI W.rows key val,W.ss⟩) hr',fO]at hk;rw[kM hr,fO];rcases hk with hk|hk
 ·have hk:aM (bI W.rows key val) k=true:=hk;rw[wL hr,fO]at hk;rcases hk with hk|hk
  ·exact .inl hk
  ·exact .inr (.inl hk)
 ·exact .inr (.inr hk)
theorem uAg (h:bX W)(hi:i<W.ss.length):bX ⟨cL W.rows W.ss[i].wr,W.ss.set i {W.ss[i]with st:=0,sav:=[],wr:=[]}⟩:=by
 have hs:=h.sess i hi;have hr:=(bW h.rows).1;have hr':=kAx hr W.ss[i].wr;have hq:=lG (s':={W.ss[i]with st:=0,sav:=[],wr:=[]}) h hi ⟨Int.le_refl _,(by show(0:Int)<=2;decide),hs.set,hs.prep,jF _ _,jF _ _,fun _=>rfl,fun _=>rfl⟩ (fun p hp=>by cases hp)
 have hall: ∀k,aM (aW ⟨cL W.rows W.ss[i].wr,W.ss.set i {W.ss[i]with st:=0,sav:=[],wr:=[]}⟩) k=true->aM (aW W) k=true:=fun k hk=>by
  rw[kM (W:=⟨cL W.rows W.ss[i].wr,_⟩) hr',fO]at hk;rw[kM hr,fO];rcases hk with hk|hk
  ·have hk:aM (cL W.rows W.ss[i].wr) k=true:=hk;rw[kAy hr,fO]at hk;rcases hk with hk|hk
   ·exact .inl hk
   ·exact .inr (nR.2 ⟨i,hi,hk⟩)
  ·right
   rcases wM (W:=W) (s':={W.ss[i]with st:=0,sav:=[],wr:=[]}) hi hk with h1|h1
   ·cases h1
   ·exact h1
 refine⟨wK hr' ?_ (fun p hp=>?_),hq.many,hq.sess,hq.apart,kAz h hr' hall⟩
 ·have := lD (jN h) hr' (fun p hp => by
   have hf:=lE hp;rw[kAy hr,fO]at hf;rw[kM hr,fO];rcases hf with hf|hf
   ·exact .inl hf
   ·exact .inr (nR.2 ⟨i, hi, hf⟩))
  have:=h.all;show(cL W.rows W.ss[i].wr).length<=100;omega
 ·rcases plusF_mem hp with hp|hp
  ·exact(bW h.rows).2.2 p hp
  ·exact(bW hs.wr).2.2 p hp
def nT (W:Wd)(r:Wd×cU):Prop:=bX r.1/\r.1.ss.length=W.ss.length
theorem iC {c:Prop} [Decidable c] {a b:Wd×cU}(ha:c->nT W a)(hb: ¬c->nT W b):nT W (if c then a else b):=by
 by_cases h:c
 ·rw[if_pos h];exact ha h
 ·rw[if_neg h];exact hb h
theorem qA1 (h:bX W)(hi:i<W.ss.length){k:Int}{key val:ByteArray}(hc:bZ k key val=0):nT W (did1 W i k key val):=by
 have hs:=h.sess i hi;have e:W.at i=W.ss[i]:=by unfold Wd.at;rw[eU,dP hi];rfl
 have same: ∀a,nT W (W,a):=fun a=>⟨h,rfl⟩
 unfold did1;simp only;rw[e];refine iC (fun _=>same _) (fun hfail=>?_);refine iC (fun _=>iC (fun _=>?_) (fun _=>same _)) (fun _=>?_)
 ·exact⟨lG h hi ⟨(by show(0:Int)<=1;decide),(by show(1:Int)<=2;decide),hs.set,hs.prep,hs.set,hs.wr,(fun hh=>absurd hh (by show¬(1:Int)=0;decide)),fun hh=>absurd rfl hh⟩ (fun p hp=>hp),eY _ _ _⟩
 refine iC (fun _=>iC (fun _=>same _) (fun _=>iC (fun _=>?_) (fun _=>?_))) (fun _=>?_)
 ·exact⟨uAg h hi,by simp⟩
 ·exact⟨lG h hi ⟨Int.le_refl _,(by show(0:Int)<=2;decide),hs.sav,hs.prep,jF _ _,jF _ _,fun _=>rfl,fun _=>rfl⟩ (fun p hp=>by cases hp),eY _ _ _⟩
 refine iC (fun _=>iC (fun _=>?_) (fun _=>same _)) (fun _=>?_)
 ·exact⟨lG h hi ⟨hs.lo,hs.hi,jF _ _,jF _ _,hs.sav,hs.wr,hs.idle,hs.tx⟩ (fun p hp=>hp),eY _ _ _⟩
 refine iC (fun _=>same _) (fun _=>iC (fun _=>same _) (fun _=>?_));refine iC (fun h9=>iC (fun _=>same _) (fun hn=>?_)) (fun _=>?_)
 ·subst h9;refine⟨lG h hi ⟨hs.lo,hs.hi,sV hs.set hc ?_,hs.prep,hs.sav,hs.wr,hs.idle,hs.tx⟩ (fun p hp=>hp),eY _ _ _⟩
  cases e:aM W.ss[i].set key
  ·exact .inr (Nat.lt_of_not_le fun hh=>hn ⟨e,hh⟩)
  ·exact .inl rfl
 refine iC (fun h10=>iC (fun _=>same _) (fun hh=>iC (fun _=>same _) (fun hn=>iC (fun h1=>?_) (fun _=>?_)))) (fun _=>?_)
 ·subst h10;exact⟨uAe h hi h1 hc (by simpa using hh) hn,eY _ _ _⟩
 ·subst h10;exact⟨uAf h hc hn,rfl⟩
 refine iC (fun h11=>iC (fun _=>same _) (fun hn=>?_)) (fun _=>same _);subst h11;refine⟨lG h hi ⟨hs.lo,hs.hi,hs.set,sV hs.prep hc ?_,hs.sav,hs.wr,hs.idle,hs.tx⟩ (fun p hp=>hp),eY _ _ _⟩
 cases e:aM W.ss[i].prep key
 ·exact .inr (Nat.lt_of_not_le fun hh=>hn ⟨e,hh⟩)
 ·exact .inl rfl
theorem qA2 {l:PL}(h:cD l 6 11=true){key t:ByteArray}(ha:aX l key=some t):dI t=0/\bZ (aU (aK t)) (aK (cutB t)) (cutB (cutB t))=0/\(aU (aK t)=6\/aU (aK t)=7\/aU (aK t)=10):=by
 have hc:=(bW h).2.2 _ (kF ha)
 have hv:gY t=true:=by
  unfold bZ at hc;rw[if_neg (by decide)]at hc
  split at hc
  ·rename_i hh
   rw[eB]at hh;have:=hh.2;unfold fP at this
   rwa [if_pos rfl]at this
  ·cases hc
 rw[vI,eB,decide_eq_true_eq,decide_eq_true_eq]at hv;exact⟨hv.1,(vZ hv.1).1,hv.2⟩
theorem wN (h:bX W)(hi:i<W.ss.length){k:Int}{key val:ByteArray}(hc:bZ k key val=0):nT W (didM W i k key val):=by
 have hs:=h.sess i hi;have e:W.at i=W.ss[i]:=by unfold Wd.at;rw[eU,dP hi];rfl
 unfold didM;simp only[e]
 split
 ·split
  ·exact⟨h,rfl⟩
  split
  ·exact⟨h,rfl⟩
  ·rename_i t ht
   exact qA1 h hi (qA2 hs.prep ht).2.1
 ·exact qA1 h hi hc
theorem wO (h:bX W)(hi:i<W.ss.length){k:Int}{key val:ByteArray}(hc:bZ k key val=0):nT W (doM W i k key val):=by
 obtain⟨h1,h2⟩:=wN h hi hc;unfold doM;simp only
 split
 ·have hi':i<(didM W i k key val).1.ss.length:=by omega
  have e:(didM W i k key val).1.at i=(didM W i k key val).1.ss[i]:=by unfold Wd.at;rw[eU,dP hi'];rfl
  have hs:=h1.sess i hi';rw[e];exact⟨lG h1 hi' ⟨(by show(0:Int)<=2;decide),(by show(2:Int)<=2;decide),hs.set,hs.prep,hs.sav,jF _ _,(fun hh=>absurd hh (by show¬(2:Int)=0;decide)),fun _=>rfl⟩ (fun p hp=>by cases hp),by rw[eY];exact h2⟩
 ·exact⟨h1,h2⟩
end
structure fZ (a:cU):Prop where
 lo:1<=a.kind
 hi:a.kind<=4
 len:a.text.size<=60
 ne:(decide (a.kind=2\/a.kind=4)==a.text.toList.isEmpty)=false
theorem qO {t:ByteArray}(h:t.size<=60)(h1:1<=t.size):fZ (cY t):=⟨(by show(1:Int)<=4;decide),Int.le_refl _,h,by rw[show(cY t).text=t from rfl,mM h1];show(decide ((4:Int)=2\/(4:Int)=4)==false)=false;decide⟩
theorem uAh:fZ dX:=⟨Int.le_refl _,(by show(1:Int)<=4;decide),(by show 0<=60;decide),by rw[kV (s:=dX.text) rfl];decide⟩
theorem qA3 {o:Option ByteArray}(h: ∀v,o=some v->1<=v.size/\v.size<=60):fZ (eT o):=by
 cases o with
 |none=>exact⟨(by show(1:Int)<=3;decide),(by show(3:Int)<=4;decide),(by show 0<=60;decide),by rw[kV (s:=(eT none).text) rfl];decide⟩
 |some v=>exact⟨(by show(1:Int)<=2;decide),(by show(2:Int)<=4;decide),(h v rfl).2,by rw[show(eT (some v)).text=v from rfl,mM (h v rfl).1];show(decide ((2:Int)=2\/(2:Int)=4)==false)=false;decide⟩
theorem wP {l:PL}{most:Nat}{kind:Int}(hk:9<=kind)(h:cD l most kind=true){key v:ByteArray}(ha:aX l key=some v):1<=v.size/\v.size<=60:=by
 have g:=kE ((bW h).2.2 _ (kF ha));refine⟨?_,g.v60⟩;have this:v.toList.isEmpty=decide (kind<9):=g.vE;rw[aY (by omega)]at this;rcases Nat.lt_or_ge 0 v.size with h'|h'
 ·exact h'
 ·rw[kV (by omega)]at this;cases this
section
variable {W:Wd}{i:Nat}
theorem sW {c:Prop} [Decidable c] {a b:Wd×cU}(ha:fZ a.2)(hb:fZ b.2):fZ (if c then a else b).2:=by
 split
 ·exact ha
 ·exact hb
theorem qA4 (h:bX W)(hi:i<W.ss.length)(k:Int)(key val:ByteArray):fZ (did1 W i k key val).2:=by
 have hs:=h.sess i hi;have e:W.at i=W.ss[i]:=by unfold Wd.at;rw[eU,dP hi];rfl
 unfold did1;simp only;rw[e]
 repeat' first
  |exact qO (by decide) (by decide)
  |exact uAh
  |refine sW ?_ ?_
 ·exact qA3 fun v hv=>wP (by decide) hs.set hv
 ·refine qA3 fun v hv=>?_
  cases ha:aX W.ss[i].wr key with
  |none=>rw[ha]at hv;exact wP (by decide) h.rows hv
  |some u=>rw[ha]at hv;injection hv with hv;subst hv;exact wP (by decide) hs.wr ha
theorem wQ (h:bX W)(hi:i<W.ss.length)(k:Int)(key val:ByteArray):fZ (didM W i k key val).2:=by
 unfold didM;refine sW (sW (qO (by decide) (by decide)) ?_) (qA4 h hi _ _ _)
 split
 ·exact qO (by decide) (by decide)
 ·exact qA4 h hi _ _ _
theorem sX (h:bX W)(hi:i<W.ss.length)(k:Int)(key val:ByteArray):fZ (doM W i k key val).2:=by
 unfold doM;simp only;exact sW (wQ h hi _ _ _) (wQ h hi _ _ _)
end
def sY (e:Int):Value:= .tuple #[.agg #[.slice none 0 0,.slice none 0 0],.agg #[.int .i64 0,.string ⟨#[]⟩,.int .i64 0],.int .i64 e]
def iV (r s:Value)(a:cU)(st:Int):Value:= .tuple #[.agg #[r,s],.agg #[.int .i64 a.kind,.string a.text,.int .i64 st],.int .i64 0]
def gE (w:World)(r s:Value)(k:Int)(key val:ByteArray):World:=
 (((w.alloc (.cells #[r,s] 39)).alloc (.cells #[.int .i64 k,.string key,.string val] 41)).alloc (.cells #[.slice none 0 0,.slice none 0 0] 39)).alloc (.cells #[.int .i64 0,.string ⟨#[]⟩,.int .i64 0] 46)
structure DoAt (w w1:World)(r s:Value)(k:Int)(key val:ByteArray):Prop where
 X:RowTo w1 w.heap.size 39 2 [r,s]
 Y:RowTo w1 (w.heap.size+1) 41 3 [.int .i64 k,.string key,.string val]
 R:RowTo w1 (w.heap.size+1+1) 39 2 [.slice none 0 0,.slice none 0 0]
 A:RowTo w1 (w.heap.size+1+1+1) 46 3 [.int .i64 0,.string ⟨#[]⟩,.int .i64 0]
 bel:Below w.heap.size w w1
 size:w.heap.size+1+1+1+1<=w1.heap.size
theorem sZ (w:World)(r s:Value)(k:Int)(key val:ByteArray):DoAt w (gE w r s k key val) r s k key val:=by
 unfold gE;refine⟨(((RowTo.whole w #[r,s] _).alloc _).alloc _).alloc _,?_,?_,?_,?_,by simp⟩
 ·have:=((RowTo.whole (w.alloc (.cells #[r,s] 39)) #[.int .i64 k,.string key,.string val] 41).alloc (.cells #[.slice none 0 0,.slice none 0 0] 39)).alloc (.cells #[.int .i64 0,.string ⟨#[]⟩,.int .i64 0] 46)
  simpa using this
 ·have:=(RowTo.whole ((w.alloc (.cells #[r,s] 39)).alloc (.cells #[.int .i64 k,.string key,.string val] 41)) #[.slice none 0 0,.slice none 0 0] 39).alloc (.cells #[.int .i64 0,.string ⟨#[]⟩,.int .i64 0] 46)
  simpa using this
 ·have:=RowTo.whole (((w.alloc (.cells #[r,s] 39)).alloc (.cells #[.int .i64 k,.string key,.string val] 41)).alloc (.cells #[.slice none 0 0,.slice none 0 0] 39)) #[.int .i64 0,.string ⟨#[]⟩,.int .i64 0] 46
  simpa using this
 ·repeat' (first|exact aD _ _|assumption|with_reducible refine aZ ?_ _|with_reducible refine Below.drew ?_|with_reducible refine dT ?_ ?_ _|with_reducible refine dU ?_ ?_ _|(simp;done)|(simp;omega))
theorem DoAt.below {w w1 w2:World}{r s:Value}{k:Int}{key val:ByteArray}(h:DoAt w w1 r s k key val)(hb:Below w1.heap.size w1 w2):DoAt w w2 r s k key val:=
 ⟨h.X.below hb h.X.lt,h.Y.below hb h.Y.lt,h.R.below hb h.R.lt,h.A.below hb h.A.lt,aR h.bel hb h.bel.size,bL h.size hb.size⟩
def lI (w:World)(R:Nat):Prop:= ∀j x y,w.cell? ⟨R,j,none⟩=some (.string x)->w.cell? ⟨R,j+1,none⟩≠some (.string y)
theorem Lst.offN {w w':World}{B R:Nat}{v:Value}{l:PL}(hR:lI w R)(h:Lst w B v l)(hk: ∀b,b≠R->w'.heap[b]? =w.heap[b]?):Lst w' B v l:=by
 refine⟨h.form,h.bytes,h.sizes,fun hn=>?_,h.nil⟩;obtain⟨b,off,c,e,hb,hc⟩:=h.cells hn
 have hne:b≠R:=by
  rintro rfl;obtain⟨h1,h2⟩:=hc 0 hn;rw[Nat.zero_mul,Nat.add_zero]at h1 h2;exact hR _ _ _ h1 h2
 exact⟨b,off,c,e,hb,fun i hi=>⟨(aV (hk b hne)).trans (hc i hi).1,(aV (hk b hne)).trans (hc i hi).2⟩⟩
structure EndR (w:World)(base X S:Nat)(r:Value)(W:Wd):Prop where
 box:RowTo w X 39 2 [r,slc S W.ss.length W.ss.length]/\Wld w w.heap.size r (slc S W.ss.length W.ss.length) W/\LoV base r
 blk:RowTo w S 115 (W.ss.length*5) []
 loX:base<=X
 loS:base<=S
 los: ∀k j v,k<W.ss.length->j<4->w.cell? ⟨S,k*5+(j+1),none⟩=some v->LoV base v
theorem EndW.r {w:World}{base X S:Nat}{W:Wd}(h:EndW w base X S W): ∃r,EndR w base X S r W:=by
 obtain⟨r,hb⟩:=h.box;exact⟨r,hb,h.blk,h.loX,h.loS,h.los⟩
theorem EndR.offN {w w':World}{base X S R:Nat}{r:Value}{W:Wd}(h:EndR w base X S r W)(hX:X≠R)(hS:S≠R)(hR:lI w R)(hs:w'.heap.size=w.heap.size)(hk: ∀b,b≠R->w'.heap[b]? =w.heap[b]?):EndR w' base X S r W:=by
 obtain⟨hbox,⟨hr,hss⟩,hlr⟩:=h.box;refine⟨⟨hbox.same (hk X hX),⟨?_,?_⟩,hlr⟩,h.blk.same (hk S hS),h.loX,h.loS,fun k j v hk' hj hv=>h.los k j v hk' hj ((aV (hk S hS)).symm.trans hv)⟩
 ·rw[hs];exact hr.offN hR hk
 ·rw[hs];refine⟨hss.form,hss.bytes,fun hn=>?_⟩;obtain⟨b,off,c,e,hb,hc⟩:=hss.cells hn;refine⟨b,off,c,e,hb,fun i hi=>?_⟩;obtain⟨v1,v2,v3,v4,q⟩:=hc i hi;have hbS:b=S:=by unfold slc at e;injection e with e;injection e with e;injection e with e;exact e.symm
  have cs: ∀j,w'.cell? ⟨b,j,none⟩=w.cell? ⟨b,j,none⟩:=fun j=>aV (hk b (by rw[hbS];exact hS))
  exact⟨v1,v2,v3,v4,(cs _).trans q.c0,(cs _).trans q.c1,(cs _).trans q.c2,(cs _).trans q.c3,(cs _).trans q.c4,q.l1.offN hR hk,q.l2.offN hR hk,q.l3.offN hR hk,q.l4.offN hR hk⟩
theorem EndR.below {w w':World}{base X S:Nat}{r:Value}{W:Wd}(h:EndR w base X S r W)(hb:Below w.heap.size w w'):EndR w' base X S r W:=by
 obtain⟨hbox,hw,hlr⟩:=h.box;exact⟨⟨hbox.below hb hbox.lt,hw.step hb,hlr⟩,h.blk.below hb h.blk.lt,h.loX,h.loS,fun k j v hk hj hv=>h.los k j v hk hj ((hb.cell (p:=⟨S,k*5+(j+1),none⟩) h.blk.lt).symm.trans hv)⟩
theorem mT {w:World}{R:Nat}{x y:Int}{s:ByteArray}(h:RowTo w R 46 3 [.int .i64 x,.string s,.int .i64 y]):lI w R:=by
 intro j a b h1 h2;have r0:=h.cell (j:=0) (by simp);have r2:=h.cell (j:=2) (by simp);simp only[aB,aC]at r0 r2;rcases Nat.lt_or_ge j 3 with hj|hj
 ·obtain rfl|rfl|rfl:j=0\/j=1\/j=2:=by omega
  ·rw[r0]at h1;cases h1
  ·rw[r2]at h2;cases h2
  ·rw[r2]at h1;cases h1
 ·rw[h.out_ hj]at h1;cases h1
theorem nU {w:World}{R t:Nat}{a b:Option Addr}{n m c d:Nat}(h:RowTo w R t 2 [.slice a n c,.slice b m d]):lI w R:=by
 intro j x y h1 h2;have r0:=h.cell (j:=0) (by simp);have r1:=h.cell (j:=1) (by simp);simp only[aB,aC]at r0 r1;rcases Nat.lt_or_ge j 2 with hj|hj
 ·obtain rfl|rfl:j=0\/j=1:=by omega
  ·rw[r0]at h1;cases h1
  ·rw[r1]at h1;cases h1
 ·rw[h.out_ hj]at h1;cases h1
theorem EndR.sess {w:World}{base X S:Nat}{r:Value}{W:Wd}(h:EndR w base X S r W){i:Nat}(hi:i<W.ss.length): ∃v1 v2 v3 v4,Ses w w.heap.size S (i*5) W.ss[i] v1 v2 v3 v4:=by
 obtain⟨hbox,⟨hr,hss⟩,hlr⟩:=h.box;obtain⟨b,off,c,e,hb,hc⟩:=hss.cells (by omega);unfold slc at e;injection e with e;injection e with e;injection e with e1 e2;subst e1;subst e2;have:=hc i hi;rw[cW]at this;exact this
theorem EndR.noTwo {w:World}{base X S:Nat}{r:Value}{W:Wd}(h:EndR w base X S r W):lI w S:=by
 intro j x y h1 h2;rcases Nat.lt_or_ge j (W.ss.length*5)with hj|hj
 ·obtain⟨v1,v2,v3,v4,q⟩:=h.sess (i:=j/5) (by omega);have hm:j%5=0\/j%5=1\/j%5=2\/j%5=3\/j%5=4:=by omega
  rcases hm with hm|hm|hm|hm|hm
  ·have:=q.c0;rw[show j/5*5=j by omega,h1]at this;cases this
  ·have:=q.c1;rw[show j/5*5+1=j by omega,h1]at this;obtain⟨a,c,e,_⟩:=q.l1.form;rw[e]at this;cases this
  ·have:=q.c2;rw[show j/5*5+2=j by omega,h1]at this;obtain⟨a,c,e,_⟩:=q.l2.form;rw[e]at this;cases this
  ·have:=q.c3;rw[show j/5*5+3=j by omega,h1]at this;obtain⟨a,c,e,_⟩:=q.l3.form;rw[e]at this;cases this
  ·have:=q.c4;rw[show j/5*5+4=j by omega,h1]at this;obtain⟨a,c,e,_⟩:=q.l4.form;rw[e]at this;cases this
 ·rw[h.blk.out_ hj]at h1;cases h1
theorem EndR.failed {w:World}{base X S:Nat}{r:Value}{W:Wd}(h:EndR w base X S r W){i:Nat}(hi:i<W.ss.length)(hne:X≠S):
  EndR ((w.setCell ⟨S,i*5,none⟩ (.int .i64 2)).setCell ⟨S,i*5+4,none⟩ (.slice none 0 0)) base X S r (W.put i {W.ss[i]with st:=2,wr:=[]}):=by
 have hn:=h.noTwo;have hk: ∀b,b≠S->((w.setCell ⟨S,i*5,none⟩ (.int .i64 2)).setCell ⟨S,i*5+4,none⟩ (.slice none 0 0)).heap[b]? =w.heap[b]? :=fun b hb=>by rw[bF _ _ _ _ hb,bF _ _ _ _ hb]
 have hs:((w.setCell ⟨S,i*5,none⟩ (.int .i64 2)).setCell ⟨S,i*5+4,none⟩ (.slice none 0 0)).heap.size=w.heap.size:=by simp[cE]
 have hl:(W.put i {W.ss[i]with st:=2,wr:=[]}).ss.length=W.ss.length:=by unfold Wd.put;simp
 have hall:=fun q (hq:q<W.ss.length)=>h.sess hq
 obtain⟨hbox,⟨hr,hss⟩,hlr⟩:=h.box
 have c0:((w.setCell ⟨S,i*5,none⟩ (.int .i64 2)).setCell ⟨S,i*5+4,none⟩ (.slice none 0 0)).cell? ⟨S,i*5,none⟩=some (.int .i64 2):=by
  rw[bT _ (by omega)];exact fX h.blk (by omega) _
 have c4:((w.setCell ⟨S,i*5,none⟩ (.int .i64 2)).setCell ⟨S,i*5+4,none⟩ (.slice none 0 0)).cell? ⟨S,i*5+4,none⟩=some (.slice none 0 0):=fX (h.blk.hit _) (by omega) _;have co: ∀j,j≠i*5->j≠i*5+4->((w.setCell ⟨S,i*5,none⟩ (.int .i64 2)).setCell ⟨S,i*5+4,none⟩ (.slice none 0 0)).cell? ⟨S,j,none⟩=w.cell? ⟨S,j,none⟩:=fun j h1 h2=>by rw[bT _ h2,bT _ h1]
 refine⟨⟨by rw[hl];exact hbox.same (hk X hne),⟨?_,?_⟩,hlr⟩,by rw[hl];exact(h.blk.hit _).hit _,h.loX,h.loS,fun k j v hk' hj hv=>?_⟩
 ·rw[hs];exact hr.offN hn hk
 ·rw[hs];refine⟨⟨_,_,rfl,aI _⟩,by rw[hl];exact hss.bytes,fun _=>⟨S,0,_,rfl,h.blk.lt,fun q hq=>?_⟩⟩;rw[hl]at hq;obtain⟨v1,v2,v3,v4,z⟩:=hall q hq;rw[cW]
  by_cases e:i=q
  ·subst e;have eg:(W.put i {W.ss[i]with st:=2,wr:=[]}).ss[i]'(by rw[hl];exact hi)={W.ss[i]with st:=2,wr:=[]}:=by simp[Wd.put]
   rw[eg];exact⟨v1,v2,v3,.slice none 0 0,c0,(co _ (by omega) (by omega)).trans z.c1,(co _ (by omega) (by omega)).trans z.c2,(co _ (by omega) (by omega)).trans z.c3,c4,z.l1.offN hn hk,z.l2.offN hn hk,z.l3.offN hn hk,Lst.none_ _ _⟩
  ·have eg:(W.put i {W.ss[i]with st:=2,wr:=[]}).ss[q]'(by rw[hl];exact hq)=W.ss[q]:=by simp[Wd.put,List.getElem_set_ne e]
   rw[eg];exact⟨v1,v2,v3,v4,(co _ (by omega) (by omega)).trans z.c0,(co _ (by omega) (by omega)).trans z.c1,(co _ (by omega) (by omega)).trans z.c2,(co _ (by omega) (by omega)).trans z.c3,(co _ (by omega) (by omega)).trans z.c4,z.l1.offN hn hk,z.l2.offN hn hk,z.l3.offN hn hk,z.l4.offN hn hk⟩
 ·rw[hl]at hk'
  by_cases e:k*5+(j+1)=i*5+4
  ·rw[e,c4]at hv;injection hv with hv;rw[<-hv];exact LoV.non _ _ _
  ·rw[co _ (by omega) e]at hv;exact h.los k j v hk' hj hv
theorem uAi {V:Wd}{i:Nat}{x:Sess}(h:i<V.ss.length):(V.put i x).at i=x:=by unfold Wd.at Wd.put;simp[eU,List.getElem?_set_self h]
theorem OwnW.ownD {w:World}{base gR S X:Nat}{G:Nat->Nat->Nat}{W:Wd}{xs:List Value}(h:OwnW w base gR S G W)(hx:RowTo w X 39 2 xs)(hX:X<base)(hz:gV W):
  OwnD ((w.setCell ⟨X,0,none⟩ (sl gR W.rows.length)).setCell ⟨X,1,none⟩ (sl S W.ss.length)) X S gR W.rows.length G (fun i j=>((W.at i).li j).length) W:=by
 have loG: ∀i j,i<W.ss.length->j<4->X<G i j:=fun i j hi hj=>bD hX (h.sess.lo i j hi hj)
 have hR:=h.loR;have hS:=h.loS
 have cw: ∀j,((w.setCell ⟨X,0,none⟩ (sl gR W.rows.length)).setCell ⟨X,1,none⟩ (sl S W.ss.length)).cell? ⟨S,j,none⟩=w.cell? ⟨S,j,none⟩:=fun j=>by
  rw[jS _ _ _ _ (fun e=>by injection e with e;omega),jS _ _ _ _ (fun e=>by injection e with e;omega)]
 have hrow:RowTo ((w.setCell ⟨X,0,none⟩ (sl gR W.rows.length)).setCell ⟨X,1,none⟩ (sl S W.ss.length)) X 39 2 ([]++[sl gR W.rows.length]++[sl S W.ss.length]):=
  (hx.nil.push (by simp) _ rfl).push (by simp) _ (by simp)
 refine⟨hrow,⟨(h.rows.other (by show X≠gR;omega) _).other (by show X≠gR;omega) _,aI _,by have:=hz.rows.1;omega⟩,(h.sess.blk.other (by show X≠S;omega) _).other (by show X≠S;omega) _,fun i hi=>(cw _).trans (h.sess.st i hi hi),fun i j hi hj=>?_,fun i j hi hj=>?_,by omega,by omega,h.neS,fun i j hi hj=>by have:=loG i j hi hj;omega,fun i j hi hj=>h.sess.ne i j hi hj,fun i j hi hj=>h.neG i j hi hj,fun i j i' j' hi hj hi' hj' e=>h.sess.inj i j i' j' hi hj hi' hj' e⟩
 ·rw[cw,h.sess.cs i j hi hi hj,fY hi];rfl
 ·rw[fY hi];have hg:=loG i j hi hj;exact⟨((h.sess.ls i j hi hi hj).other (by show X≠G i j;omega) _).other (by show X≠G i j;omega) _,aI _,by have:=(hz.li i j hi hj).1;omega⟩
end Go.Proofs.YtpbaobmegomfpabGreatDoor

/-
  Texts of the proof.
-/
import Derived.Test.YtpbaobmegomfpabGreatDoorG19
set_option linter.unusedVariables false
set_option linter.unusedSimpArgs false
set_option maxRecDepth 100000
set_option maxHeartbeats 16000000
open List renaming getElem_toArray→aE,getElem_cons_zero→aB,getElem_cons_succ→aC,setIfInBounds_toArray→aH,set_cons_zero→aG,set_cons_succ→aF,getD_cons_zero→aS,getD_cons_succ→aT
open Nat renaming le_refl→aI,le_trans→bL,zero_add→cW
open Go.Lib renaming hid→aA
open Go.RowKit.Below renaming refl→aD,heap_setCell→bF
open Go.World renaming setCell→cE
open And renaming intro→aJ
open Go.Act renaming put→aQ
open Go renaming bodyPost_ret→bE
namespace Go.Proofs.YtpbaobmegomfpabGreatDoor
open Go.RowKit
theorem yA9 {Q:Nat->Prop}(S cap:Nat)(r:Value)(W:Wd)(i:Nat)(k:Int)(key val:ByteArray)(w:World)(h:RefP Q w S cap r W)(hw:bX W)(hQ: ∀b,Q b->b≠S)(hN: ∀b,w.heap.size<=b->Q b)(hi:i<W.ss.length)(hkz:key.size<=8)(hvz:val.size<=60)(h1:1<=k)(h2:k<=11)
  (hrec:k=8-> ∀k2 key2 val2,k2≠8->bZ k2 key2 val2=0-> ∀w9,RefP Q w9 S cap r W->(∀b,w9.heap.size<=b->Q b)->Calls Tryz.prog 105 #[.agg #[r,slc S W.ss.length cap],.int .i64 i,.agg #[.int .i64 k2,.string key2,.string val2]] w9 (DidZ Q w9 S cap W.ss.length (did1 W i k2 key2 val2))):
  Calls Tryz.prog 105 #[.agg #[r,slc S W.ss.length cap],.int .i64 i,.agg #[.int .i64 k,.string key,.string val]] w (DidZ Q w S cap W.ss.length (didM W i k key val)):=by
 obtain⟨v1,v2,v3,v4,hs⟩:=h.ses i hi;obtain⟨D,d,rfl,hd⟩:=h.rows.form;obtain⟨s,he⟩: ∃s,W.ss[i]=s:=⟨_,rfl⟩;rw[he]at hs;obtain⟨A1,n1,rfl,_⟩:=hs.core.l1.form;obtain⟨A2,n2,rfl,_⟩:=hs.core.l2.form;obtain⟨A3,n3,rfl,_⟩:=hs.core.l3.form;obtain⟨A4,n4,rfl,_⟩:=hs.core.l4.form;have hsk:=hw.sess i hi;rw[he]at hsk;have hSw:=h.blk.lt;have bel0:=(sZ w (.slice D W.rows.length d) (.slice (some ⟨S,0,none⟩) W.ss.length cap) k key val).bel;have c0:=(bel0.cell (p:=⟨S,i*5,none⟩) hSw).trans hs.core.c0;have c1:=(bel0.cell (p:=⟨S,i*5+1,none⟩) hSw).trans hs.core.c1;have c2:=(bel0.cell (p:=⟨S,i*5+2,none⟩) hSw).trans hs.core.c2;have c3:=(bel0.cell (p:=⟨S,i*5+3,none⟩) hSw).trans hs.core.c3;have c4:=(bel0.cell (p:=⟨S,i*5+4,none⟩) hSw).trans hs.core.c4;unfold gE at c0 c1 c2 c3 c4;obtain⟨W5,HW5⟩: ∃u,Hid (gC w (.slice D W.rows.length d) (.slice (some ⟨S,0,none⟩) W.ss.length cap) k key val s.st (.slice A1 s.set.length n1) (.slice A2 s.prep.length n2) (.slice A3 s.sav.length n3) (.slice A4 s.wr.length n4)=u):=⟨_,aA rfl⟩;have hD:=pT w (.slice D W.rows.length d) (.slice (some ⟨S,0,none⟩) W.ss.length cap) k key val s.st (.slice A1 s.set.length n1) (.slice A2 s.prep.length n2) (.slice A3 s.sav.length n3) (.slice A4 s.wr.length n4);rw[HW5.out]at hD;unfold gC gE at HW5;have hii:(i:Int)<(W.ss.length:Int):=by omega
 have HH:=aA h;have HS:=aA hs;have HW:=aA hw;have HD:=aA hD;have HQ:=aA hQ;have HN:=aA hN;have HZ:=aA (aJ hkz hvz);have HI:=aA (aJ hi he);obtain⟨x0,x1⟩:=bR hD.X;obtain⟨y0,y1,y2⟩:=bA hD.Y;obtain⟨z0,z1,z2,z3,z4⟩:=gI hD.Z;have hXl:=hD.X.lt;have hYl:=hD.Y.lt;have hZl:=hD.Z.lt;have hRE:=aA (aJ hsk (aJ h1 h2));have HREC:=aA hrec;clear bel0 hs hw hD h hQ hN hkz hvz hd hsk h1 h2 hrec;unfold slc;refine bA7 (C:=fun R=>Calls Tryz.prog 105 #[.agg #[.slice D W.rows.length d,.slice (some ⟨S,0,none⟩) W.ss.length cap],.int .i64 i,.agg #[.int .i64 k,.string key,.string val]] w (DidZ Q w S cap W.ss.length R)) hi he hRE.out.1 hRE.out.2.1 hRE.out.2.2 ?c1 ?c2 ?c3 ?c4 ?c5 ?c6 ?c7 ?c8 ?c9 ?c10 ?c11 ?c12 ?c13 ?c14 ?c15 ?c16 ?c17 ?c18 ?c19 ?c20 ?c21 ?c22
 case' c1=>
  intro a1 a2 a3;have t0:(s.st==2)=true:=beq_iff_eq.2 a1;have t1:(k==2)=false:=bJ.2 a2;have t2:(k==3)=false:=bJ.2 a3;clear a1 a2 a3;go_enter Tryz.func105,Tryz.ntmps105;go_wp2_with fail;rw[HW5.out];have HE:=aA (HD.out.atE HH.out);obtain⟨e0,e1⟩:=bR HE.out.X;have hel:=HE.out.X.lt;clear x0 x1 y0 y1 y2 z0 z1 z2 z3 z4 hXl hYl hZl c0 c1 c2 c3 c4;refine fV 3 [(0,47),(1,48)] [[],[]] [.agg #[.slice D W.rows.length d,.slice (some ⟨S,0,none⟩) W.ss.length cap],.agg #[.int .i64 4,.string jU,.int .i64 0]] (fun _ w w'=>Below w.heap.size w w') (fun wc=>Below W5.heap.size W5 wc) 2 (by kernel_rfl) (by rfl) (by kernel_rfl) (fun _ _ _ _ _ h=>h) (aD _ _).drew (fun _ _=>aD _ _) (fun k w w' h hb=>bU h hb) ?n1ob ?n1fi
  case n1ob=>
   intro i hi wc hR;have e0':=(hR.cell (p:=⟨w.heap.size,0,none⟩) hel).trans e0;have e1':=(hR.cell (p:=⟨w.heap.size,1,none⟩) hel).trans e1
   by_cases hk1:i=1
   ·subst hk1;refine⟨_,rfl,?_,Or.inr ⟨123,#[.string jU],?_,?_⟩⟩
    ·((try simp only[aN,aT,aS,aQ,aH,aG,aF]);try rfl)
    ·((try simp only[aN,aT,aS,aQ,aH,aG,aF]);go_simp;try rfl)
    ·refine(kQ jU wc).mono ?_;rintro e w' ⟨rfl,hb⟩;exact⟨rfl,hb⟩
   rcases i with _|_|i
   all_goals (first|contradiction|exact fU|exact absurd hi (by simp))
  case n1fi=>
   intro wf hR;have hS:=True.intro
   (try simp only[aN,aT,aS,aQ,aH,aG,aF])
   obtain⟨r0,r1⟩:=bR (HE.out.below hR).R;obtain⟨b0,b1,b2⟩:=bA (HE.out.below hR).A;obtain⟨g0,g1,_⟩:=cV (HE.out.below hR).R 0;obtain⟨k0,k1,k2,_⟩:=cV (HE.out.below hR).A 0;simp only[cW]at g1 k1 k2;have HF:=aA ((HE.out.below hR).fin (cY jU));clear hR e0 e1 hel;refine cK (i:=2) (fun K hK=>?_)
   (try simp only[aE,aB,aC])
   go_simp;have hS2:=True.intro;refine hK.out _ _ hS2 ?_;clear hK K hS;have hS:=hS2;clear hS2
   (try simp only[aE,aB,aC,aQ,aH,aG,aF])
   refine bY (fun K hK=>?_)
   (try simp only[aE,aB,aC])
   go_simp;refine hK.out _ _ ?_;clear hK K
   (try simp only[aE,aB,aC,aQ,aH,aG,aF])
   go_wp2;refine bE (v:= .tuple #[.agg #[.slice D W.rows.length d,.slice (some ⟨S,0,none⟩) W.ss.length cap],.agg #[.int .i64 4,.string jU,.int .i64 0]]) (by simp[results,Tryz.results105,go_sem,r0,r1,b0,b1,b2]) rfl ?_;exact HF.out _ _ _ _ _
 case' c3=>
  intro a1 a2 a3;subst a1;have t0:(s.st==2)=false:=bJ.2 a2;have t1:(s.st !=0)=true:=eP.2 a3;clear a2 a3;go_enter Tryz.func105,Tryz.ntmps105;go_wp2_with fail;rw[HW5.out];have HE:=aA (HD.out.atE HH.out);obtain⟨e0,e1⟩:=bR HE.out.X;have hel:=HE.out.X.lt;clear x0 x1 y0 y1 y2 z0 z1 z2 z3 z4 hXl hYl hZl c0 c1 c2 c3 c4;refine fV 3 [(0,56),(1,57)] [[],[]] [.agg #[.slice D W.rows.length d,.slice (some ⟨S,0,none⟩) W.ss.length cap],.agg #[.int .i64 4,.string kG,.int .i64 0]] (fun _ w w'=>Below w.heap.size w w') (fun wc=>Below W5.heap.size W5 wc) 2 (by kernel_rfl) (by rfl) (by kernel_rfl) (fun _ _ _ _ _ h=>h) (aD _ _).drew (fun _ _=>aD _ _) (fun k w w' h hb=>bU h hb) ?n3ob ?n3fi
  case n3ob=>
   intro i hi wc hR;have e0':=(hR.cell (p:=⟨w.heap.size,0,none⟩) hel).trans e0;have e1':=(hR.cell (p:=⟨w.heap.size,1,none⟩) hel).trans e1
   by_cases hk1:i=1
   ·subst hk1;refine⟨_,rfl,?_,Or.inr ⟨123,#[.string kG],?_,?_⟩⟩
    ·((try simp only[aN,aT,aS,aQ,aH,aG,aF]);try rfl)
    ·((try simp only[aN,aT,aS,aQ,aH,aG,aF]);go_simp;try rfl)
    ·refine(kQ kG wc).mono ?_;rintro e w' ⟨rfl,hb⟩;exact⟨rfl,hb⟩
   rcases i with _|_|i
   all_goals (first|contradiction|exact fU|exact absurd hi (by simp))
  case n3fi=>
   intro wf hR;have hS:=True.intro
   (try simp only[aN,aT,aS,aQ,aH,aG,aF])
   obtain⟨r0,r1⟩:=bR (HE.out.below hR).R;obtain⟨b0,b1,b2⟩:=bA (HE.out.below hR).A;obtain⟨g0,g1,_⟩:=cV (HE.out.below hR).R 0;obtain⟨k0,k1,k2,_⟩:=cV (HE.out.below hR).A 0;simp only[cW]at g1 k1 k2;have HF:=aA ((HE.out.below hR).fin (cY kG));clear hR e0 e1 hel;refine cK (i:=2) (fun K hK=>?_)
   (try simp only[aE,aB,aC])
   go_simp;have hS2:=True.intro;refine hK.out _ _ hS2 ?_;clear hK K hS;have hS:=hS2;clear hS2
   (try simp only[aE,aB,aC,aQ,aH,aG,aF])
   refine bY (fun K hK=>?_)
   (try simp only[aE,aB,aC])
   go_simp;refine hK.out _ _ ?_;clear hK K
   (try simp only[aE,aB,aC,aQ,aH,aG,aF])
   go_wp2;refine bE (v:= .tuple #[.agg #[.slice D W.rows.length d,.slice (some ⟨S,0,none⟩) W.ss.length cap],.agg #[.int .i64 4,.string kG,.int .i64 0]]) (by simp[results,Tryz.results105,go_sem,r0,r1,b0,b1,b2]) rfl ?_;exact HF.out _ _ _ _ _
 case' c4=>
  intro a1 a2;have t0:(s.st==2)=false:=bJ.2 (by omega);have t1:(s.st==0)=true:=beq_iff_eq.2 a2;clear a2;rcases a1 with rfl|rfl
  ·go_enter Tryz.func105,Tryz.ntmps105;go_wp2_with fail;rw[HW5.out];have HE:=aA (HD.out.atE HH.out);obtain⟨e0,e1⟩:=bR HE.out.X;have hel:=HE.out.X.lt;clear x0 x1 y0 y1 y2 z0 z1 z2 z3 z4 hXl hYl hZl c0 c1 c2 c3 c4;refine fV 3 [(0,69),(1,70)] [[],[]] [.agg #[.slice D W.rows.length d,.slice (some ⟨S,0,none⟩) W.ss.length cap],.agg #[.int .i64 4,.string iP,.int .i64 0]] (fun _ w w'=>Below w.heap.size w w') (fun wc=>Below W5.heap.size W5 wc) 2 (by kernel_rfl) (by rfl) (by kernel_rfl) (fun _ _ _ _ _ h=>h) (aD _ _).drew (fun _ _=>aD _ _) (fun k w w' h hb=>bU h hb) ?n4aob ?n4afi
   case n4aob=>
    intro i hi wc hR;have e0':=(hR.cell (p:=⟨w.heap.size,0,none⟩) hel).trans e0;have e1':=(hR.cell (p:=⟨w.heap.size,1,none⟩) hel).trans e1
    by_cases hk1:i=1
    ·subst hk1;refine⟨_,rfl,?_,Or.inr ⟨123,#[.string iP],?_,?_⟩⟩
     ·((try simp only[aN,aT,aS,aQ,aH,aG,aF]);try rfl)
     ·((try simp only[aN,aT,aS,aQ,aH,aG,aF]);go_simp;try rfl)
     ·refine(kQ iP wc).mono ?_;rintro e w' ⟨rfl,hb⟩;exact⟨rfl,hb⟩
    rcases i with _|_|i
    all_goals (first|contradiction|exact fU|exact absurd hi (by simp))
   case n4afi=>
    intro wf hR;have hS:=True.intro
    (try simp only[aN,aT,aS,aQ,aH,aG,aF])
    obtain⟨r0,r1⟩:=bR (HE.out.below hR).R;obtain⟨b0,b1,b2⟩:=bA (HE.out.below hR).A;obtain⟨g0,g1,_⟩:=cV (HE.out.below hR).R 0;obtain⟨k0,k1,k2,_⟩:=cV (HE.out.below hR).A 0;simp only[cW]at g1 k1 k2;have HF:=aA ((HE.out.below hR).fin (cY iP));clear hR e0 e1 hel;refine cK (i:=2) (fun K hK=>?_)
    (try simp only[aE,aB,aC])
    go_simp;have hS2:=True.intro;refine hK.out _ _ hS2 ?_;clear hK K hS;have hS:=hS2;clear hS2
    (try simp only[aE,aB,aC,aQ,aH,aG,aF])
    refine bY (fun K hK=>?_)
    (try simp only[aE,aB,aC])
    go_simp;refine hK.out _ _ ?_;clear hK K
    (try simp only[aE,aB,aC,aQ,aH,aG,aF])
    go_wp2;refine bE (v:= .tuple #[.agg #[.slice D W.rows.length d,.slice (some ⟨S,0,none⟩) W.ss.length cap],.agg #[.int .i64 4,.string iP,.int .i64 0]]) (by simp[results,Tryz.results105,go_sem,r0,r1,b0,b1,b2]) rfl ?_;exact HF.out _ _ _ _ _
  ·go_enter Tryz.func105,Tryz.ntmps105;go_wp2_with fail;rw[HW5.out];have HE:=aA (HD.out.atE HH.out);obtain⟨e0,e1⟩:=bR HE.out.X;have hel:=HE.out.X.lt;clear x0 x1 y0 y1 y2 z0 z1 z2 z3 z4 hXl hYl hZl c0 c1 c2 c3 c4;refine fV 3 [(0,69),(1,70)] [[],[]] [.agg #[.slice D W.rows.length d,.slice (some ⟨S,0,none⟩) W.ss.length cap],.agg #[.int .i64 4,.string iP,.int .i64 0]] (fun _ w w'=>Below w.heap.size w w') (fun wc=>Below W5.heap.size W5 wc) 2 (by kernel_rfl) (by rfl) (by kernel_rfl) (fun _ _ _ _ _ h=>h) (aD _ _).drew (fun _ _=>aD _ _) (fun k w w' h hb=>bU h hb) ?n4bob ?n4bfi
   case n4bob=>
    intro i hi wc hR;have e0':=(hR.cell (p:=⟨w.heap.size,0,none⟩) hel).trans e0;have e1':=(hR.cell (p:=⟨w.heap.size,1,none⟩) hel).trans e1
    by_cases hk1:i=1
    ·subst hk1;refine⟨_,rfl,?_,Or.inr ⟨123,#[.string iP],?_,?_⟩⟩
     ·((try simp only[aN,aT,aS,aQ,aH,aG,aF]);try rfl)
     ·((try simp only[aN,aT,aS,aQ,aH,aG,aF]);go_simp;try rfl)
     ·refine(kQ iP wc).mono ?_;rintro e w' ⟨rfl,hb⟩;exact⟨rfl,hb⟩
    rcases i with _|_|i
    all_goals (first|contradiction|exact fU|exact absurd hi (by simp))
   case n4bfi=>
    intro wf hR;have hS:=True.intro
    (try simp only[aN,aT,aS,aQ,aH,aG,aF])
    obtain⟨r0,r1⟩:=bR (HE.out.below hR).R;obtain⟨b0,b1,b2⟩:=bA (HE.out.below hR).A;obtain⟨g0,g1,_⟩:=cV (HE.out.below hR).R 0;obtain⟨k0,k1,k2,_⟩:=cV (HE.out.below hR).A 0;simp only[cW]at g1 k1 k2;have HF:=aA ((HE.out.below hR).fin (cY iP));clear hR e0 e1 hel;refine cK (i:=2) (fun K hK=>?_)
    (try simp only[aE,aB,aC])
    go_simp;have hS2:=True.intro;refine hK.out _ _ hS2 ?_;clear hK K hS;have hS:=hS2;clear hS2
    (try simp only[aE,aB,aC,aQ,aH,aG,aF])
    refine bY (fun K hK=>?_)
    (try simp only[aE,aB,aC])
    go_simp;refine hK.out _ _ ?_;clear hK K
    (try simp only[aE,aB,aC,aQ,aH,aG,aF])
    go_wp2;refine bE (v:= .tuple #[.agg #[.slice D W.rows.length d,.slice (some ⟨S,0,none⟩) W.ss.length cap],.agg #[.int .i64 4,.string iP,.int .i64 0]]) (by simp[results,Tryz.results105,go_sem,r0,r1,b0,b1,b2]) rfl ?_;exact HF.out _ _ _ _ _
 case' c8=>
  intro a1 a2 a3;subst a1;have t0:(s.st==2)=false:=bJ.2 a2;have t1:(s.st !=0)=true:=eP.2 a3;clear a2 a3;go_enter Tryz.func105,Tryz.ntmps105;go_wp2_with fail;rw[HW5.out];have HE:=aA (HD.out.atE HH.out);obtain⟨e0,e1⟩:=bR HE.out.X;have hel:=HE.out.X.lt;clear x0 x1 y0 y1 y2 z0 z1 z2 z3 z4 hXl hYl hZl c0 c1 c2 c3 c4;refine fV 3 [(0,113),(1,114)] [[],[]] [.agg #[.slice D W.rows.length d,.slice (some ⟨S,0,none⟩) W.ss.length cap],.agg #[.int .i64 4,.string kH,.int .i64 0]] (fun _ w w'=>Below w.heap.size w w') (fun wc=>Below W5.heap.size W5 wc) 2 (by kernel_rfl) (by rfl) (by kernel_rfl) (fun _ _ _ _ _ h=>h) (aD _ _).drew (fun _ _=>aD _ _) (fun k w w' h hb=>bU h hb) ?n8ob ?n8fi
  case n8ob=>
   intro i hi wc hR;have e0':=(hR.cell (p:=⟨w.heap.size,0,none⟩) hel).trans e0;have e1':=(hR.cell (p:=⟨w.heap.size,1,none⟩) hel).trans e1
   by_cases hk1:i=1
   ·subst hk1;refine⟨_,rfl,?_,Or.inr ⟨123,#[.string kH],?_,?_⟩⟩
    ·((try simp only[aN,aT,aS,aQ,aH,aG,aF]);try rfl)
    ·((try simp only[aN,aT,aS,aQ,aH,aG,aF]);go_simp;try rfl)
    ·refine(kQ kH wc).mono ?_;rintro e w' ⟨rfl,hb⟩;exact⟨rfl,hb⟩
   rcases i with _|_|i
   all_goals (first|contradiction|exact fU|exact absurd hi (by simp))
  case n8fi=>
   intro wf hR;have hS:=True.intro
   (try simp only[aN,aT,aS,aQ,aH,aG,aF])
   obtain⟨r0,r1⟩:=bR (HE.out.below hR).R;obtain⟨b0,b1,b2⟩:=bA (HE.out.below hR).A;obtain⟨g0,g1,_⟩:=cV (HE.out.below hR).R 0;obtain⟨k0,k1,k2,_⟩:=cV (HE.out.below hR).A 0;simp only[cW]at g1 k1 k2;have HF:=aA ((HE.out.below hR).fin (cY kH));clear hR e0 e1 hel;refine cK (i:=2) (fun K hK=>?_)
   (try simp only[aE,aB,aC])
   go_simp;have hS2:=True.intro;refine hK.out _ _ hS2 ?_;clear hK K hS;have hS:=hS2;clear hS2
   (try simp only[aE,aB,aC,aQ,aH,aG,aF])
   refine bY (fun K hK=>?_)
   (try simp only[aE,aB,aC])
   go_simp;refine hK.out _ _ ?_;clear hK K
   (try simp only[aE,aB,aC,aQ,aH,aG,aF])
   go_wp2;refine bE (v:= .tuple #[.agg #[.slice D W.rows.length d,.slice (some ⟨S,0,none⟩) W.ss.length cap],.agg #[.int .i64 4,.string kH,.int .i64 0]]) (by simp[results,Tryz.results105,go_sem,r0,r1,b0,b1,b2]) rfl ?_;exact HF.out _ _ _ _ _
 case' c9=>
  intro a1 a2;subst a1;have t0:(s.st==2)=false:=bJ.2 a2;clear a2;go_enter Tryz.func105,Tryz.ntmps105;go_wp2_with fail;rw[HW5.out];have HE:=aA (HD.out.atE HH.out);obtain⟨e0,e1⟩:=bR HE.out.X;have hel:=HE.out.X.lt;clear x0 x1 y0 y1 y2 z0 z1 z2 z3 z4 hXl hYl hZl c0 c1 c2 c3 c4;refine fV 3 [(0,119),(1,120)] [[],[]] [.agg #[.slice D W.rows.length d,.slice (some ⟨S,0,none⟩) W.ss.length cap],.agg #[.int .i64 4,.string lB,.int .i64 0]] (fun _ w w'=>Below w.heap.size w w') (fun wc=>Below W5.heap.size W5 wc) 2 (by kernel_rfl) (by rfl) (by kernel_rfl) (fun _ _ _ _ _ h=>h) (aD _ _).drew (fun _ _=>aD _ _) (fun k w w' h hb=>bU h hb) ?n9ob ?n9fi
  case n9ob=>
   intro i hi wc hR;have e0':=(hR.cell (p:=⟨w.heap.size,0,none⟩) hel).trans e0;have e1':=(hR.cell (p:=⟨w.heap.size,1,none⟩) hel).trans e1
   by_cases hk1:i=1
   ·subst hk1;refine⟨_,rfl,?_,Or.inr ⟨123,#[.string lB],?_,?_⟩⟩
    ·((try simp only[aN,aT,aS,aQ,aH,aG,aF]);try rfl)
    ·((try simp only[aN,aT,aS,aQ,aH,aG,aF]);go_simp;try rfl)
    ·refine(kQ lB wc).mono ?_;rintro e w' ⟨rfl,hb⟩;exact⟨rfl,hb⟩
   rcases i with _|_|i
   all_goals (first|contradiction|exact fU|exact absurd hi (by simp))
  case n9fi=>
   intro wf hR;have hS:=True.intro
   (try simp only[aN,aT,aS,aQ,aH,aG,aF])
   obtain⟨r0,r1⟩:=bR (HE.out.below hR).R;obtain⟨b0,b1,b2⟩:=bA (HE.out.below hR).A;obtain⟨g0,g1,_⟩:=cV (HE.out.below hR).R 0;obtain⟨k0,k1,k2,_⟩:=cV (HE.out.below hR).A 0;simp only[cW]at g1 k1 k2;have HF:=aA ((HE.out.below hR).fin (cY lB));clear hR e0 e1 hel;refine cK (i:=2) (fun K hK=>?_)
   (try simp only[aE,aB,aC])
   go_simp;have hS2:=True.intro;refine hK.out _ _ hS2 ?_;clear hK K hS;have hS:=hS2;clear hS2
   (try simp only[aE,aB,aC,aQ,aH,aG,aF])
   refine bY (fun K hK=>?_)
   (try simp only[aE,aB,aC])
   go_simp;refine hK.out _ _ ?_;clear hK K
   (try simp only[aE,aB,aC,aQ,aH,aG,aF])
   go_wp2;refine bE (v:= .tuple #[.agg #[.slice D W.rows.length d,.slice (some ⟨S,0,none⟩) W.ss.length cap],.agg #[.int .i64 4,.string lB,.int .i64 0]]) (by simp[results,Tryz.results105,go_sem,r0,r1,b0,b1,b2]) rfl ?_;exact HF.out _ _ _ _ _
 case' c10=>
  intro a1 a2;subst a1;have t0:(s.st==2)=false:=bJ.2 a2;clear a2;go_enter Tryz.func105,Tryz.ntmps105;go_wp2_with fail;rw[HW5.out];refine(jG _ s.set key _ _ (HS.out.core.l1.step HD.out.bel)).mono ?_;rw[jQ];rintro e w5 ⟨rfl,rfl⟩;generalize aX s.set key=o at*;go_wp2_with fail;have HE:=aA (HD.out.atE HH.out);obtain⟨e0,e1⟩:=bR HE.out.X;have hel:=HE.out.X.lt;clear x0 x1 y0 y1 y2 z0 z1 z2 z3 z4 hXl hYl hZl c0 c1 c2 c3 c4;refine fV 5 [(0,131),(1,132),(2,133),(3,134)] [[],[],[],[(1,132),(2,133)]] [.agg #[.slice D W.rows.length d,.slice (some ⟨S,0,none⟩) W.ss.length cap],.string (o.getD ⟨#[]⟩),.bool o.isSome,.agg #[.int .i64 (eT o).kind,.string (eT o).text,.int .i64 0]] (fun _ w w'=>Below w.heap.size w w') (fun wc=>Below W5.heap.size W5 wc) 2 (by kernel_rfl) (by rfl) (by kernel_rfl) (fun _ _ _ _ _ h=>h) (aD _ _).drew (fun _ _=>aD _ _) (fun k w w' h hb=>bU h hb) ?n10ob ?n10fi
  case n10ob=>
   intro i hi wc hR;have e0':=(hR.cell (p:=⟨w.heap.size,0,none⟩) hel).trans e0;have e1':=(hR.cell (p:=⟨w.heap.size,1,none⟩) hel).trans e1
   by_cases hk3:i=3
   ·subst hk3;refine⟨_,rfl,?_,Or.inr ⟨126,#[.string (o.getD ⟨#[]⟩),.bool o.isSome],?_,?_⟩⟩
    ·((try simp only[aN,aT,aS,aQ,aH,aG,aF]);try rfl)
    ·((try simp only[aN,aT,aS,aQ,aH,aG,aF]);go_simp;try rfl)
    ·refine(xX o wc).mono ?_;rintro e w' ⟨rfl,hb⟩;exact⟨rfl,hb⟩
   rcases i with _|_|_|_|i
   all_goals (first|contradiction|exact fU|exact absurd hi (by simp))
  case n10fi=>
   intro wf hR;have hS:=True.intro
   (try simp only[aN,aT,aS,aQ,aH,aG,aF])
   obtain⟨r0,r1⟩:=bR (HE.out.below hR).R;obtain⟨b0,b1,b2⟩:=bA (HE.out.below hR).A;obtain⟨g0,g1,_⟩:=cV (HE.out.below hR).R 0;obtain⟨k0,k1,k2,_⟩:=cV (HE.out.below hR).A 0;simp only[cW]at g1 k1 k2;have HF:=aA ((HE.out.below hR).fin (eT o));clear hR e0 e1 hel;refine cK (i:=4) (fun K hK=>?_)
   (try simp only[aE,aB,aC])
   go_simp;have hS2:=True.intro;refine hK.out _ _ hS2 ?_;clear hK K hS;have hS:=hS2;clear hS2
   (try simp only[aE,aB,aC,aQ,aH,aG,aF])
   refine bY (fun K hK=>?_)
   (try simp only[aE,aB,aC])
   go_simp;refine hK.out _ _ ?_;clear hK K
   (try simp only[aE,aB,aC,aQ,aH,aG,aF])
   go_wp2;refine bE (v:= .tuple #[.agg #[.slice D W.rows.length d,.slice (some ⟨S,0,none⟩) W.ss.length cap],.agg #[.int .i64 (eT o).kind,.string (eT o).text,.int .i64 0]]) (by simp[results,Tryz.results105,go_sem,r0,r1,b0,b1,b2]) rfl ?_;exact HF.out _ _ _ _ _
 case' c11=>
  intro a1 a2 v a3;subst a1;have t0:(s.st==2)=false:=bJ.2 a2;clear a2;go_enter Tryz.func105,Tryz.ntmps105;go_wp2_with fail;rw[HW5.out];refine(jG _ s.wr key _ _ (HS.out.core.l4.step HD.out.bel)).mono ?_;rw[a3,jQ];rintro e w5 ⟨rfl,rfl⟩;go_wp2_with fail;have HE:=aA (HD.out.atE HH.out);obtain⟨e0,e1⟩:=bR HE.out.X;have hel:=HE.out.X.lt;clear x0 x1 y0 y1 y2 z0 z1 z2 z3 z4 hXl hYl hZl c0 c1 c2 c3 c4;refine fV 5 [(0,155),(1,156),(2,157),(3,158)] [[],[],[],[(1,156),(2,157)]] [.agg #[.slice D W.rows.length d,.slice (some ⟨S,0,none⟩) W.ss.length cap],.string ((some v).getD ⟨#[]⟩),.bool (some v).isSome,.agg #[.int .i64 (eT (some v)).kind,.string (eT (some v)).text,.int .i64 0]] (fun _ w w'=>Below w.heap.size w w') (fun wc=>Below W5.heap.size W5 wc) 2 (by kernel_rfl) (by rfl) (by kernel_rfl) (fun _ _ _ _ _ h=>h) (aD _ _).drew (fun _ _=>aD _ _) (fun k w w' h hb=>bU h hb) ?n11ob ?n11fi
  case n11ob=>
   intro i hi wc hR;have e0':=(hR.cell (p:=⟨w.heap.size,0,none⟩) hel).trans e0;have e1':=(hR.cell (p:=⟨w.heap.size,1,none⟩) hel).trans e1
   by_cases hk3:i=3
   ·subst hk3;refine⟨_,rfl,?_,Or.inr ⟨126,#[.string ((some v).getD ⟨#[]⟩),.bool (some v).isSome],?_,?_⟩⟩
    ·((try simp only[aN,aT,aS,aQ,aH,aG,aF]);try rfl)
    ·((try simp only[aN,aT,aS,aQ,aH,aG,aF]);go_simp;try rfl)
    ·refine(xX (some v) wc).mono ?_;rintro e w' ⟨rfl,hb⟩;exact⟨rfl,hb⟩
   rcases i with _|_|_|_|i
   all_goals (first|contradiction|exact fU|exact absurd hi (by simp))
  case n11fi=>
   intro wf hR;have hS:=True.intro
   (try simp only[aN,aT,aS,aQ,aH,aG,aF])
   obtain⟨r0,r1⟩:=bR (HE.out.below hR).R;obtain⟨b0,b1,b2⟩:=bA (HE.out.below hR).A;obtain⟨g0,g1,_⟩:=cV (HE.out.below hR).R 0;obtain⟨k0,k1,k2,_⟩:=cV (HE.out.below hR).A 0;simp only[cW]at g1 k1 k2;have HF:=aA ((HE.out.below hR).fin (eT (some v)));clear hR e0 e1 hel;refine cK (i:=4) (fun K hK=>?_)
   (try simp only[aE,aB,aC])
   go_simp;have hS2:=True.intro;refine hK.out _ _ hS2 ?_;clear hK K hS;have hS:=hS2;clear hS2
   (try simp only[aE,aB,aC,aQ,aH,aG,aF])
   refine bY (fun K hK=>?_)
   (try simp only[aE,aB,aC])
   go_simp;refine hK.out _ _ ?_;clear hK K
   (try simp only[aE,aB,aC,aQ,aH,aG,aF])
   go_wp2;refine bE (v:= .tuple #[.agg #[.slice D W.rows.length d,.slice (some ⟨S,0,none⟩) W.ss.length cap],.agg #[.int .i64 (eT (some v)).kind,.string (eT (some v)).text,.int .i64 0]]) (by simp[results,Tryz.results105,go_sem,r0,r1,b0,b1,b2]) rfl ?_;exact HF.out _ _ _ _ _
 case' c12=>
  intro a1 a2 a3;subst a1;have t0:(s.st==2)=false:=bJ.2 a2;clear a2;go_enter Tryz.func105,Tryz.ntmps105;go_wp2_with fail;rw[HW5.out];refine(jG _ s.wr key _ _ (HS.out.core.l4.step HD.out.bel)).mono ?_;rw[a3,jQ];rintro e w5 ⟨rfl,rfl⟩;go_wp2_with fail;refine(jG _ W.rows key _ _ (HH.out.rows.step HD.out.bel)).mono ?_;rw[jQ];rintro e w5 ⟨rfl,rfl⟩;generalize aX W.rows key=o at*;go_wp2_with fail;have HE:=aA (HD.out.atE HH.out);obtain⟨e0,e1⟩:=bR HE.out.X;have hel:=HE.out.X.lt;clear x0 x1 y0 y1 y2 z0 z1 z2 z3 z4 hXl hYl hZl c0 c1 c2 c3 c4;refine fV 5 [(0,155),(1,156),(2,157),(3,158)] [[],[],[],[(1,156),(2,157)]] [.agg #[.slice D W.rows.length d,.slice (some ⟨S,0,none⟩) W.ss.length cap],.string (o.getD ⟨#[]⟩),.bool o.isSome,.agg #[.int .i64 (eT o).kind,.string (eT o).text,.int .i64 0]] (fun _ w w'=>Below w.heap.size w w') (fun wc=>Below W5.heap.size W5 wc) 2 (by kernel_rfl) (by rfl) (by kernel_rfl) (fun _ _ _ _ _ h=>h) (aD _ _).drew (fun _ _=>aD _ _) (fun k w w' h hb=>bU h hb) ?n12ob ?n12fi
  case n12ob=>
   intro i hi wc hR;have e0':=(hR.cell (p:=⟨w.heap.size,0,none⟩) hel).trans e0;have e1':=(hR.cell (p:=⟨w.heap.size,1,none⟩) hel).trans e1
   by_cases hk3:i=3
   ·subst hk3;refine⟨_,rfl,?_,Or.inr ⟨126,#[.string (o.getD ⟨#[]⟩),.bool o.isSome],?_,?_⟩⟩
    ·((try simp only[aN,aT,aS,aQ,aH,aG,aF]);try rfl)
    ·((try simp only[aN,aT,aS,aQ,aH,aG,aF]);go_simp;try rfl)
    ·refine(xX o wc).mono ?_;rintro e w' ⟨rfl,hb⟩;exact⟨rfl,hb⟩
   rcases i with _|_|_|_|i
   all_goals (first|contradiction|exact fU|exact absurd hi (by simp))
  case n12fi=>
   intro wf hR;have hS:=True.intro
   (try simp only[aN,aT,aS,aQ,aH,aG,aF])
   obtain⟨r0,r1⟩:=bR (HE.out.below hR).R;obtain⟨b0,b1,b2⟩:=bA (HE.out.below hR).A;obtain⟨g0,g1,_⟩:=cV (HE.out.below hR).R 0;obtain⟨k0,k1,k2,_⟩:=cV (HE.out.below hR).A 0;simp only[cW]at g1 k1 k2;have HF:=aA ((HE.out.below hR).fin (eT o));clear hR e0 e1 hel;refine cK (i:=4) (fun K hK=>?_)
   (try simp only[aE,aB,aC])
   go_simp;have hS2:=True.intro;refine hK.out _ _ hS2 ?_;clear hK K hS;have hS:=hS2;clear hS2
   (try simp only[aE,aB,aC,aQ,aH,aG,aF])
   refine bY (fun K hK=>?_)
   (try simp only[aE,aB,aC])
   go_simp;refine hK.out _ _ ?_;clear hK K
   (try simp only[aE,aB,aC,aQ,aH,aG,aF])
   go_wp2;refine bE (v:= .tuple #[.agg #[.slice D W.rows.length d,.slice (some ⟨S,0,none⟩) W.ss.length cap],.agg #[.int .i64 (eT o).kind,.string (eT o).text,.int .i64 0]]) (by simp[results,Tryz.results105,go_sem,r0,r1,b0,b1,b2]) rfl ?_;exact HF.out _ _ _ _ _
 case' c14=>
  intro a1 a2 a3 a4;subst a1;have t0:(s.st==2)=false:=bJ.2 a2;have t1:(6:Int)<=(s.set.length:Int):=by omega
  clear a2 a4;go_enter Tryz.func105,Tryz.ntmps105;go_wp2_with fail;rw[HW5.out];refine(jG _ s.set key _ _ (HS.out.core.l1.step HD.out.bel)).mono ?_;rw[a3,jQ];rintro e w5 ⟨rfl,rfl⟩;go_wp2_with fail;have HE:=aA (HD.out.atE HH.out);obtain⟨e0,e1⟩:=bR HE.out.X;have hel:=HE.out.X.lt;clear x0 x1 y0 y1 y2 z0 z1 z2 z3 z4 hXl hYl hZl c0 c1 c2 c3 c4;refine fV 3 [(0,202),(1,203)] [[],[]] [.agg #[.slice D W.rows.length d,.slice (some ⟨S,0,none⟩) W.ss.length cap],.agg #[.int .i64 4,.string eQ,.int .i64 0]] (fun _ w w'=>Below w.heap.size w w') (fun wc=>Below W5.heap.size W5 wc) 2 (by kernel_rfl) (by rfl) (by kernel_rfl) (fun _ _ _ _ _ h=>h) (aD _ _).drew (fun _ _=>aD _ _) (fun k w w' h hb=>bU h hb) ?n14ob ?n14fi
  case n14ob=>
   intro i hi wc hR;have e0':=(hR.cell (p:=⟨w.heap.size,0,none⟩) hel).trans e0;have e1':=(hR.cell (p:=⟨w.heap.size,1,none⟩) hel).trans e1
   by_cases hk1:i=1
   ·subst hk1;refine⟨_,rfl,?_,Or.inr ⟨123,#[.string eQ],?_,?_⟩⟩
    ·((try simp only[aN,aT,aS,aQ,aH,aG,aF]);try rfl)
    ·((try simp only[aN,aT,aS,aQ,aH,aG,aF]);go_simp;try rfl)
    ·refine(kQ eQ wc).mono ?_;rintro e w' ⟨rfl,hb⟩;exact⟨rfl,hb⟩
   rcases i with _|_|i
   all_goals (first|contradiction|exact fU|exact absurd hi (by simp))
  case n14fi=>
   intro wf hR;have hS:=True.intro
   (try simp only[aN,aT,aS,aQ,aH,aG,aF])
   obtain⟨r0,r1⟩:=bR (HE.out.below hR).R;obtain⟨b0,b1,b2⟩:=bA (HE.out.below hR).A;obtain⟨g0,g1,_⟩:=cV (HE.out.below hR).R 0;obtain⟨k0,k1,k2,_⟩:=cV (HE.out.below hR).A 0;simp only[cW]at g1 k1 k2;have HF:=aA ((HE.out.below hR).fin (cY eQ));clear hR e0 e1 hel;refine cK (i:=2) (fun K hK=>?_)
   (try simp only[aE,aB,aC])
   go_simp;have hS2:=True.intro;refine hK.out _ _ hS2 ?_;clear hK K hS;have hS:=hS2;clear hS2
   (try simp only[aE,aB,aC,aQ,aH,aG,aF])
   refine bY (fun K hK=>?_)
   (try simp only[aE,aB,aC])
   go_simp;refine hK.out _ _ ?_;clear hK K
   (try simp only[aE,aB,aC,aQ,aH,aG,aF])
   go_wp2;refine bE (v:= .tuple #[.agg #[.slice D W.rows.length d,.slice (some ⟨S,0,none⟩) W.ss.length cap],.agg #[.int .i64 4,.string eQ,.int .i64 0]]) (by simp[results,Tryz.results105,go_sem,r0,r1,b0,b1,b2]) rfl ?_;exact HF.out _ _ _ _ _
 case' c16=>
  intro a1 a2 a3 a4;subst a1;have t0:(s.st==2)=false:=bJ.2 a2;have t1:(6:Int)<=(s.prep.length:Int):=by omega
  clear a2 a4;go_enter Tryz.func105,Tryz.ntmps105;go_wp2_with fail;rw[HW5.out];refine(jG _ s.prep key _ _ (HS.out.core.l2.step HD.out.bel)).mono ?_;rw[a3,jQ];rintro e w5 ⟨rfl,rfl⟩;go_wp2_with fail;have HE:=aA (HD.out.atE HH.out);obtain⟨e0,e1⟩:=bR HE.out.X;have hel:=HE.out.X.lt;clear x0 x1 y0 y1 y2 z0 z1 z2 z3 z4 hXl hYl hZl c0 c1 c2 c3 c4;refine fV 3 [(0,230),(1,231)] [[],[]] [.agg #[.slice D W.rows.length d,.slice (some ⟨S,0,none⟩) W.ss.length cap],.agg #[.int .i64 4,.string eQ,.int .i64 0]] (fun _ w w'=>Below w.heap.size w w') (fun wc=>Below W5.heap.size W5 wc) 2 (by kernel_rfl) (by rfl) (by kernel_rfl) (fun _ _ _ _ _ h=>h) (aD _ _).drew (fun _ _=>aD _ _) (fun k w w' h hb=>bU h hb) ?n16ob ?n16fi
  case n16ob=>
   intro i hi wc hR;have e0':=(hR.cell (p:=⟨w.heap.size,0,none⟩) hel).trans e0;have e1':=(hR.cell (p:=⟨w.heap.size,1,none⟩) hel).trans e1
   by_cases hk1:i=1
   ·subst hk1;refine⟨_,rfl,?_,Or.inr ⟨123,#[.string eQ],?_,?_⟩⟩
    ·((try simp only[aN,aT,aS,aQ,aH,aG,aF]);try rfl)
    ·((try simp only[aN,aT,aS,aQ,aH,aG,aF]);go_simp;try rfl)
    ·refine(kQ eQ wc).mono ?_;rintro e w' ⟨rfl,hb⟩;exact⟨rfl,hb⟩
   rcases i with _|_|i
   all_goals (first|contradiction|exact fU|exact absurd hi (by simp))
  case n16fi=>
   intro wf hR;have hS:=True.intro
   (try simp only[aN,aT,aS,aQ,aH,aG,aF])
   obtain⟨r0,r1⟩:=bR (HE.out.below hR).R;obtain⟨b0,b1,b2⟩:=bA (HE.out.below hR).A;obtain⟨g0,g1,_⟩:=cV (HE.out.below hR).R 0;obtain⟨k0,k1,k2,_⟩:=cV (HE.out.below hR).A 0;simp only[cW]at g1 k1 k2;have HF:=aA ((HE.out.below hR).fin (cY eQ));clear hR e0 e1 hel;refine cK (i:=2) (fun K hK=>?_)
   (try simp only[aE,aB,aC])
   go_simp;have hS2:=True.intro;refine hK.out _ _ hS2 ?_;clear hK K hS;have hS:=hS2;clear hS2
   (try simp only[aE,aB,aC,aQ,aH,aG,aF])
   refine bY (fun K hK=>?_)
   (try simp only[aE,aB,aC])
   go_simp;refine hK.out _ _ ?_;clear hK K
   (try simp only[aE,aB,aC,aQ,aH,aG,aF])
   go_wp2;refine bE (v:= .tuple #[.agg #[.slice D W.rows.length d,.slice (some ⟨S,0,none⟩) W.ss.length cap],.agg #[.int .i64 4,.string eQ,.int .i64 0]]) (by simp[results,Tryz.results105,go_sem,r0,r1,b0,b1,b2]) rfl ?_;exact HF.out _ _ _ _ _
 case' c17=>
  intro a1 a2 a3;subst a1;have t0:(s.st==2)=false:=bJ.2 a2;clear a2;go_enter Tryz.func105,Tryz.ntmps105;go_wp2_with fail;rw[HW5.out];refine(uB _ _ W i key _ (HH.out.below HD.out.bel).wld).mono ?_;rw[a3];rintro e w6 ⟨rfl,hb6⟩;have HD6:=aA (HD.out.below hb6);clear x0 x1 y0 y1 y2 z0 z1 z2 z3 z4 hXl hYl hZl;obtain⟨x0,x1⟩:=bR HD6.out.X;obtain⟨y0,y1,y2⟩:=bA HD6.out.Y;obtain⟨z0,z1,z2,z3,z4⟩:=gI HD6.out.Z;have hXl:=HD6.out.X.lt;have hYl:=HD6.out.Y.lt;have hZl:=HD6.out.Z.lt;clear hb6;go_wp2_with fail;have HE:=aA (HD6.out.atE HH.out);obtain⟨e0,e1⟩:=bR HE.out.X;have hel:=HE.out.X.lt;clear x0 x1 y0 y1 y2 z0 z1 z2 z3 z4 hXl hYl hZl c0 c1 c2 c3 c4;refine fV 3 [(0,247),(1,248)] [[],[]] [.agg #[.slice D W.rows.length d,.slice (some ⟨S,0,none⟩) W.ss.length cap],.agg #[.int .i64 4,.string kJ,.int .i64 0]] (fun _ w w'=>Below w.heap.size w w') (fun wc=>Below w6.heap.size w6 wc) 2 (by kernel_rfl) (by rfl) (by kernel_rfl) (fun _ _ _ _ _ h=>h) (aD _ _).drew (fun _ _=>aD _ _) (fun k w w' h hb=>bU h hb) ?n17ob ?n17fi
  case n17ob=>
   intro i hi wc hR;have e0':=(hR.cell (p:=⟨w.heap.size,0,none⟩) hel).trans e0;have e1':=(hR.cell (p:=⟨w.heap.size,1,none⟩) hel).trans e1
   by_cases hk1:i=1
   ·subst hk1;refine⟨_,rfl,?_,Or.inr ⟨123,#[.string kJ],?_,?_⟩⟩
    ·((try simp only[aN,aT,aS,aQ,aH,aG,aF]);try rfl)
    ·((try simp only[aN,aT,aS,aQ,aH,aG,aF]);go_simp;try rfl)
    ·refine(kQ kJ wc).mono ?_;rintro e w' ⟨rfl,hb⟩;exact⟨rfl,hb⟩
   rcases i with _|_|i
   all_goals (first|contradiction|exact fU|exact absurd hi (by simp))
  case n17fi=>
   intro wf hR;have hS:=True.intro
   (try simp only[aN,aT,aS,aQ,aH,aG,aF])
   obtain⟨r0,r1⟩:=bR (HE.out.below hR).R;obtain⟨b0,b1,b2⟩:=bA (HE.out.below hR).A;obtain⟨g0,g1,_⟩:=cV (HE.out.below hR).R 0;obtain⟨k0,k1,k2,_⟩:=cV (HE.out.below hR).A 0;simp only[cW]at g1 k1 k2;have HF:=aA ((HE.out.below hR).fin (cY kJ));clear hR e0 e1 hel;refine cK (i:=2) (fun K hK=>?_)
   (try simp only[aE,aB,aC])
   go_simp;have hS2:=True.intro;refine hK.out _ _ hS2 ?_;clear hK K hS;have hS:=hS2;clear hS2
   (try simp only[aE,aB,aC,aQ,aH,aG,aF])
   refine bY (fun K hK=>?_)
   (try simp only[aE,aB,aC])
   go_simp;refine hK.out _ _ ?_;clear hK K
   (try simp only[aE,aB,aC,aQ,aH,aG,aF])
   go_wp2;refine bE (v:= .tuple #[.agg #[.slice D W.rows.length d,.slice (some ⟨S,0,none⟩) W.ss.length cap],.agg #[.int .i64 4,.string kJ,.int .i64 0]]) (by simp[results,Tryz.results105,go_sem,r0,r1,b0,b1,b2]) rfl ?_;exact HF.out _ _ _ _ _
 case' c7=>
  intro a1 a2;subst a1;have t0:(s.st==2)=false:=bJ.2 (by omega);have t1:(s.st !=0)=false:=bne_eq_false_iff_eq.2 a2;have HD6:=aA (pT w (.slice D W.rows.length d) (.slice (some ⟨S,0,none⟩) W.ss.length cap) 4 key val s.st (.slice none 0 0) (.slice none 0 0) (.slice A3 s.sav.length n3) (.slice A4 s.wr.length n4));have hS6:=HH.out.blk.below HD6.out.bel hSw;obtain⟨s0,s1,s2,s3,s4,d0,d1,d2,d3,d4⟩:=lO hS6 (o:=i*5) (by have:=HH.out.len;have:=HI.out.1;omega);obtain⟨df0,df1,df2,df3,df4⟩:=cV hS6 (i*5);unfold gC gE at d0 d1 d2 d3 d4 df0 df1 df2 df3 df4;clear hS6;clear a2;go_enter Tryz.func105,Tryz.ntmps105;go_wp2;clear d0 d1 d2 d3 d4 df0 df1 df2 df3 df4 x0 x1 y0 y1 y2 z0 z1 z2 z3 z4 hXl hYl hZl c0 c1 c2 c3 c4;have HP:=aA (HD6.out.put (wz:=gC w (.slice D W.rows.length d) (.slice (some ⟨S,0,none⟩) W.ss.length cap) 4 key val s.st (.slice none 0 0) (.slice none 0 0) (.slice A3 s.sav.length n3) (.slice A4 s.wr.length n4)) (s':={s with set:=[],prep:=[]}) (rows':=W.rows) (u1:= .slice none 0 0) (u2:= .slice none 0 0) (u3:= .slice A3 s.sav.length n3) (u4:= .slice A4 s.wr.length n4) HH.out HQ.out HI.out.1 (rz:= .slice D W.rows.length d) HD6.out.X (fun b h1 h2=>rfl) (by first|rfl|simp[cE]) ⟨rfl,rfl,rfl⟩ (HH.out.rows.step HD6.out.bel) (Lst.none_ _ _) (Lst.none_ _ _) (HS.out.core.l3.step HD6.out.bel) (HS.out.core.l4.step HD6.out.bel) (dW HQ.out HH.out.rows HH.out.rin) (InP.nil_ _ _) (InP.nil_ _ _) (dW HQ.out HS.out.core.l3 HS.out.p3) (dW HQ.out HS.out.core.l4 HS.out.p4));obtain⟨W7,HW7⟩: ∃u,Hid (cJ (gC w (.slice D W.rows.length d) (.slice (some ⟨S,0,none⟩) W.ss.length cap) 4 key val s.st (.slice none 0 0) (.slice none 0 0) (.slice A3 s.sav.length n3) (.slice A4 s.wr.length n4)) S (i*5) (.int .i64 s.st) (.slice none 0 0) (.slice none 0 0) (.slice A3 s.sav.length n3) (.slice A4 s.wr.length n4)=u):=⟨_,aA rfl⟩;have e7:=HW7.out;rw[e7]at HP;unfold cJ gC gE at e7;rw[e7];obtain⟨W8,h8⟩: ∃W8,(⟨W.rows,W.ss.set i {s with set:=[],prep:=[]}⟩:Wd)=W8:=⟨_,rfl⟩;rw[h8]at HP;obtain⟨D8,m8,d8,hr8⟩: ∃D8 m8 d8,(.slice D W.rows.length d:Value)= .slice D8 m8 d8:=⟨_,_,_,rfl⟩;rw[hr8]at HP;have HE:=aA HP.out.1;have HO:=aA HP.out.2;clear HP e7 HW7 hr8
 case' c6=>
  intro a1 a2 a3;have hst3:s.st=1\/s.st=2:=by have:=hRE.out.1.lo;have:=hRE.out.1.hi;omega
  rcases a1 with rfl|rfl
  case' inl=>
   have h2:s.st=2:=hst3.resolve_left (fun h=>a3 ⟨rfl,h⟩);have t0:(s.st==0)=false:=bJ.2 a2;have t1:(s.st==1)=false:=bJ.2 (by omega);have t2:(s.st==2)=true:=beq_iff_eq.2 h2;have HD6:=aA (pT w (.slice D W.rows.length d) (.slice (some ⟨S,0,none⟩) W.ss.length cap) 2 key val 0 (.slice A3 s.sav.length n3) (.slice A2 s.prep.length n2) (.slice none 0 0) (.slice none 0 0));have hS6:=HH.out.blk.below HD6.out.bel hSw;obtain⟨s0,s1,s2,s3,s4,d0,d1,d2,d3,d4⟩:=lO hS6 (o:=i*5) (by have:=HH.out.len;have:=HI.out.1;omega);obtain⟨df0,df1,df2,df3,df4⟩:=cV hS6 (i*5);unfold gC gE at d0 d1 d2 d3 d4 df0 df1 df2 df3 df4;clear hS6;clear a2 a3 h2;go_enter Tryz.func105,Tryz.ntmps105;go_wp2;clear d0 d1 d2 d3 d4 df0 df1 df2 df3 df4 x0 x1 y0 y1 y2 z0 z1 z2 z3 z4 hXl hYl hZl c0 c1 c2 c3 c4;have HP:=aA (HD6.out.put (wz:=gC w (.slice D W.rows.length d) (.slice (some ⟨S,0,none⟩) W.ss.length cap) 2 key val 0 (.slice A3 s.sav.length n3) (.slice A2 s.prep.length n2) (.slice none 0 0) (.slice none 0 0)) (s':={s with st:=0,set:=s.sav,sav:=[],wr:=[]}) (rows':=W.rows) (u1:= .slice A3 s.sav.length n3) (u2:= .slice A2 s.prep.length n2) (u3:= .slice none 0 0) (u4:= .slice none 0 0) HH.out HQ.out HI.out.1 (rz:= .slice D W.rows.length d) HD6.out.X (fun b h1 h2=>rfl) (by first|rfl|simp[cE]) ⟨rfl,rfl,rfl⟩ (HH.out.rows.step HD6.out.bel) (HS.out.core.l3.step HD6.out.bel) (HS.out.core.l2.step HD6.out.bel) (Lst.none_ _ _) (Lst.none_ _ _) (dW HQ.out HH.out.rows HH.out.rin) (dW HQ.out HS.out.core.l3 HS.out.p3) (dW HQ.out HS.out.core.l2 HS.out.p2) (InP.nil_ _ _) (InP.nil_ _ _));obtain⟨W7,HW7⟩: ∃u,Hid (cJ (gC w (.slice D W.rows.length d) (.slice (some ⟨S,0,none⟩) W.ss.length cap) 2 key val 0 (.slice A3 s.sav.length n3) (.slice A2 s.prep.length n2) (.slice none 0 0) (.slice none 0 0)) S (i*5) (.int .i64 0) (.slice A3 s.sav.length n3) (.slice A2 s.prep.length n2) (.slice none 0 0) (.slice none 0 0)=u):=⟨_,aA rfl⟩;have e7:=HW7.out;rw[e7]at HP;unfold cJ gC gE at e7;rw[e7];obtain⟨W8,h8⟩: ∃W8,(⟨W.rows,W.ss.set i {s with st:=0,set:=s.sav,sav:=[],wr:=[]}⟩:Wd)=W8:=⟨_,rfl⟩;rw[h8]at HP;obtain⟨D8,m8,d8,hr8⟩: ∃D8 m8 d8,(.slice D W.rows.length d:Value)= .slice D8 m8 d8:=⟨_,_,_,rfl⟩;rw[hr8]at HP;have HE:=aA HP.out.1;have HO:=aA HP.out.2;clear HP e7 HW7 hr8
  case' inr=>
   rcases hst3 with h2|h2
   case' inl=>
    have t0:(s.st==0)=false:=bJ.2 a2;have t1:(s.st==2)=false:=bJ.2 (by omega);have HD6:=aA (pT w (.slice D W.rows.length d) (.slice (some ⟨S,0,none⟩) W.ss.length cap) 3 key val 0 (.slice A3 s.sav.length n3) (.slice A2 s.prep.length n2) (.slice none 0 0) (.slice none 0 0));have hS6:=HH.out.blk.below HD6.out.bel hSw;obtain⟨s0,s1,s2,s3,s4,d0,d1,d2,d3,d4⟩:=lO hS6 (o:=i*5) (by have:=HH.out.len;have:=HI.out.1;omega);obtain⟨df0,df1,df2,df3,df4⟩:=cV hS6 (i*5);unfold gC gE at d0 d1 d2 d3 d4 df0 df1 df2 df3 df4;clear hS6;clear a2 a3 h2;go_enter Tryz.func105,Tryz.ntmps105;go_wp2;clear d0 d1 d2 d3 d4 df0 df1 df2 df3 df4 x0 x1 y0 y1 y2 z0 z1 z2 z3 z4 hXl hYl hZl c0 c1 c2 c3 c4;have HP:=aA (HD6.out.put (wz:=gC w (.slice D W.rows.length d) (.slice (some ⟨S,0,none⟩) W.ss.length cap) 3 key val 0 (.slice A3 s.sav.length n3) (.slice A2 s.prep.length n2) (.slice none 0 0) (.slice none 0 0)) (s':={s with st:=0,set:=s.sav,sav:=[],wr:=[]}) (rows':=W.rows) (u1:= .slice A3 s.sav.length n3) (u2:= .slice A2 s.prep.length n2) (u3:= .slice none 0 0) (u4:= .slice none 0 0) HH.out HQ.out HI.out.1 (rz:= .slice D W.rows.length d) HD6.out.X (fun b h1 h2=>rfl) (by first|rfl|simp[cE]) ⟨rfl,rfl,rfl⟩ (HH.out.rows.step HD6.out.bel) (HS.out.core.l3.step HD6.out.bel) (HS.out.core.l2.step HD6.out.bel) (Lst.none_ _ _) (Lst.none_ _ _) (dW HQ.out HH.out.rows HH.out.rin) (dW HQ.out HS.out.core.l3 HS.out.p3) (dW HQ.out HS.out.core.l2 HS.out.p2) (InP.nil_ _ _) (InP.nil_ _ _));obtain⟨W7,HW7⟩: ∃u,Hid (cJ (gC w (.slice D W.rows.length d) (.slice (some ⟨S,0,none⟩) W.ss.length cap) 3 key val 0 (.slice A3 s.sav.length n3) (.slice A2 s.prep.length n2) (.slice none 0 0) (.slice none 0 0)) S (i*5) (.int .i64 0) (.slice A3 s.sav.length n3) (.slice A2 s.prep.length n2) (.slice none 0 0) (.slice none 0 0)=u):=⟨_,aA rfl⟩;have e7:=HW7.out;rw[e7]at HP;unfold cJ gC gE at e7;rw[e7];obtain⟨W8,h8⟩: ∃W8,(⟨W.rows,W.ss.set i {s with st:=0,set:=s.sav,sav:=[],wr:=[]}⟩:Wd)=W8:=⟨_,rfl⟩;rw[h8]at HP;obtain⟨D8,m8,d8,hr8⟩: ∃D8 m8 d8,(.slice D W.rows.length d:Value)= .slice D8 m8 d8:=⟨_,_,_,rfl⟩;rw[hr8]at HP;have HE:=aA HP.out.1;have HO:=aA HP.out.2;clear HP e7 HW7 hr8
   case' inr=>
    have t0:(s.st==0)=false:=bJ.2 a2;have t1:(s.st==2)=true:=beq_iff_eq.2 h2;have HD6:=aA (pT w (.slice D W.rows.length d) (.slice (some ⟨S,0,none⟩) W.ss.length cap) 3 key val 0 (.slice A3 s.sav.length n3) (.slice A2 s.prep.length n2) (.slice none 0 0) (.slice none 0 0));have hS6:=HH.out.blk.below HD6.out.bel hSw;obtain⟨s0,s1,s2,s3,s4,d0,d1,d2,d3,d4⟩:=lO hS6 (o:=i*5) (by have:=HH.out.len;have:=HI.out.1;omega);obtain⟨df0,df1,df2,df3,df4⟩:=cV hS6 (i*5);unfold gC gE at d0 d1 d2 d3 d4 df0 df1 df2 df3 df4;clear hS6;clear a2 a3 h2;go_enter Tryz.func105,Tryz.ntmps105;go_wp2;clear d0 d1 d2 d3 d4 df0 df1 df2 df3 df4 x0 x1 y0 y1 y2 z0 z1 z2 z3 z4 hXl hYl hZl c0 c1 c2 c3 c4;have HP:=aA (HD6.out.put (wz:=gC w (.slice D W.rows.length d) (.slice (some ⟨S,0,none⟩) W.ss.length cap) 3 key val 0 (.slice A3 s.sav.length n3) (.slice A2 s.prep.length n2) (.slice none 0 0) (.slice none 0 0)) (s':={s with st:=0,set:=s.sav,sav:=[],wr:=[]}) (rows':=W.rows) (u1:= .slice A3 s.sav.length n3) (u2:= .slice A2 s.prep.length n2) (u3:= .slice none 0 0) (u4:= .slice none 0 0) HH.out HQ.out HI.out.1 (rz:= .slice D W.rows.length d) HD6.out.X (fun b h1 h2=>rfl) (by first|rfl|simp[cE]) ⟨rfl,rfl,rfl⟩ (HH.out.rows.step HD6.out.bel) (HS.out.core.l3.step HD6.out.bel) (HS.out.core.l2.step HD6.out.bel) (Lst.none_ _ _) (Lst.none_ _ _) (dW HQ.out HH.out.rows HH.out.rin) (dW HQ.out HS.out.core.l3 HS.out.p3) (dW HQ.out HS.out.core.l2 HS.out.p2) (InP.nil_ _ _) (InP.nil_ _ _));obtain⟨W7,HW7⟩: ∃u,Hid (cJ (gC w (.slice D W.rows.length d) (.slice (some ⟨S,0,none⟩) W.ss.length cap) 3 key val 0 (.slice A3 s.sav.length n3) (.slice A2 s.prep.length n2) (.slice none 0 0) (.slice none 0 0)) S (i*5) (.int .i64 0) (.slice A3 s.sav.length n3) (.slice A2 s.prep.length n2) (.slice none 0 0) (.slice none 0 0)=u):=⟨_,aA rfl⟩;have e7:=HW7.out;rw[e7]at HP;unfold cJ gC gE at e7;rw[e7];obtain⟨W8,h8⟩: ∃W8,(⟨W.rows,W.ss.set i {s with st:=0,set:=s.sav,sav:=[],wr:=[]}⟩:Wd)=W8:=⟨_,rfl⟩;rw[h8]at HP;obtain⟨D8,m8,d8,hr8⟩: ∃D8 m8 d8,(.slice D W.rows.length d:Value)= .slice D8 m8 d8:=⟨_,_,_,rfl⟩;rw[hr8]at HP;have HE:=aA HP.out.1;have HO:=aA HP.out.2;clear HP e7 HW7 hr8
 case' c2=>
  intro a1 a2;subst a1;have t0:(s.st==2)=false:=bJ.2 (by omega);have t1:(s.st !=0)=false:=bne_eq_false_iff_eq.2 a2;obtain⟨W1,HW1⟩: ∃u,Hid (gC w (.slice D W.rows.length d) (.slice (some ⟨S,0,none⟩) W.ss.length cap) 1 key val 1 (.slice A1 s.set.length n1) (.slice A2 s.prep.length n2) (.slice A3 s.sav.length n3) (.slice A4 s.wr.length n4)=u):=⟨_,aA rfl⟩;have hD1:=pT w (.slice D W.rows.length d) (.slice (some ⟨S,0,none⟩) W.ss.length cap) 1 key val 1 (.slice A1 s.set.length n1) (.slice A2 s.prep.length n2) (.slice A3 s.sav.length n3) (.slice A4 s.wr.length n4);rw[HW1.out]at hD1;unfold gC gE at HW1;clear a2;go_enter Tryz.func105,Tryz.ntmps105;go_wp2_with fail;rw[HW1.out];refine(xV _ s.set _ (HS.out.core.l1.step hD1.bel)).mono ?_;rintro e w6 ⟨v6,rfl,ho,hb6⟩;obtain⟨A6,m6,rfl⟩:=mH ho;have HD6:=aA (hD1.below hb6);have HO6:=aA (aJ hD1.size ho);clear x0 x1 y0 y1 y2 z0 z1 z2 z3 z4 hXl hYl hZl;obtain⟨x0,x1⟩:=bR HD6.out.X;obtain⟨y0,y1,y2⟩:=bA HD6.out.Y;obtain⟨z0,z1,z2,z3,z4⟩:=gI HD6.out.Z;have hXl:=HD6.out.X.lt;have hYl:=HD6.out.Y.lt;have hZl:=HD6.out.Z.lt;have hS6:=HH.out.blk.below HD6.out.bel hSw;obtain⟨s0,s1,s2,s3,s4,d0,d1,d2,d3,d4⟩:=lO hS6 (o:=i*5) (by have:=HH.out.len;have:=HI.out.1;omega);obtain⟨df0,df1,df2,df3,df4⟩:=cV hS6 (i*5);have hSz:=hS6.lt;obtain⟨zf0,zf1,zf2,zf3,zf4⟩:=cV HD6.out.Z 0;simp only[cW]at zf1 zf2 zf3 zf4;have xf0:=HD6.out.X.frozen 0;clear hS6;clear hb6 ho hD1 HW1;go_wp2;clear d0 d1 d2 d3 d4 df0 df1 df2 df3 df4 x0 x1 y0 y1 y2 z0 z1 z2 z3 z4 hXl hYl hZl c0 c1 c2 c3 c4;clear hSz zf0 zf1 zf2 zf3 zf4 xf0;have HP:=aA (HD6.out.put (wz:=w6.setCell ⟨w.heap.size+1+1+1+1,3,none⟩ (.slice A6 s.set.length m6)) (s':={s with st:=1,sav:=s.set}) (rows':=W.rows) (u1:= .slice A1 s.set.length n1) (u2:= .slice A2 s.prep.length n2) (u3:= .slice A6 s.set.length m6) (u4:= .slice A4 s.wr.length n4) HH.out HQ.out HI.out.1 (rz:= .slice D W.rows.length d) (HD6.out.X.other (p:=⟨w.heap.size+1+1+1+1,3,none⟩) (by show w.heap.size+1+1+1+1≠w.heap.size;omega) (.slice A6 s.set.length m6)) (fun b h1 h2=>bF _ _ _ _ h2) (by first|rfl|simp[cE]) ⟨rfl,rfl,rfl⟩ (HH.out.rows.step HD6.out.bel) (HS.out.core.l1.step HD6.out.bel) (HS.out.core.l2.step HD6.out.bel) (kP HO6.out.2 HS.out.core.l1.bytes HS.out.core.l1.sizes) (HS.out.core.l4.step HD6.out.bel) (dW HQ.out HH.out.rows HH.out.rin) (dW HQ.out HS.out.core.l1 HS.out.p1) (dW HQ.out HS.out.core.l2 HS.out.p2) (pU HN.out hSw HO6.out.1 HO6.out.2) (dW HQ.out HS.out.core.l4 HS.out.p4));obtain⟨W7,HW7⟩: ∃u,Hid (cJ (w6.setCell ⟨w.heap.size+1+1+1+1,3,none⟩ (.slice A6 s.set.length m6)) S (i*5) (.int .i64 1) (.slice A1 s.set.length n1) (.slice A2 s.prep.length n2) (.slice A6 s.set.length m6) (.slice A4 s.wr.length n4)=u):=⟨_,aA rfl⟩;have e7:=HW7.out;rw[e7]at HP;unfold cJ at e7;rw[e7];obtain⟨W8,h8⟩: ∃W8,(⟨W.rows,W.ss.set i {s with st:=1,sav:=s.set}⟩:Wd)=W8:=⟨_,rfl⟩;rw[h8]at HP;obtain⟨D8,m8,d8,hr8⟩: ∃D8 m8 d8,(.slice D W.rows.length d:Value)= .slice D8 m8 d8:=⟨_,_,_,rfl⟩;rw[hr8]at HP;have HE:=aA HP.out.1;have HO:=aA HP.out.2;clear HP e7 HW7 hr8
 case' c13=>
  intro a1 a2 a3;subst a1;have t0:(s.st==2)=false:=bJ.2 a2;have HPZ:=aA (uD (mA (by omega) hRE.out.1.set) HZ.out);clear a2;go_enter Tryz.func105,Tryz.ntmps105;go_wp2_with fail;rw[HW5.out];refine(jG _ s.set key _ _ (HS.out.core.l1.step HD.out.bel)).mono ?_;rw[jQ];rintro e w5 ⟨rfl,rfl⟩;rcases a3 with⟨v,hv⟩|⟨hv,hl⟩
  all_goals rw[hv]
  all_goals
   go_wp2_with fail;refine(pP _ s.set key val _ (HS.out.core.l1.step HD.out.bel)).mono ?_;rintro e w6 ⟨v6,rfl,ho,hb6⟩;obtain⟨A6,m6,rfl⟩:=mH ho;have HD6:=aA (HD.out.below hb6);have HO6:=aA (aJ HD.out.size ho);clear x0 x1 y0 y1 y2 z0 z1 z2 z3 z4 hXl hYl hZl;obtain⟨x0,x1⟩:=bR HD6.out.X;obtain⟨y0,y1,y2⟩:=bA HD6.out.Y;obtain⟨z0,z1,z2,z3,z4⟩:=gI HD6.out.Z;have hXl:=HD6.out.X.lt;have hYl:=HD6.out.Y.lt;have hZl:=HD6.out.Z.lt;have hS6:=HH.out.blk.below HD6.out.bel hSw;obtain⟨s0,s1,s2,s3,s4,d0,d1,d2,d3,d4⟩:=lO hS6 (o:=i*5) (by have:=HH.out.len;have:=HI.out.1;omega);obtain⟨df0,df1,df2,df3,df4⟩:=cV hS6 (i*5);have hSz:=hS6.lt;obtain⟨zf0,zf1,zf2,zf3,zf4⟩:=cV HD6.out.Z 0;simp only[cW]at zf1 zf2 zf3 zf4;have xf0:=HD6.out.X.frozen 0;clear hS6;clear hb6 ho;go_wp2;clear d0 d1 d2 d3 d4 df0 df1 df2 df3 df4 x0 x1 y0 y1 y2 z0 z1 z2 z3 z4 hXl hYl hZl c0 c1 c2 c3 c4;clear hSz zf0 zf1 zf2 zf3 zf4 xf0;have HP:=aA (HD6.out.put (wz:=w6.setCell ⟨w.heap.size+1+1+1+1,1,none⟩ (.slice A6 (bI s.set key val).length m6)) (s':={s with set:=bI s.set key val}) (rows':=W.rows) (u1:= .slice A6 (bI s.set key val).length m6) (u2:= .slice A2 s.prep.length n2) (u3:= .slice A3 s.sav.length n3) (u4:= .slice A4 s.wr.length n4) HH.out HQ.out HI.out.1 (rz:= .slice D W.rows.length d) (HD6.out.X.other (p:=⟨w.heap.size+1+1+1+1,1,none⟩) (by show w.heap.size+1+1+1+1≠w.heap.size;omega) (.slice A6 (bI s.set key val).length m6)) (fun b h1 h2=>bF _ _ _ _ h2) (by first|rfl|simp[cE]) ⟨rfl,rfl,rfl⟩ (HH.out.rows.step HD6.out.bel) (kP HO6.out.2 HPZ.out.1 HPZ.out.2) (HS.out.core.l2.step HD6.out.bel) (HS.out.core.l3.step HD6.out.bel) (HS.out.core.l4.step HD6.out.bel) (dW HQ.out HH.out.rows HH.out.rin) (pU HN.out hSw HO6.out.1 HO6.out.2) (dW HQ.out HS.out.core.l2 HS.out.p2) (dW HQ.out HS.out.core.l3 HS.out.p3) (dW HQ.out HS.out.core.l4 HS.out.p4));obtain⟨W7,HW7⟩: ∃u,Hid (cJ (w6.setCell ⟨w.heap.size+1+1+1+1,1,none⟩ (.slice A6 (bI s.set key val).length m6)) S (i*5) (.int .i64 s.st) (.slice A6 (bI s.set key val).length m6) (.slice A2 s.prep.length n2) (.slice A3 s.sav.length n3) (.slice A4 s.wr.length n4)=u):=⟨_,aA rfl⟩;have e7:=HW7.out;rw[e7]at HP;unfold cJ at e7;rw[e7];obtain⟨W8,h8⟩: ∃W8,(⟨W.rows,W.ss.set i {s with set:=bI s.set key val}⟩:Wd)=W8:=⟨_,rfl⟩;rw[h8]at HP;obtain⟨D8,m8,d8,hr8⟩: ∃D8 m8 d8,(.slice D W.rows.length d:Value)= .slice D8 m8 d8:=⟨_,_,_,rfl⟩;rw[hr8]at HP;have HE:=aA HP.out.1;have HO:=aA HP.out.2;clear HP e7 HW7 hr8
 case' c15=>
  intro a1 a2 a3;subst a1;have t0:(s.st==2)=false:=bJ.2 a2;have HPZ:=aA (uD (mA (by omega) hRE.out.1.prep) HZ.out);clear a2;go_enter Tryz.func105,Tryz.ntmps105;go_wp2_with fail;rw[HW5.out];refine(jG _ s.prep key _ _ (HS.out.core.l2.step HD.out.bel)).mono ?_;rw[jQ];rintro e w5 ⟨rfl,rfl⟩;rcases a3 with⟨v,hv⟩|⟨hv,hl⟩
  all_goals rw[hv]
  all_goals
   go_wp2_with fail;refine(pP _ s.prep key val _ (HS.out.core.l2.step HD.out.bel)).mono ?_;rintro e w6 ⟨v6,rfl,ho,hb6⟩;obtain⟨A6,m6,rfl⟩:=mH ho;have HD6:=aA (HD.out.below hb6);have HO6:=aA (aJ HD.out.size ho);clear x0 x1 y0 y1 y2 z0 z1 z2 z3 z4 hXl hYl hZl;obtain⟨x0,x1⟩:=bR HD6.out.X;obtain⟨y0,y1,y2⟩:=bA HD6.out.Y;obtain⟨z0,z1,z2,z3,z4⟩:=gI HD6.out.Z;have hXl:=HD6.out.X.lt;have hYl:=HD6.out.Y.lt;have hZl:=HD6.out.Z.lt;have hS6:=HH.out.blk.below HD6.out.bel hSw;obtain⟨s0,s1,s2,s3,s4,d0,d1,d2,d3,d4⟩:=lO hS6 (o:=i*5) (by have:=HH.out.len;have:=HI.out.1;omega);obtain⟨df0,df1,df2,df3,df4⟩:=cV hS6 (i*5);have hSz:=hS6.lt;obtain⟨zf0,zf1,zf2,zf3,zf4⟩:=cV HD6.out.Z 0;simp only[cW]at zf1 zf2 zf3 zf4;have xf0:=HD6.out.X.frozen 0;clear hS6;clear hb6 ho;go_wp2;clear d0 d1 d2 d3 d4 df0 df1 df2 df3 df4 x0 x1 y0 y1 y2 z0 z1 z2 z3 z4 hXl hYl hZl c0 c1 c2 c3 c4;clear hSz zf0 zf1 zf2 zf3 zf4 xf0;have HP:=aA (HD6.out.put (wz:=w6.setCell ⟨w.heap.size+1+1+1+1,2,none⟩ (.slice A6 (bI s.prep key val).length m6)) (s':={s with prep:=bI s.prep key val}) (rows':=W.rows) (u1:= .slice A1 s.set.length n1) (u2:= .slice A6 (bI s.prep key val).length m6) (u3:= .slice A3 s.sav.length n3) (u4:= .slice A4 s.wr.length n4) HH.out HQ.out HI.out.1 (rz:= .slice D W.rows.length d) (HD6.out.X.other (p:=⟨w.heap.size+1+1+1+1,2,none⟩) (by show w.heap.size+1+1+1+1≠w.heap.size;omega) (.slice A6 (bI s.prep key val).length m6)) (fun b h1 h2=>bF _ _ _ _ h2) (by first|rfl|simp[cE]) ⟨rfl,rfl,rfl⟩ (HH.out.rows.step HD6.out.bel) (HS.out.core.l1.step HD6.out.bel) (kP HO6.out.2 HPZ.out.1 HPZ.out.2) (HS.out.core.l3.step HD6.out.bel) (HS.out.core.l4.step HD6.out.bel) (dW HQ.out HH.out.rows HH.out.rin) (dW HQ.out HS.out.core.l1 HS.out.p1) (pU HN.out hSw HO6.out.1 HO6.out.2) (dW HQ.out HS.out.core.l3 HS.out.p3) (dW HQ.out HS.out.core.l4 HS.out.p4));obtain⟨W7,HW7⟩: ∃u,Hid (cJ (w6.setCell ⟨w.heap.size+1+1+1+1,2,none⟩ (.slice A6 (bI s.prep key val).length m6)) S (i*5) (.int .i64 s.st) (.slice A1 s.set.length n1) (.slice A6 (bI s.prep key val).length m6) (.slice A3 s.sav.length n3) (.slice A4 s.wr.length n4)=u):=⟨_,aA rfl⟩;have e7:=HW7.out;rw[e7]at HP;unfold cJ at e7;rw[e7];obtain⟨W8,h8⟩: ∃W8,(⟨W.rows,W.ss.set i {s with prep:=bI s.prep key val}⟩:Wd)=W8:=⟨_,rfl⟩;rw[h8]at HP;obtain⟨D8,m8,d8,hr8⟩: ∃D8 m8 d8,(.slice D W.rows.length d:Value)= .slice D8 m8 d8:=⟨_,_,_,rfl⟩;rw[hr8]at HP;have HE:=aA HP.out.1;have HO:=aA HP.out.2;clear HP e7 HW7 hr8
 case' c18=>
  intro a1 a2 a3 a4 a5;subst a1;have t0:(s.st==2)=false:=bJ.2 a2;have t1:(100:Int)<=((aW W).length:Int):=by omega
  clear a2 a5;obtain⟨o,HOA⟩: ∃o,Hid (aX (aW W) key=o):=⟨_,aA rfl⟩;have HA4:=aA a4;clear a4;go_enter Tryz.func105,Tryz.ntmps105;go_wp2_with fail;rw[HW5.out];refine(uB _ _ W i key _ (HH.out.below HD.out.bel).wld).mono ?_;rw[a3];rintro e wa ⟨rfl,hba⟩;have HDa:=aA (HD.out.below hba);have HAZ:=aA (yJ HW.out);clear x0 x1 y0 y1 y2 z0 z1 z2 z3 z4 hXl hYl hZl;obtain⟨x0,x1⟩:=bR HDa.out.X;obtain⟨y0,y1,y2⟩:=bA HDa.out.Y;obtain⟨z0,z1,z2,z3,z4⟩:=gI HDa.out.Z;have hXl:=HDa.out.X.lt;have hYl:=HDa.out.Y.lt;have hZl:=HDa.out.Z.lt;clear hba a3;go_wp2_with fail;refine mJ 9 [7] [] [] [(0,250),(1,251),(2,252),(3,253),(4,254),(5,249),(6,255),(7,256)] [[],[(0,250)],[],[(2,252)],[(1,251),(3,253)],[(4,254)],[(5,249)],[(5,249)]] (fun i v wv=>match i with|0=>v= .agg #[.slice D W.rows.length d,.slice (some ⟨S,0,none⟩) W.ss.length cap]|1=>Lst wv wv.heap.size v (aW W)|2=>v= .pointer (some ⟨w.heap.size+1,1,none⟩)|3=>v= .string key|4=>v= .tuple #[.string (o.getD ⟨#[]⟩),.bool o.isSome]|5=>v= .tuple #[.string (o.getD ⟨#[]⟩),.bool o.isSome]|6=>v= .string (o.getD ⟨#[]⟩)|7=>v= .bool o.isSome|_=>True) (fun _ w w'=>Below w.heap.size w w') (fun wc=>Below wa.heap.size wa wc) 2 (by kernel_rfl) (by rfl) (by kernel_rfl) (fun _ _ _ _ _ h=>h) (aD _ _).drew (fun _ _=>aD _ _) ?n18amo (fun k w w' h hb=>bU h hb) ?n18aob ?n18aof ?n18afi
  case n18amo=>
   intro k i v w w' hk1 hk2 hk3 h hb;rcases i with _|_|_|_|_|_|_|_|i
   ·exact h
   ·exact h.step hb
   ·exact h
   ·exact h
   ·exact h
   ·exact h
   ·exact h
   ·exact h
   ·exact h
  case n18aob=>
   intro i hi hnf vals wc hR hV;rcases i with _|_|_|_|_|_|_|_|i
   ·clear hV hnf hi;have qx0:=(hR.cell (p:=⟨w.heap.size,0,none⟩) hXl).trans x0;have qx1:=(hR.cell (p:=⟨w.heap.size,1,none⟩) hXl).trans x1;refine⟨_,rfl,Or.inl ⟨by rfl,Or.inl ⟨.agg #[.slice D W.rows.length d,.slice (some ⟨S,0,none⟩) W.ss.length cap],wc,?_,rfl,(aD _ _)⟩⟩⟩
    (try simp only[aN,aT,aS,aQ,aH,aG,aF])
    go_simp
    try rfl
   ·have h0:(vals 0)= .agg #[.slice D W.rows.length d,.slice (some ⟨S,0,none⟩) W.ss.length cap]:=hV (0,250) (by decide);clear hV hnf hi;refine⟨_,rfl,Or.inl ⟨by rfl,Or.inr ⟨128,#[.agg #[.slice D W.rows.length d,.slice (some ⟨S,0,none⟩) W.ss.length cap]],?_,?_⟩⟩⟩
    ·(try simp only[aN,aT,aS,aQ,aH,aG,aF,h0])
     go_simp
     try rfl
    ·refine((pQ _ _ W wc (HH.out.below (aR HDa.out.bel hR HDa.out.bel.size)).wld (dN HW.out).rows.1 HW.out.many (fun x hx=>((dN HW.out).li x 3 hx (by omega)).1))).mono ?_;rintro e w' ⟨v',rfl,ho,hb⟩;exact⟨_,rfl,kP ho HAZ.out.1 HAZ.out.2,hb⟩
   ·clear hV hnf hi;refine⟨_,rfl,Or.inl ⟨by rfl,Or.inl ⟨.pointer (some ⟨w.heap.size+1,1,none⟩),wc,?_,rfl,(aD _ _)⟩⟩⟩
    (try simp only[aN,aT,aS,aQ,aH,aG,aF])
    go_simp
    try rfl
   ·have h2:(vals 2)= .pointer (some ⟨w.heap.size+1,1,none⟩):=hV (2,252) (by decide);clear hV hnf hi;have qy1:=(hR.cell (p:=⟨w.heap.size+1,1,none⟩) hYl).trans y1;refine⟨_,rfl,Or.inl ⟨by rfl,Or.inl ⟨.string key,wc,?_,rfl,(aD _ _)⟩⟩⟩
    (try simp only[aN,aT,aS,aQ,aH,aG,aF,h2])
    go_simp
    try rfl
   ·have h1:Lst wc wc.heap.size (vals 1) (aW W):=hV (1,251) (by decide);have h3:(vals 3)= .string key:=hV (3,253) (by decide);clear hV hnf hi;refine⟨_,rfl,Or.inl ⟨by rfl,Or.inr ⟨125,#[vals 1,.string key],?_,?_⟩⟩⟩
    ·(try simp only[aN,aT,aS,aQ,aH,aG,aF,h3])
     go_simp
     try rfl
    ·refine(jG _ (aW W) key _ _ h1).mono ?_;rw[HOA.out,jQ];rintro e w' ⟨rfl,rfl⟩;exact⟨_,rfl,rfl,aD _ _⟩
   ·have h4:(vals 4)= .tuple #[.string (o.getD ⟨#[]⟩),.bool o.isSome]:=hV (4,254) (by decide);clear hV hnf hi;refine⟨_,rfl,Or.inl ⟨by rfl,Or.inl ⟨.tuple #[.string (o.getD ⟨#[]⟩),.bool o.isSome],wc,?_,rfl,(aD _ _)⟩⟩⟩
    (try simp only[aN,aT,aS,aQ,aH,aG,aF,h4])
    go_simp
    try rfl
   ·have h5:(vals 5)= .tuple #[.string (o.getD ⟨#[]⟩),.bool o.isSome]:=hV (5,249) (by decide);clear hV hnf hi;refine⟨_,rfl,Or.inl ⟨by rfl,Or.inl ⟨.string (o.getD ⟨#[]⟩),wc,?_,rfl,(aD _ _)⟩⟩⟩
    (try simp only[aN,aT,aS,aQ,aH,aG,aF,h5])
    go_simp
    try rfl
   ·exact absurd (by decide) hnf
   ·exact absurd hi (by simp)
  case n18aof=>
   intro i hi vals wc hR hV;obtain rfl:=List.mem_singleton.1 hi
   ·have h5:(vals 5)= .tuple #[.string (o.getD ⟨#[]⟩),.bool o.isSome]:=hV (5,249) (by decide);clear hV hi;refine⟨_,.bool o.isSome,rfl,by rfl,fun w'=>?_,rfl⟩
    (try simp only[aN,aT,aS,aQ,aH,aG,aF,h5])
    go_simp
    try rfl
  case n18afi=>
   intro vals wf hR hV;have hS:=True.intro;have f6:(vals 6)= .string (o.getD ⟨#[]⟩):=hV 6 (by decide) (fun k hk=>by simp at hk);have f7:(vals 7)= .bool o.isSome:=hV 7 (by decide) (fun k hk=>by simp at hk);clear hV
   (try simp only[aN,aT,aS,aQ,aH,aG,aF,f6,f7])
   have HDf:=aA (HDa.out.below hR);clear hR x0 x1 y0 y1 y2 z0 z1 z2 z3 z4 hXl hYl hZl;refine cK (i:=8) (fun K hK=>?_)
   (try simp only[aE,aB,aC])
   go_simp;have hS2:=True.intro;refine hK.out _ _ hS2 ?_;clear hK K hS;have hS:=hS2;clear hS2
   (try simp only[aE,aB,aC,aQ,aH,aG,aF])
   refine bY (fun K hK=>?_)
   (try simp only[aE,aB,aC])
   go_simp;refine hK.out _ _ ?_;clear hK K
   (try simp only[aE,aB,aC,aQ,aH,aG,aF])
   obtain rfl:o=none:=HOA.out.symm.trans HA4.out;obtain⟨x0,x1⟩:=bR HDf.out.X;obtain⟨y0,y1,y2⟩:=bA HDf.out.Y;obtain⟨z0,z1,z2,z3,z4⟩:=gI HDf.out.Z;have hXl:=HDf.out.X.lt;have hYl:=HDf.out.Y.lt;have hZl:=HDf.out.Z.lt;go_wp2_with fail;refine(pQ _ _ W _ (HH.out.below HDf.out.bel).wld (dN HW.out).rows.1 HW.out.many (fun x hx=>((dN HW.out).li x 3 hx (by omega)).1)).mono ?_;rintro e wb ⟨vb,rfl,ho,hbb⟩;obtain⟨Ab,mb,rfl⟩:=mH ho;have HDb:=aA (HDf.out.below hbb);clear x0 x1 y0 y1 y2 z0 z1 z2 z3 z4 hXl hYl hZl;obtain⟨x0,x1⟩:=bR HDb.out.X;obtain⟨y0,y1,y2⟩:=bA HDb.out.Y;obtain⟨z0,z1,z2,z3,z4⟩:=gI HDb.out.Z;have hXl:=HDb.out.X.lt;have hYl:=HDb.out.Y.lt;have hZl:=HDb.out.Z.lt;clear hbb ho;go_wp2_with fail;have HE:=aA (HDb.out.atE HH.out);obtain⟨e0,e1⟩:=bR HE.out.X;have hel:=HE.out.X.lt;clear x0 x1 y0 y1 y2 z0 z1 z2 z3 z4 hXl hYl hZl c0 c1 c2 c3 c4;refine fV 3 [(0,265),(1,266)] [[],[]] [.agg #[.slice D W.rows.length d,.slice (some ⟨S,0,none⟩) W.ss.length cap],.agg #[.int .i64 4,.string eQ,.int .i64 0]] (fun _ w w'=>Below w.heap.size w w') (fun wc=>Below wb.heap.size wb wc) 2 (by kernel_rfl) (by rfl) (by kernel_rfl) (fun _ _ _ _ _ h=>h) (aD _ _).drew (fun _ _=>aD _ _) (fun k w w' h hb=>bU h hb) ?n18bob ?n18bfi
   case n18bob=>
    intro i hi wc hR;have e0':=(hR.cell (p:=⟨w.heap.size,0,none⟩) hel).trans e0;have e1':=(hR.cell (p:=⟨w.heap.size,1,none⟩) hel).trans e1
    by_cases hk1:i=1
    ·subst hk1;refine⟨_,rfl,?_,Or.inr ⟨123,#[.string eQ],?_,?_⟩⟩
     ·((try simp only[aN,aT,aS,aQ,aH,aG,aF]);try rfl)
     ·((try simp only[aN,aT,aS,aQ,aH,aG,aF]);go_simp;try rfl)
     ·refine(kQ eQ wc).mono ?_;rintro e w' ⟨rfl,hb⟩;exact⟨rfl,hb⟩
    rcases i with _|_|i
    all_goals (first|contradiction|exact fU|exact absurd hi (by simp))
   case n18bfi=>
    intro wf hR;have hS:=True.intro
    (try simp only[aN,aT,aS,aQ,aH,aG,aF])
    obtain⟨r0,r1⟩:=bR (HE.out.below hR).R;obtain⟨b0,b1,b2⟩:=bA (HE.out.below hR).A;obtain⟨g0,g1,_⟩:=cV (HE.out.below hR).R 0;obtain⟨k0,k1,k2,_⟩:=cV (HE.out.below hR).A 0;simp only[cW]at g1 k1 k2;have HF:=aA ((HE.out.below hR).fin (cY eQ));clear hR e0 e1 hel;refine cK (i:=2) (fun K hK=>?_)
    (try simp only[aE,aB,aC])
    go_simp;have hS2:=True.intro;refine hK.out _ _ hS2 ?_;clear hK K hS;have hS:=hS2;clear hS2
    (try simp only[aE,aB,aC,aQ,aH,aG,aF])
    refine bY (fun K hK=>?_)
    (try simp only[aE,aB,aC])
    go_simp;refine hK.out _ _ ?_;clear hK K
    (try simp only[aE,aB,aC,aQ,aH,aG,aF])
    go_wp2;refine bE (v:= .tuple #[.agg #[.slice D W.rows.length d,.slice (some ⟨S,0,none⟩) W.ss.length cap],.agg #[.int .i64 4,.string eQ,.int .i64 0]]) (by simp[results,Tryz.results105,go_sem,r0,r1,b0,b1,b2]) rfl ?_;exact HF.out _ _ _ _ _
 case' c19=>
  intro a1 a2 a3 a4;subst a1;have t0:(s.st==2)=false:=bJ.2 (by omega);have t1:(s.st==1)=true:=beq_iff_eq.2 a2;have HPZ:=aA (uD (mA (by omega) hRE.out.1.wr) HZ.out);clear a2;obtain⟨o,HOA⟩: ∃o,Hid (aX (aW W) key=o):=⟨_,aA rfl⟩;rw[HOA.out]at a4;go_enter Tryz.func105,Tryz.ntmps105;go_wp2_with fail;rw[HW5.out];refine(uB _ _ W i key _ (HH.out.below HD.out.bel).wld).mono ?_;rw[a3];rintro e wa ⟨rfl,hba⟩;have HDa:=aA (HD.out.below hba);have HAZ:=aA (yJ HW.out);clear x0 x1 y0 y1 y2 z0 z1 z2 z3 z4 hXl hYl hZl;obtain⟨x0,x1⟩:=bR HDa.out.X;obtain⟨y0,y1,y2⟩:=bA HDa.out.Y;obtain⟨z0,z1,z2,z3,z4⟩:=gI HDa.out.Z;have hXl:=HDa.out.X.lt;have hYl:=HDa.out.Y.lt;have hZl:=HDa.out.Z.lt;clear hba a3;go_wp2_with fail;refine mJ 9 [7] [] [] [(0,250),(1,251),(2,252),(3,253),(4,254),(5,249),(6,255),(7,256)] [[],[(0,250)],[],[(2,252)],[(1,251),(3,253)],[(4,254)],[(5,249)],[(5,249)]] (fun i v wv=>match i with|0=>v= .agg #[.slice D W.rows.length d,.slice (some ⟨S,0,none⟩) W.ss.length cap]|1=>Lst wv wv.heap.size v (aW W)|2=>v= .pointer (some ⟨w.heap.size+1,1,none⟩)|3=>v= .string key|4=>v= .tuple #[.string (o.getD ⟨#[]⟩),.bool o.isSome]|5=>v= .tuple #[.string (o.getD ⟨#[]⟩),.bool o.isSome]|6=>v= .string (o.getD ⟨#[]⟩)|7=>v= .bool o.isSome|_=>True) (fun _ w w'=>Below w.heap.size w w') (fun wc=>Below wa.heap.size wa wc) 2 (by kernel_rfl) (by rfl) (by kernel_rfl) (fun _ _ _ _ _ h=>h) (aD _ _).drew (fun _ _=>aD _ _) ?n19mo (fun k w w' h hb=>bU h hb) ?n19ob ?n19of ?n19fi
  case n19mo=>
   intro k i v w w' hk1 hk2 hk3 h hb;rcases i with _|_|_|_|_|_|_|_|i
   ·exact h
   ·exact h.step hb
   ·exact h
   ·exact h
   ·exact h
   ·exact h
   ·exact h
   ·exact h
   ·exact h
  case n19ob=>
   intro i hi hnf vals wc hR hV;rcases i with _|_|_|_|_|_|_|_|i
   ·clear hV hnf hi;have qx0:=(hR.cell (p:=⟨w.heap.size,0,none⟩) hXl).trans x0;have qx1:=(hR.cell (p:=⟨w.heap.size,1,none⟩) hXl).trans x1;refine⟨_,rfl,Or.inl ⟨by rfl,Or.inl ⟨.agg #[.slice D W.rows.length d,.slice (some ⟨S,0,none⟩) W.ss.length cap],wc,?_,rfl,(aD _ _)⟩⟩⟩
    (try simp only[aN,aT,aS,aQ,aH,aG,aF])
    go_simp
    try rfl
   ·have h0:(vals 0)= .agg #[.slice D W.rows.length d,.slice (some ⟨S,0,none⟩) W.ss.length cap]:=hV (0,250) (by decide);clear hV hnf hi;refine⟨_,rfl,Or.inl ⟨by rfl,Or.inr ⟨128,#[.agg #[.slice D W.rows.length d,.slice (some ⟨S,0,none⟩) W.ss.length cap]],?_,?_⟩⟩⟩
    ·(try simp only[aN,aT,aS,aQ,aH,aG,aF,h0])
     go_simp
     try rfl
    ·refine((pQ _ _ W wc (HH.out.below (aR HDa.out.bel hR HDa.out.bel.size)).wld (dN HW.out).rows.1 HW.out.many (fun x hx=>((dN HW.out).li x 3 hx (by omega)).1))).mono ?_;rintro e w' ⟨v',rfl,ho,hb⟩;exact⟨_,rfl,kP ho HAZ.out.1 HAZ.out.2,hb⟩
   ·clear hV hnf hi;refine⟨_,rfl,Or.inl ⟨by rfl,Or.inl ⟨.pointer (some ⟨w.heap.size+1,1,none⟩),wc,?_,rfl,(aD _ _)⟩⟩⟩
    (try simp only[aN,aT,aS,aQ,aH,aG,aF])
    go_simp
    try rfl
   ·have h2:(vals 2)= .pointer (some ⟨w.heap.size+1,1,none⟩):=hV (2,252) (by decide);clear hV hnf hi;have qy1:=(hR.cell (p:=⟨w.heap.size+1,1,none⟩) hYl).trans y1;refine⟨_,rfl,Or.inl ⟨by rfl,Or.inl ⟨.string key,wc,?_,rfl,(aD _ _)⟩⟩⟩
    (try simp only[aN,aT,aS,aQ,aH,aG,aF,h2])
    go_simp
    try rfl
   ·have h1:Lst wc wc.heap.size (vals 1) (aW W):=hV (1,251) (by decide);have h3:(vals 3)= .string key:=hV (3,253) (by decide);clear hV hnf hi;refine⟨_,rfl,Or.inl ⟨by rfl,Or.inr ⟨125,#[vals 1,.string key],?_,?_⟩⟩⟩
    ·(try simp only[aN,aT,aS,aQ,aH,aG,aF,h3])
     go_simp
     try rfl
    ·refine(jG _ (aW W) key _ _ h1).mono ?_;rw[HOA.out,jQ];rintro e w' ⟨rfl,rfl⟩;exact⟨_,rfl,rfl,aD _ _⟩
   ·have h4:(vals 4)= .tuple #[.string (o.getD ⟨#[]⟩),.bool o.isSome]:=hV (4,254) (by decide);clear hV hnf hi;refine⟨_,rfl,Or.inl ⟨by rfl,Or.inl ⟨.tuple #[.string (o.getD ⟨#[]⟩),.bool o.isSome],wc,?_,rfl,(aD _ _)⟩⟩⟩
    (try simp only[aN,aT,aS,aQ,aH,aG,aF,h4])
    go_simp
    try rfl
   ·have h5:(vals 5)= .tuple #[.string (o.getD ⟨#[]⟩),.bool o.isSome]:=hV (5,249) (by decide);clear hV hnf hi;refine⟨_,rfl,Or.inl ⟨by rfl,Or.inl ⟨.string (o.getD ⟨#[]⟩),wc,?_,rfl,(aD _ _)⟩⟩⟩
    (try simp only[aN,aT,aS,aQ,aH,aG,aF,h5])
    go_simp
    try rfl
   ·exact absurd (by decide) hnf
   ·exact absurd hi (by simp)
  case n19of=>
   intro i hi vals wc hR hV;obtain rfl:=List.mem_singleton.1 hi
   ·have h5:(vals 5)= .tuple #[.string (o.getD ⟨#[]⟩),.bool o.isSome]:=hV (5,249) (by decide);clear hV hi;refine⟨_,.bool o.isSome,rfl,by rfl,fun w'=>?_,rfl⟩
    (try simp only[aN,aT,aS,aQ,aH,aG,aF,h5])
    go_simp
    try rfl
  case' n19fi=>
   intro vals wf hR hV;have hS:=True.intro;have f6:(vals 6)= .string (o.getD ⟨#[]⟩):=hV 6 (by decide) (fun k hk=>by simp at hk);have f7:(vals 7)= .bool o.isSome:=hV 7 (by decide) (fun k hk=>by simp at hk);clear hV
   (try simp only[aN,aT,aS,aQ,aH,aG,aF,f6,f7])
   have HDf:=aA (HDa.out.below hR);clear hR x0 x1 y0 y1 y2 z0 z1 z2 z3 z4 hXl hYl hZl;refine cK (i:=8) (fun K hK=>?_)
   (try simp only[aE,aB,aC])
   go_simp;have hS2:=True.intro;refine hK.out _ _ hS2 ?_;clear hK K hS;have hS:=hS2;clear hS2
   (try simp only[aE,aB,aC,aQ,aH,aG,aF])
   refine bY (fun K hK=>?_)
   (try simp only[aE,aB,aC])
   go_simp;refine hK.out _ _ ?_;clear hK K
   (try simp only[aE,aB,aC,aQ,aH,aG,aF])
   rcases a4 with⟨v,rfl⟩|⟨rfl,hl⟩
   case' inl=>
    obtain⟨x0,x1⟩:=bR HDf.out.X;obtain⟨y0,y1,y2⟩:=bA HDf.out.Y;obtain⟨z0,z1,z2,z3,z4⟩:=gI HDf.out.Z;have hXl:=HDf.out.X.lt;have hYl:=HDf.out.Y.lt;have hZl:=HDf.out.Z.lt;go_wp2_with fail;obtain⟨w9,HW9⟩: ∃u,Hid (wf=u):=⟨_,aA rfl⟩;have HD9:=HDf;rw[HW9.out]at HD9 ⊢;clear HW9 HDf
   case' inr=>
    obtain⟨x0,x1⟩:=bR HDf.out.X;obtain⟨y0,y1,y2⟩:=bA HDf.out.Y;obtain⟨z0,z1,z2,z3,z4⟩:=gI HDf.out.Z;have hXl:=HDf.out.X.lt;have hYl:=HDf.out.Y.lt;have hZl:=HDf.out.Z.lt;go_wp2_with fail;refine(pQ _ _ W _ (HH.out.below HDf.out.bel).wld (dN HW.out).rows.1 HW.out.many (fun x hx=>((dN HW.out).li x 3 hx (by omega)).1)).mono ?_;rintro e wb ⟨vb,rfl,ho,hbb⟩;obtain⟨Ab,mb,rfl⟩:=mH ho;have HDb:=aA (HDf.out.below hbb);clear x0 x1 y0 y1 y2 z0 z1 z2 z3 z4 hXl hYl hZl;obtain⟨x0,x1⟩:=bR HDb.out.X;obtain⟨y0,y1,y2⟩:=bA HDb.out.Y;obtain⟨z0,z1,z2,z3,z4⟩:=gI HDb.out.Z;have hXl:=HDb.out.X.lt;have hYl:=HDb.out.Y.lt;have hZl:=HDb.out.Z.lt;clear hbb ho;have hlI:((aW W).length:Int)<100:=(by omega);go_wp2_with fail;obtain⟨w9,HW9⟩: ∃u,Hid (wb=u):=⟨_,aA rfl⟩;have HD9:=HDb;rw[HW9.out]at HD9 ⊢;clear HW9 HDb HDf hl hlI
   all_goals
    refine(pP _ s.wr key val _ (HS.out.core.l4.step HD9.out.bel)).mono ?_;rintro e w6 ⟨v6,rfl,ho,hb6⟩;obtain⟨A6,m6,rfl⟩:=mH ho;have HD6:=aA (HD9.out.below hb6);have HO6:=aA (aJ HD9.out.size ho);clear x0 x1 y0 y1 y2 z0 z1 z2 z3 z4 hXl hYl hZl;obtain⟨x0,x1⟩:=bR HD6.out.X;obtain⟨y0,y1,y2⟩:=bA HD6.out.Y;obtain⟨z0,z1,z2,z3,z4⟩:=gI HD6.out.Z;have hXl:=HD6.out.X.lt;have hYl:=HD6.out.Y.lt;have hZl:=HD6.out.Z.lt;have hS6:=HH.out.blk.below HD6.out.bel hSw;obtain⟨s0,s1,s2,s3,s4,d0,d1,d2,d3,d4⟩:=lO hS6 (o:=i*5) (by have:=HH.out.len;have:=HI.out.1;omega);obtain⟨df0,df1,df2,df3,df4⟩:=cV hS6 (i*5);have hSz:=hS6.lt;obtain⟨zf0,zf1,zf2,zf3,zf4⟩:=cV HD6.out.Z 0;simp only[cW]at zf1 zf2 zf3 zf4;have xf0:=HD6.out.X.frozen 0;clear hS6;clear hb6 ho;go_wp2;clear d0 d1 d2 d3 d4 df0 df1 df2 df3 df4 x0 x1 y0 y1 y2 z0 z1 z2 z3 z4 hXl hYl hZl c0 c1 c2 c3 c4;clear hSz zf0 zf1 zf2 zf3 zf4 xf0;have HP:=aA (HD6.out.put (wz:=w6.setCell ⟨w.heap.size+1+1+1+1,4,none⟩ (.slice A6 (bI s.wr key val).length m6)) (s':={s with wr:=bI s.wr key val}) (rows':=W.rows) (u1:= .slice A1 s.set.length n1) (u2:= .slice A2 s.prep.length n2) (u3:= .slice A3 s.sav.length n3) (u4:= .slice A6 (bI s.wr key val).length m6) HH.out HQ.out HI.out.1 (rz:= .slice D W.rows.length d) (HD6.out.X.other (p:=⟨w.heap.size+1+1+1+1,4,none⟩) (by show w.heap.size+1+1+1+1≠w.heap.size;omega) (.slice A6 (bI s.wr key val).length m6)) (fun b h1 h2=>bF _ _ _ _ h2) (by first|rfl|simp[cE]) ⟨rfl,rfl,rfl⟩ (HH.out.rows.step HD6.out.bel) (HS.out.core.l1.step HD6.out.bel) (HS.out.core.l2.step HD6.out.bel) (HS.out.core.l3.step HD6.out.bel) (kP HO6.out.2 HPZ.out.1 HPZ.out.2) (dW HQ.out HH.out.rows HH.out.rin) (dW HQ.out HS.out.core.l1 HS.out.p1) (dW HQ.out HS.out.core.l2 HS.out.p2) (dW HQ.out HS.out.core.l3 HS.out.p3) (pU HN.out hSw HO6.out.1 HO6.out.2));obtain⟨W7,HW7⟩: ∃u,Hid (cJ (w6.setCell ⟨w.heap.size+1+1+1+1,4,none⟩ (.slice A6 (bI s.wr key val).length m6)) S (i*5) (.int .i64 s.st) (.slice A1 s.set.length n1) (.slice A2 s.prep.length n2) (.slice A3 s.sav.length n3) (.slice A6 (bI s.wr key val).length m6)=u):=⟨_,aA rfl⟩;have e7:=HW7.out;rw[e7]at HP;unfold cJ at e7;rw[e7];obtain⟨W8,h8⟩: ∃W8,(⟨W.rows,W.ss.set i {s with wr:=bI s.wr key val}⟩:Wd)=W8:=⟨_,rfl⟩;rw[h8]at HP;obtain⟨D8,m8,d8,hr8⟩: ∃D8 m8 d8,(.slice D W.rows.length d:Value)= .slice D8 m8 d8:=⟨_,_,_,rfl⟩;rw[hr8]at HP;have HE:=aA HP.out.1;have HO:=aA HP.out.2;clear HP e7 HW7 hr8
 case' c20=>
  intro a1 a2 a3 a4;subst a1;have t0:(s.st==2)=false:=bJ.2 (by omega);have t1:(s.st==1)=false:=bJ.2 (by omega);have HPZ:=aA (uD (dN HW.out).rows HZ.out);clear a2;obtain⟨o,HOA⟩: ∃o,Hid (aX (aW W) key=o):=⟨_,aA rfl⟩;rw[HOA.out]at a4;go_enter Tryz.func105,Tryz.ntmps105;go_wp2_with fail;rw[HW5.out];refine(uB _ _ W i key _ (HH.out.below HD.out.bel).wld).mono ?_;rw[a3];rintro e wa ⟨rfl,hba⟩;have HDa:=aA (HD.out.below hba);have HAZ:=aA (yJ HW.out);clear x0 x1 y0 y1 y2 z0 z1 z2 z3 z4 hXl hYl hZl;obtain⟨x0,x1⟩:=bR HDa.out.X;obtain⟨y0,y1,y2⟩:=bA HDa.out.Y;obtain⟨z0,z1,z2,z3,z4⟩:=gI HDa.out.Z;have hXl:=HDa.out.X.lt;have hYl:=HDa.out.Y.lt;have hZl:=HDa.out.Z.lt;clear hba a3;go_wp2_with fail;refine mJ 9 [7] [] [] [(0,250),(1,251),(2,252),(3,253),(4,254),(5,249),(6,255),(7,256)] [[],[(0,250)],[],[(2,252)],[(1,251),(3,253)],[(4,254)],[(5,249)],[(5,249)]] (fun i v wv=>match i with|0=>v= .agg #[.slice D W.rows.length d,.slice (some ⟨S,0,none⟩) W.ss.length cap]|1=>Lst wv wv.heap.size v (aW W)|2=>v= .pointer (some ⟨w.heap.size+1,1,none⟩)|3=>v= .string key|4=>v= .tuple #[.string (o.getD ⟨#[]⟩),.bool o.isSome]|5=>v= .tuple #[.string (o.getD ⟨#[]⟩),.bool o.isSome]|6=>v= .string (o.getD ⟨#[]⟩)|7=>v= .bool o.isSome|_=>True) (fun _ w w'=>Below w.heap.size w w') (fun wc=>Below wa.heap.size wa wc) 2 (by kernel_rfl) (by rfl) (by kernel_rfl) (fun _ _ _ _ _ h=>h) (aD _ _).drew (fun _ _=>aD _ _) ?n20mo (fun k w w' h hb=>bU h hb) ?n20ob ?n20of ?n20fi
  case n20mo=>
   intro k i v w w' hk1 hk2 hk3 h hb;rcases i with _|_|_|_|_|_|_|_|i
   ·exact h
   ·exact h.step hb
   ·exact h
   ·exact h
   ·exact h
   ·exact h
   ·exact h
   ·exact h
   ·exact h
  case n20ob=>
   intro i hi hnf vals wc hR hV;rcases i with _|_|_|_|_|_|_|_|i
   ·clear hV hnf hi;have qx0:=(hR.cell (p:=⟨w.heap.size,0,none⟩) hXl).trans x0;have qx1:=(hR.cell (p:=⟨w.heap.size,1,none⟩) hXl).trans x1;refine⟨_,rfl,Or.inl ⟨by rfl,Or.inl ⟨.agg #[.slice D W.rows.length d,.slice (some ⟨S,0,none⟩) W.ss.length cap],wc,?_,rfl,(aD _ _)⟩⟩⟩
    (try simp only[aN,aT,aS,aQ,aH,aG,aF])
    go_simp
    try rfl
   ·have h0:(vals 0)= .agg #[.slice D W.rows.length d,.slice (some ⟨S,0,none⟩) W.ss.length cap]:=hV (0,250) (by decide);clear hV hnf hi;refine⟨_,rfl,Or.inl ⟨by rfl,Or.inr ⟨128,#[.agg #[.slice D W.rows.length d,.slice (some ⟨S,0,none⟩) W.ss.length cap]],?_,?_⟩⟩⟩
    ·(try simp only[aN,aT,aS,aQ,aH,aG,aF,h0])
     go_simp
     try rfl
    ·refine((pQ _ _ W wc (HH.out.below (aR HDa.out.bel hR HDa.out.bel.size)).wld (dN HW.out).rows.1 HW.out.many (fun x hx=>((dN HW.out).li x 3 hx (by omega)).1))).mono ?_;rintro e w' ⟨v',rfl,ho,hb⟩;exact⟨_,rfl,kP ho HAZ.out.1 HAZ.out.2,hb⟩
   ·clear hV hnf hi;refine⟨_,rfl,Or.inl ⟨by rfl,Or.inl ⟨.pointer (some ⟨w.heap.size+1,1,none⟩),wc,?_,rfl,(aD _ _)⟩⟩⟩
    (try simp only[aN,aT,aS,aQ,aH,aG,aF])
    go_simp
    try rfl
   ·have h2:(vals 2)= .pointer (some ⟨w.heap.size+1,1,none⟩):=hV (2,252) (by decide);clear hV hnf hi;have qy1:=(hR.cell (p:=⟨w.heap.size+1,1,none⟩) hYl).trans y1;refine⟨_,rfl,Or.inl ⟨by rfl,Or.inl ⟨.string key,wc,?_,rfl,(aD _ _)⟩⟩⟩
    (try simp only[aN,aT,aS,aQ,aH,aG,aF,h2])
    go_simp
    try rfl
   ·have h1:Lst wc wc.heap.size (vals 1) (aW W):=hV (1,251) (by decide);have h3:(vals 3)= .string key:=hV (3,253) (by decide);clear hV hnf hi;refine⟨_,rfl,Or.inl ⟨by rfl,Or.inr ⟨125,#[vals 1,.string key],?_,?_⟩⟩⟩
    ·(try simp only[aN,aT,aS,aQ,aH,aG,aF,h3])
     go_simp
     try rfl
    ·refine(jG _ (aW W) key _ _ h1).mono ?_;rw[HOA.out,jQ];rintro e w' ⟨rfl,rfl⟩;exact⟨_,rfl,rfl,aD _ _⟩
   ·have h4:(vals 4)= .tuple #[.string (o.getD ⟨#[]⟩),.bool o.isSome]:=hV (4,254) (by decide);clear hV hnf hi;refine⟨_,rfl,Or.inl ⟨by rfl,Or.inl ⟨.tuple #[.string (o.getD ⟨#[]⟩),.bool o.isSome],wc,?_,rfl,(aD _ _)⟩⟩⟩
    (try simp only[aN,aT,aS,aQ,aH,aG,aF,h4])
    go_simp
    try rfl
   ·have h5:(vals 5)= .tuple #[.string (o.getD ⟨#[]⟩),.bool o.isSome]:=hV (5,249) (by decide);clear hV hnf hi;refine⟨_,rfl,Or.inl ⟨by rfl,Or.inl ⟨.string (o.getD ⟨#[]⟩),wc,?_,rfl,(aD _ _)⟩⟩⟩
    (try simp only[aN,aT,aS,aQ,aH,aG,aF,h5])
    go_simp
    try rfl
   ·exact absurd (by decide) hnf
   ·exact absurd hi (by simp)
  case n20of=>
   intro i hi vals wc hR hV;obtain rfl:=List.mem_singleton.1 hi
   ·have h5:(vals 5)= .tuple #[.string (o.getD ⟨#[]⟩),.bool o.isSome]:=hV (5,249) (by decide);clear hV hi;refine⟨_,.bool o.isSome,rfl,by rfl,fun w'=>?_,rfl⟩
    (try simp only[aN,aT,aS,aQ,aH,aG,aF,h5])
    go_simp
    try rfl
  case' n20fi=>
   intro vals wf hR hV;have hS:=True.intro;have f6:(vals 6)= .string (o.getD ⟨#[]⟩):=hV 6 (by decide) (fun k hk=>by simp at hk);have f7:(vals 7)= .bool o.isSome:=hV 7 (by decide) (fun k hk=>by simp at hk);clear hV
   (try simp only[aN,aT,aS,aQ,aH,aG,aF,f6,f7])
   have HDf:=aA (HDa.out.below hR);clear hR x0 x1 y0 y1 y2 z0 z1 z2 z3 z4 hXl hYl hZl;refine cK (i:=8) (fun K hK=>?_)
   (try simp only[aE,aB,aC])
   go_simp;have hS2:=True.intro;refine hK.out _ _ hS2 ?_;clear hK K hS;have hS:=hS2;clear hS2
   (try simp only[aE,aB,aC,aQ,aH,aG,aF])
   refine bY (fun K hK=>?_)
   (try simp only[aE,aB,aC])
   go_simp;refine hK.out _ _ ?_;clear hK K
   (try simp only[aE,aB,aC,aQ,aH,aG,aF])
   rcases a4 with⟨v,rfl⟩|⟨rfl,hl⟩
   case' inl=>
    obtain⟨x0,x1⟩:=bR HDf.out.X;obtain⟨y0,y1,y2⟩:=bA HDf.out.Y;obtain⟨z0,z1,z2,z3,z4⟩:=gI HDf.out.Z;have hXl:=HDf.out.X.lt;have hYl:=HDf.out.Y.lt;have hZl:=HDf.out.Z.lt;go_wp2_with fail;obtain⟨w9,HW9⟩: ∃u,Hid (wf=u):=⟨_,aA rfl⟩;have HD9:=HDf;rw[HW9.out]at HD9 ⊢;clear HW9 HDf
   case' inr=>
    obtain⟨x0,x1⟩:=bR HDf.out.X;obtain⟨y0,y1,y2⟩:=bA HDf.out.Y;obtain⟨z0,z1,z2,z3,z4⟩:=gI HDf.out.Z;have hXl:=HDf.out.X.lt;have hYl:=HDf.out.Y.lt;have hZl:=HDf.out.Z.lt;go_wp2_with fail;refine(pQ _ _ W _ (HH.out.below HDf.out.bel).wld (dN HW.out).rows.1 HW.out.many (fun x hx=>((dN HW.out).li x 3 hx (by omega)).1)).mono ?_;rintro e wb ⟨vb,rfl,ho,hbb⟩;obtain⟨Ab,mb,rfl⟩:=mH ho;have HDb:=aA (HDf.out.below hbb);clear x0 x1 y0 y1 y2 z0 z1 z2 z3 z4 hXl hYl hZl;obtain⟨x0,x1⟩:=bR HDb.out.X;obtain⟨y0,y1,y2⟩:=bA HDb.out.Y;obtain⟨z0,z1,z2,z3,z4⟩:=gI HDb.out.Z;have hXl:=HDb.out.X.lt;have hYl:=HDb.out.Y.lt;have hZl:=HDb.out.Z.lt;clear hbb ho;have hlI:((aW W).length:Int)<100:=(by omega);go_wp2_with fail;obtain⟨w9,HW9⟩: ∃u,Hid (wb=u):=⟨_,aA rfl⟩;have HD9:=HDb;rw[HW9.out]at HD9 ⊢;clear HW9 HDb HDf hl hlI
   all_goals
    refine(pP _ W.rows key val _ (HH.out.rows.step HD9.out.bel)).mono ?_;rintro e w6 ⟨v6,rfl,ho,hb6⟩;obtain⟨A6,m6,rfl⟩:=mH ho;have HD6:=aA (HD9.out.below hb6);have HO6:=aA (aJ HD9.out.size ho);clear x0 x1 y0 y1 y2 z0 z1 z2 z3 z4 hXl hYl hZl;obtain⟨x0,x1⟩:=bR HD6.out.X;obtain⟨y0,y1,y2⟩:=bA HD6.out.Y;obtain⟨z0,z1,z2,z3,z4⟩:=gI HD6.out.Z;have hXl:=HD6.out.X.lt;have hYl:=HD6.out.Y.lt;have hZl:=HD6.out.Z.lt;have hS6:=HH.out.blk.below HD6.out.bel hSw;obtain⟨s0,s1,s2,s3,s4,d0,d1,d2,d3,d4⟩:=lO hS6 (o:=i*5) (by have:=HH.out.len;have:=HI.out.1;omega);obtain⟨df0,df1,df2,df3,df4⟩:=cV hS6 (i*5);have hSz:=hS6.lt;obtain⟨zf0,zf1,zf2,zf3,zf4⟩:=cV HD6.out.Z 0;simp only[cW]at zf1 zf2 zf3 zf4;have xf0:=HD6.out.X.frozen 0;clear hS6;clear hb6 ho;go_wp2;clear d0 d1 d2 d3 d4 df0 df1 df2 df3 df4 x0 x1 y0 y1 y2 z0 z1 z2 z3 z4 hXl hYl hZl c0 c1 c2 c3 c4;clear hSz zf0 zf1 zf2 zf3 zf4 xf0;have HP:=aA (HD6.out.put (wz:=w6.setCell ⟨w.heap.size,0,none⟩ (.slice A6 (bI W.rows key val).length m6)) (s':=s) (rows':=bI W.rows key val) (u1:= .slice A1 s.set.length n1) (u2:= .slice A2 s.prep.length n2) (u3:= .slice A3 s.sav.length n3) (u4:= .slice A4 s.wr.length n4) HH.out HQ.out HI.out.1 (rz:= .slice A6 (bI W.rows key val).length m6) (HD6.out.X.put (j:=0) (by simp) (.slice A6 (bI W.rows key val).length m6)) (fun b h1 h2=>bF _ _ _ _ h1) (by first|rfl|simp[cE]) ⟨rfl,rfl,rfl⟩ (kP HO6.out.2 HPZ.out.1 HPZ.out.2) (HS.out.core.l1.step HD6.out.bel) (HS.out.core.l2.step HD6.out.bel) (HS.out.core.l3.step HD6.out.bel) (HS.out.core.l4.step HD6.out.bel) (pU HN.out hSw HO6.out.1 HO6.out.2) (dW HQ.out HS.out.core.l1 HS.out.p1) (dW HQ.out HS.out.core.l2 HS.out.p2) (dW HQ.out HS.out.core.l3 HS.out.p3) (dW HQ.out HS.out.core.l4 HS.out.p4));obtain⟨W7,HW7⟩: ∃u,Hid (cJ (w6.setCell ⟨w.heap.size,0,none⟩ (.slice A6 (bI W.rows key val).length m6)) S (i*5) (.int .i64 s.st) (.slice A1 s.set.length n1) (.slice A2 s.prep.length n2) (.slice A3 s.sav.length n3) (.slice A4 s.wr.length n4)=u):=⟨_,aA rfl⟩;have e7:=HW7.out;rw[e7]at HP;unfold cJ at e7;rw[e7];obtain⟨W8,h8⟩: ∃W8,(⟨bI W.rows key val,W.ss.set i s⟩:Wd)=W8:=⟨_,rfl⟩;rw[h8]at HP;obtain⟨D8,m8,d8,hr8⟩: ∃D8 m8 d8,(.slice A6 (bI W.rows key val).length m6:Value)= .slice D8 m8 d8:=⟨_,_,_,rfl⟩;rw[hr8]at HP;have HE:=aA HP.out.1;have HO:=aA HP.out.2;clear HP e7 HW7 hr8
 case' c5=>
  intro a1 a2;subst a1;have t0:(s.st==2)=false:=bJ.2 (by omega);have t1:(s.st==0)=false:=bJ.2 (by omega);have t2:(s.st==1)=true:=beq_iff_eq.2 a2;clear a2;go_enter Tryz.func105,Tryz.ntmps105;go_wp2;have hn100:s.wr.length<=100:=(bW hRE.out.1.wr).2.1;have hwz:Hid (Sz60 s.wr):=aA (mA (by omega) hRE.out.1.wr)
  go_loopw [11] (fun kv wr=> ∃j:Nat,j<=s.wr.length/\kv= .int .i64 j/\bAb Q w wr S cap W s key val (.slice A1 s.set.length n1) (.slice A2 s.prep.length n2) (.slice A3 s.sav.length n3) (.slice A4 s.wr.length n4) j) (fun kv _=>s.wr.length-(intOf kv).toNat)
  case atStart=>
   rw[HW5.out];exact⟨0,by omega,rfl,D,d,HD.out,HH.out.rows.step HD.out.bel,dW HQ.out HH.out.rows HH.out.rin⟩
  case' round=>
   obtain⟨j,hj,rfl,A,c,hA,hL,hI⟩:=hrel
   by_cases hlt:j<s.wr.length
   case pos=>
    have HS4:=HS.out.core.l4.step hA.bel;obtain⟨b,off,hA4,hb,e0,e1⟩:=HS4.pt hlt;subst hA4;obtain⟨x0,_⟩:=bR hA.X;obtain⟨_,_,_,_,z4⟩:=gI hA.Z;have HA:=aA hA;have HL:=aA hL;clear hA hL hI HS4;have hjn:(j:Int)<(s.wr.length:Int):=(by omega);go_wp2_with fail
    go_still_tail 14,(by kernel_rfl)
    change wpList _ _ _ _ _ wr.drew
    have HA2:=aA (HA.out.below ((aD wr.heap.size wr).drew));have HL2:=aA (HL.out.step ((aD wr.heap.size wr).drew));clear HA HL x0 z4 e0 e1;generalize wr.drew=w2 at*;go_wp2_with fail;refine(pP _ (cL W.rows (s.wr.take j)) s.wr[j].1 s.wr[j].2 _ HL2.out).mono ?_;rintro e w6 ⟨v6,rfl,ho,hy⟩;obtain⟨A6,c6,rfl⟩:=mH ho;have h6:=HA2.out.below hy;obtain⟨x0,_⟩:=bR h6.X;have xf0:=h6.X.frozen 0;have HO:=aA ho;have H6:=aA h6;have HP:=aA (bA9 (R:=W.rows) hlt);clear ho h6 hy;go_wp2;go_roundw
    case rel=>
     refine⟨j+1,by omega,by go_num,A6,c6,?_,?_,?_⟩
     ·rw[HP.out];have h6:=H6.out;refine⟨h6.X.put (j:=0) (by simp) _,h6.Y.other (by show w.heap.size≠_;omega) _,h6.R.other (by show w.heap.size≠_;omega) _,h6.A.other (by show w.heap.size≠_;omega) _,h6.Z.other (by show w.heap.size≠_;omega) _,h6.O.other (by show w.heap.size≠_;omega) _,h6.bel.setCell (aI _) _,by have:=h6.size;simpa [cE] using this⟩
     ·have hsz:=bAa (dN HW.out).rows hwz.out (j+1);have hsz':(cL W.rows (s.wr.take (j+1))).length*32<=140737488351232/\ ∀p∈(cL W.rows (s.wr.take (j+1))),p.1.size<=140737488351232/\p.2.size<=140737488351232:=hsz;rw[HP.out]at hsz' ⊢;exact(kP HO.out hsz'.1 hsz'.2).keepP (xAu HO.out) (fun b hb=>bF _ _ _ _ (by show b≠w.heap.size;have:=HA2.out.size;omega)) (fun b hb=>by have:=hb.2;simpa [cE] using this)
     ·rw[HP.out];exact pU HN.out hSw HA2.out.size HO.out
    case measure=>simp[intOf];omega
   case' neg=>
    obtain rfl:j=s.wr.length:=(by omega);rw[List.take_length]at hA hL hI;obtain⟨w6,HW6⟩: ∃u,Hid (wr=u):=⟨_,aA rfl⟩;rw[HW6.out]at hA hL ⊢;have HD6:=aA hA;have HL6:=aA (aJ hL hI);clear hA hL hI HW6 hj hlt;clear x0 x1 y0 y1 y2 z0 z1 z2 z3 z4 hXl hYl hZl;obtain⟨x0,x1⟩:=bR HD6.out.X;obtain⟨y0,y1,y2⟩:=bA HD6.out.Y;obtain⟨z0,z1,z2,z3,z4⟩:=gI HD6.out.Z;have hXl:=HD6.out.X.lt;have hYl:=HD6.out.Y.lt;have hZl:=HD6.out.Z.lt;have hS6:=HH.out.blk.below HD6.out.bel hSw;obtain⟨s0,s1,s2,s3,s4,d0,d1,d2,d3,d4⟩:=lO hS6 (o:=i*5) (by have:=HH.out.len;have:=HI.out.1;omega);obtain⟨df0,df1,df2,df3,df4⟩:=cV hS6 (i*5);have hSz:=hS6.lt;obtain⟨zf0,zf1,zf2,zf3,zf4⟩:=cV HD6.out.Z 0;simp only[cW]at zf1 zf2 zf3 zf4;have xf0:=HD6.out.X.frozen 0;clear hS6;go_wp2;clear d0 d1 d2 d3 d4 df0 df1 df2 df3 df4 x0 x1 y0 y1 y2 z0 z1 z2 z3 z4 hXl hYl hZl c0 c1 c2 c3 c4;clear hSz zf0 zf1 zf2 zf3 zf4 xf0;have HP:=aA (HD6.out.put (wz:=((w6.setCell ⟨w.heap.size+1+1+1+1,0,none⟩ (.int .i64 0)).setCell ⟨w.heap.size+1+1+1+1,3,none⟩ (.slice none 0 0)).setCell ⟨w.heap.size+1+1+1+1,4,none⟩ (.slice none 0 0)) (s':={s with st:=0,sav:=[],wr:=[]}) (rows':=(cL W.rows s.wr)) (u1:= .slice A1 s.set.length n1) (u2:= .slice A2 s.prep.length n2) (u3:= .slice none 0 0) (u4:= .slice none 0 0) HH.out HQ.out HI.out.1 (rz:= .slice A (cL W.rows s.wr).length c) (((HD6.out.X.other (p:=⟨w.heap.size+1+1+1+1,0,none⟩) (by show w.heap.size+1+1+1+1≠w.heap.size;omega) _).other (p:=⟨w.heap.size+1+1+1+1,3,none⟩) (by show w.heap.size+1+1+1+1≠w.heap.size;omega) _).other (p:=⟨w.heap.size+1+1+1+1,4,none⟩) (by show w.heap.size+1+1+1+1≠w.heap.size;omega) _) (fun b h1 h2=>by rw[bF _ _ _ _ h2,bF _ _ _ _ h2,bF _ _ _ _ h2]) (by first|rfl|simp[cE]) ⟨rfl,rfl,rfl⟩ (HL6.out.1) (HS.out.core.l1.step HD6.out.bel) (HS.out.core.l2.step HD6.out.bel) (Lst.none_ _ _) (Lst.none_ _ _) (HL6.out.2) (dW HQ.out HS.out.core.l1 HS.out.p1) (dW HQ.out HS.out.core.l2 HS.out.p2) (InP.nil_ _ _) (InP.nil_ _ _));obtain⟨W7,HW7⟩: ∃u,Hid (cJ (((w6.setCell ⟨w.heap.size+1+1+1+1,0,none⟩ (.int .i64 0)).setCell ⟨w.heap.size+1+1+1+1,3,none⟩ (.slice none 0 0)).setCell ⟨w.heap.size+1+1+1+1,4,none⟩ (.slice none 0 0)) S (i*5) (.int .i64 0) (.slice A1 s.set.length n1) (.slice A2 s.prep.length n2) (.slice none 0 0) (.slice none 0 0)=u):=⟨_,aA rfl⟩;have e7:=HW7.out;rw[e7]at HP;unfold cJ at e7;rw[e7];obtain⟨W8,h8⟩: ∃W8,(⟨(cL W.rows s.wr),W.ss.set i {s with st:=0,sav:=[],wr:=[]}⟩:Wd)=W8:=⟨_,rfl⟩;rw[h8]at HP;obtain⟨D8,m8,d8,hr8⟩: ∃D8 m8 d8,(.slice A (cL W.rows s.wr).length c:Value)= .slice D8 m8 d8:=⟨_,_,_,rfl⟩;rw[hr8]at HP;have HE:=aA HP.out.1;have HO:=aA HP.out.2;clear HP e7 HW7 hr8
 case' c21=>
  intro a1 a2 a3;subst a1;have t0:(s.st==2)=false:=bJ.2 a2;clear a2;go_enter Tryz.func105,Tryz.ntmps105;go_wp2_with fail;rw[HW5.out];refine(jG _ s.prep key _ _ (HS.out.core.l2.step HD.out.bel)).mono ?_;rw[a3,jQ];rintro e w5 ⟨rfl,rfl⟩;go_wp2_with fail;have HE:=aA (HD.out.atE HH.out);obtain⟨e0,e1⟩:=bR HE.out.X;have hel:=HE.out.X.lt;clear x0 x1 y0 y1 y2 z0 z1 z2 z3 z4 hXl hYl hZl c0 c1 c2 c3 c4;refine fV 3 [(0,171),(1,172)] [[],[]] [.agg #[.slice D W.rows.length d,.slice (some ⟨S,0,none⟩) W.ss.length cap],.agg #[.int .i64 4,.string kI,.int .i64 0]] (fun _ w w'=>Below w.heap.size w w') (fun wc=>Below W5.heap.size W5 wc) 2 (by kernel_rfl) (by rfl) (by kernel_rfl) (fun _ _ _ _ _ h=>h) (aD _ _).drew (fun _ _=>aD _ _) (fun k w w' h hb=>bU h hb) ?n21ob ?n21fi
  case n21ob=>
   intro i hi wc hR;have e0':=(hR.cell (p:=⟨w.heap.size,0,none⟩) hel).trans e0;have e1':=(hR.cell (p:=⟨w.heap.size,1,none⟩) hel).trans e1
   by_cases hk1:i=1
   ·subst hk1;refine⟨_,rfl,?_,Or.inr ⟨123,#[.string kI],?_,?_⟩⟩
    ·((try simp only[aN,aT,aS,aQ,aH,aG,aF]);try rfl)
    ·((try simp only[aN,aT,aS,aQ,aH,aG,aF]);go_simp;try rfl)
    ·refine(kQ kI wc).mono ?_;rintro e w' ⟨rfl,hb⟩;exact⟨rfl,hb⟩
   rcases i with _|_|i
   all_goals (first|contradiction|exact fU|exact absurd hi (by simp))
  case n21fi=>
   intro wf hR;have hS:=True.intro
   (try simp only[aN,aT,aS,aQ,aH,aG,aF])
   obtain⟨r0,r1⟩:=bR (HE.out.below hR).R;obtain⟨b0,b1,b2⟩:=bA (HE.out.below hR).A;obtain⟨g0,g1,_⟩:=cV (HE.out.below hR).R 0;obtain⟨k0,k1,k2,_⟩:=cV (HE.out.below hR).A 0;simp only[cW]at g1 k1 k2;have HF:=aA ((HE.out.below hR).fin (cY kI));clear hR e0 e1 hel;refine cK (i:=2) (fun K hK=>?_)
   (try simp only[aE,aB,aC])
   go_simp;have hS2:=True.intro;refine hK.out _ _ hS2 ?_;clear hK K hS;have hS:=hS2;clear hS2
   (try simp only[aE,aB,aC,aQ,aH,aG,aF])
   refine bY (fun K hK=>?_)
   (try simp only[aE,aB,aC])
   go_simp;refine hK.out _ _ ?_;clear hK K
   (try simp only[aE,aB,aC,aQ,aH,aG,aF])
   go_wp2;refine bE (v:= .tuple #[.agg #[.slice D W.rows.length d,.slice (some ⟨S,0,none⟩) W.ss.length cap],.agg #[.int .i64 4,.string kI,.int .i64 0]]) (by simp[results,Tryz.results105,go_sem,r0,r1,b0,b1,b2]) rfl ?_;exact HF.out _ _ _ _ _
 case' c22=>
  intro a1 a2 t a3;subst a1;have t0:(s.st==2)=false:=bJ.2 a2;clear a2;have hps:=qA2 hRE.out.1.prep a3;have HT:=aA ((xAt t.size t (aI _)).ok hps.1);have g:=kE hps.2.1;have HC:=aA (HREC.out rfl (aU (aK t)) (aK (cutB t)) (cutB (cutB t)) (by omega) hps.2.1);obtain⟨R,HR⟩: ∃R,Hid (did1 W i (aU (aK t)) (aK (cutB t)) (cutB (cutB t))=R):=⟨_,aA rfl⟩;rw[HR.out]at HC ⊢;generalize(aU (aK t):Int)=k2 at*;generalize aK (cutB t)=key2 at*;generalize cutB (cutB t)=val2 at*;clear hps g HR;go_enter Tryz.func105,Tryz.ntmps105;go_wp2_with fail;rw[HW5.out];refine(jG _ s.prep key _ _ (HS.out.core.l2.step HD.out.bel)).mono ?_;rw[a3,jQ];rintro e w5 ⟨rfl,rfl⟩;go_wp2_with fail;refine(HT.out _).mono ?_;rintro e w6 ⟨rfl,hy⟩;have nb:=(aD w6.heap.size w6).alloc (aI _) (.cells #[.int .i64 k2,.string key2,.string val2] 41);have HD6:=aA ((HD.out.below hy).below nb);clear x0 x1 y0 y1 y2 z0 z1 z2 z3 z4 hXl hYl hZl;obtain⟨x0,x1⟩:=bR HD6.out.X;obtain⟨y0,y1,y2⟩:=bA HD6.out.Y;obtain⟨z0,z1,z2,z3,z4⟩:=gI HD6.out.Z;have hXl:=HD6.out.X.lt;have hYl:=HD6.out.Y.lt;have hZl:=HD6.out.Z.lt;clear hy nb;go_wp2_with fail;unfold slc at HC;refine(HC.out _ (HH.out.below HD6.out.bel) (fun b hb=>HN.out b (bL HD6.out.bel.size hb))).mono ?_;rintro e w8 ⟨r8,rfl,hr8,hon8⟩;have R8:=HD6.out.R.same (hon8.1.2 _ HD6.out.R.lt (by omega));have A8:=HD6.out.A.same (hon8.1.2 _ HD6.out.A.lt (by omega));obtain⟨D8,d8,rfl,_⟩:=hr8.rows.form;obtain⟨r0,r1⟩:=bR R8;obtain⟨b0,b1,b2⟩:=bA A8;obtain⟨g0,g1,_⟩:=cV R8 0;obtain⟨k0,k1,k3,_⟩:=cV A8 0;simp only[cW]at g1 k1 k3;have HF:=aA (xY (n:=W.ss.length) R8 A8 hr8 ((OnlyT.of HD6.out.bel).trans hon8) hSw);clear hr8 hon8 R8 A8;clear x0 x1 y0 y1 y2 z0 z1 z2 z3 z4 hXl hYl hZl;unfold slc bQ;go_wp2;refine bE (v:= .tuple #[.agg #[.slice D8 R.1.rows.length d8,.slice (some ⟨S,0,none⟩) W.ss.length cap],.agg #[.int .i64 R.2.kind,.string R.2.text,.int .i64 0]]) (by simp[results,Tryz.results105,go_sem,r0,r1,b0,b1,b2]) rfl ?_;exact HF.out _ _ _ _ _
 all_goals
  obtain⟨x0,x1⟩:=bR HE.out.X;obtain⟨o0,o1,o2⟩:=bA HO.out;obtain⟨r0,r1⟩:=bR HE.out.R;obtain⟨b0,b1,b2⟩:=bA HE.out.A;obtain⟨g0,g1,_⟩:=cV HE.out.R 0;obtain⟨k0,k1,k2,_⟩:=cV HE.out.A 0;simp only[cW]at g1 k1 k2;have HF:=aA (HE.out.fin dX);have eX:w.heap.size+1+1≠w.heap.size:=by omega
  have eO:w.heap.size+1+1≠w.heap.size+1+1+1+1+1:=by omega
  refine eF 3 (fun wx=>wx.cell? ⟨w.heap.size,0,none⟩=some (.slice D8 m8 d8)/\wx.cell? ⟨w.heap.size,1,none⟩=some (.slice (some ⟨S,0,none⟩) W.ss.length cap)/\wx.cell? ⟨w.heap.size+1+1+1+1+1,0,none⟩=some (.int .i64 1)/\wx.cell? ⟨w.heap.size+1+1+1+1+1,1,none⟩=some (.string ⟨#[]⟩)/\wx.cell? ⟨w.heap.size+1+1+1+1+1,2,none⟩=some (.int .i64 0)) (by kernel_rfl) (show W7.drew.cell? ⟨w.heap.size,0,none⟩=some (.slice D8 m8 d8)/\W7.drew.cell? ⟨w.heap.size,1,none⟩=some (.slice (some ⟨S,0,none⟩) W.ss.length cap)/\W7.drew.cell? ⟨w.heap.size+1+1+1+1+1,0,none⟩=some (.int .i64 1)/\W7.drew.cell? ⟨w.heap.size+1+1+1+1+1,1,none⟩=some (.string ⟨#[]⟩)/\W7.drew.cell? ⟨w.heap.size+1+1+1+1+1,2,none⟩=some (.int .i64 0)from⟨x0,x1,o0,o1,o2⟩) (fun hS=>?_);refine gQ (i:=0) (v:=?_) ?_ hS ?_;rotate_left
  ·(intro w hSw;(try dsimp only at hSw);(try simp only[aE,aB,aC]);go_simp;try with_reducible rfl)
  (try simp only[aE,aB,aC,aQ,aH,aG,aF])
  refine gQ (i:=1) (v:=?_) ?_ hS ?_;rotate_left
  ·(intro w hSw;(try dsimp only at hSw);(try simp only[aE,aB,aC]);go_simp;try with_reducible rfl)
  (try simp only[aE,aB,aC,aQ,aH,aG,aF])
  refine cK (i:=2) (fun K hK=>?_)
  (try simp only[aE,aB,aC])
  go_simp;have hS2:=(show((W7.drew.setCell ⟨w.heap.size+1+1,0,none⟩ (.slice D8 m8 d8)).setCell ⟨w.heap.size+1+1,1,none⟩ (.slice (some ⟨S,0,none⟩) W.ss.length cap)).cell? ⟨w.heap.size,0,none⟩=some (.slice D8 m8 d8)/\((W7.drew.setCell ⟨w.heap.size+1+1,0,none⟩ (.slice D8 m8 d8)).setCell ⟨w.heap.size+1+1,1,none⟩ (.slice (some ⟨S,0,none⟩) W.ss.length cap)).cell? ⟨w.heap.size,1,none⟩=some (.slice (some ⟨S,0,none⟩) W.ss.length cap)/\((W7.drew.setCell ⟨w.heap.size+1+1,0,none⟩ (.slice D8 m8 d8)).setCell ⟨w.heap.size+1+1,1,none⟩ (.slice (some ⟨S,0,none⟩) W.ss.length cap)).cell? ⟨w.heap.size+1+1+1+1+1,0,none⟩=some (.int .i64 1)/\((W7.drew.setCell ⟨w.heap.size+1+1,0,none⟩ (.slice D8 m8 d8)).setCell ⟨w.heap.size+1+1,1,none⟩ (.slice (some ⟨S,0,none⟩) W.ss.length cap)).cell? ⟨w.heap.size+1+1+1+1+1,1,none⟩=some (.string ⟨#[]⟩)/\((W7.drew.setCell ⟨w.heap.size+1+1,0,none⟩ (.slice D8 m8 d8)).setCell ⟨w.heap.size+1+1,1,none⟩ (.slice (some ⟨S,0,none⟩) W.ss.length cap)).cell? ⟨w.heap.size+1+1+1+1+1,2,none⟩=some (.int .i64 0)from⟨cH (p:=⟨w.heap.size+1+1,1,none⟩) eX (cH (p:=⟨w.heap.size+1+1,0,none⟩) eX x0),cH (p:=⟨w.heap.size+1+1,1,none⟩) eX (cH (p:=⟨w.heap.size+1+1,0,none⟩) eX x1),cH (p:=⟨w.heap.size+1+1,1,none⟩) eO (cH (p:=⟨w.heap.size+1+1,0,none⟩) eO o0),cH (p:=⟨w.heap.size+1+1,1,none⟩) eO (cH (p:=⟨w.heap.size+1+1,0,none⟩) eO o1),cH (p:=⟨w.heap.size+1+1,1,none⟩) eO (cH (p:=⟨w.heap.size+1+1,0,none⟩) eO o2)⟩);refine hK.out _ _ hS2 ?_;clear hK K hS;have hS:=hS2;clear hS2
  (try simp only[aE,aB,aC,aQ,aH,aG,aF])
  refine bY (fun K hK=>?_)
  (try simp only[aE,aB,aC])
  go_simp;refine hK.out _ _ ?_;clear hK K
  (try simp only[aE,aB,aC,aQ,aH,aG,aF])
  go_wp2;refine bE (v:= .tuple #[.agg #[.slice D8 m8 d8,.slice (some ⟨S,0,none⟩) W.ss.length cap],.agg #[.int .i64 1,.string ⟨#[]⟩,.int .i64 0]]) (by simp[results,Tryz.results105,go_sem,r0,r1,b0,b1,b2]) rfl ?_;subst h8;exact(HF.out _ _ _ _ _).drew
theorem bAc {Q:Nat->Prop}(S cap:Nat)(r:Value)(W:Wd)(i:Nat)(k:Int)(key val:ByteArray)(w:World)(h:RefP Q w S cap r W)(hw:bX W)(hQ: ∀b,Q b->b≠S)(hN: ∀b,w.heap.size<=b->Q b)(hi:i<W.ss.length)(hg:bZ k key val=0):
  Calls Tryz.prog 105 #[.agg #[r,slc S W.ss.length cap],.int .i64 i,.agg #[.int .i64 k,.string key,.string val]] w (DidZ Q w S cap W.ss.length (didM W i k key val)):=by
 have g:=kE hg;refine yA9 S cap r W i k key val w h hw hQ hN hi g.key8 g.v60 g.lo g.hi (fun _ k2 key2 val2 h8 hg2 w9 h9 hN9=>?_);have g2:=kE hg2;have:=yA9 S cap r W i k2 key2 val2 w9 h9 hw hQ hN9 hi g2.key8 g2.v60 g2.lo g2.hi (fun e=>absurd e h8)
 rwa [show didM W i k2 key2 val2=did1 W i k2 key2 val2 by unfold didM;rw[if_neg h8]]at this
end Go.Proofs.YtpbaobmegomfpabGreatDoor

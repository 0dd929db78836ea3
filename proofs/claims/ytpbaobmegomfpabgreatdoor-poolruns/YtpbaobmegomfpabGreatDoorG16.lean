/-
  Texts of the proof.
-/
import Derived.Test.YtpbaobmegomfpabGreatDoorG15
import Derived.Laws.Tables
set_option linter.unusedVariables false
set_option linter.unusedSimpArgs false
set_option maxRecDepth 100000
set_option maxHeartbeats 16000000
open List renaming getElem_toArray→aE,getElem_cons_zero→aB,getElem_cons_succ→aC,setIfInBounds_toArray→aH,set_cons_zero→aG,set_cons_succ→aF,getElem?_eq_getElem→dP,getD_eq_getElem?_getD→eU,take_succ_eq_append_getElem→gO,length_map→dR,take_of_length_le→jR
open Nat renaming le_refl→aI,lt_of_lt_of_le→bD,le_trans→bL,le_of_lt→dM,zero_add→cW
open Go.Lib renaming hid→aA
open Go.RowKit.Below renaming refl→aD,setCell→dT,alloc→dU
open Go.World renaming cell?_of_block→aV
open And renaming intro→aJ
open Go.Act renaming put→aQ
open Classical renaming byContradiction→gP
open Go renaming bodyPost_ret→bE,below_drewN→aZ
namespace Go.Proofs.YtpbaobmegomfpabGreatDoor
open Go.RowKit
def gH (mode:Int)(sS sB:Value):List Value:=[.int .i64 mode,.slice none 0 0,sS,sB,.string ⟨#[]⟩,.slice none 0 0,.bool false,.int .i64 0,.slice none 0 0,.slice none 0 0,.string ⟨#[]⟩,.slice none 0 0,.bool false,.int .i64 0,.slice none 0 0,.slice none 0 0,.string ⟨#[]⟩,.slice none 0 0,.bool false,.int .i64 0,.slice none 0 0,.slice none 0 0,.string ⟨#[]⟩,.slice none 0 0,.bool false,.int .i64 0,.slice none 0 0,.slice none 0 0,.string ⟨#[]⟩,.slice none 0 0,.bool false,.int .i64 0,.slice none 0 0,.slice none 0 0,.string ⟨#[]⟩,.slice none 0 0,.bool false,.int .i64 0,.slice none 0 0,.slice none 0 0,.slice none 0 0,.slice none 0 0,.slice none 0 0,.slice none 0 0,.slice none 0 0,.slice none 0 0,.slice none 0 0,.slice none 0 0]
def lM (mode:Int)(sS sB:Value):Nat->Value:=fun j=>(gH mode sS sB).getD j (.int .i64 0)
def oD (b n:Nat):Value:= .slice (some ⟨b,0,none⟩) n n
def pI (P bB:Nat):Nat->Option Nat:=fun i=>if i=0 then some P else if i=1 then some bB else none
theorem tX {P bB i b:Nat}(h:pI P bB i=some b):(i=0/\b=P)\/(i=1/\b=bB):=by
 unfold pI at h
 split at h
 ·rename_i e;injection h with h;exact .inl ⟨e,h.symm⟩
 ·split at h
  ·rename_i e;injection h with h;exact .inr ⟨e,h.symm⟩
  ·cases h
theorem tY (n c:Nat):(Mach.start (gA n) n).get c=Cl.new:=by
 unfold Mach.get Mach.start;simp only;rw[eU,List.getElem?_replicate]
 split<;>rfl
theorem xAf (n c:Nat):(Mach.start (gA n) n).e.of c=([],[]):=by
 show(List.replicate 6 (([],[]):PL×PL)).getD c ([],[])=_;rw[eU,List.getElem?_replicate]
 split<;>rfl
theorem fAm (n c:Nat):(Mach.start (gA n) n).sent.getD c ⟨#[]⟩=⟨#[]⟩:=by
 show(List.replicate 6 (⟨#[]⟩:ByteArray)).getD c ⟨#[]⟩=_;rw[eU,List.getElem?_replicate]
 split<;>rfl
theorem fAn (n:Nat){k:Nat}(h2:2<=k)(h15:k<=15):cG (Mach.start (gA n) n) k=[]:=by
 unfold cG;rw[if_neg (by omega)]
 by_cases h8:k<8
 ·rw[if_pos h8,tY];rfl
 ·rw[if_neg h8]
  by_cases h:k=8
  ·rw[if_pos h];rfl
  ·rw[if_neg h]
   by_cases h9:k<15
   ·rw[if_pos h9,fAm];rfl
   ·rw[if_neg h9];rfl
theorem fAo (mode:Int)(sS sB:Value): ∀k,2<=k->k<=15->lM mode sS sB (cO k)= .slice none 0 0:=by
 intro k h2 h15;obtain rfl|rfl|rfl|rfl|rfl|rfl|rfl|rfl|rfl|rfl|rfl|rfl|rfl|rfl:k=2\/k=3\/k=4\/k=5\/k=6\/k=7\/k=8\/k=9\/k=10\/k=11\/k=12\/k=13\/k=14\/k=15:=by omega
 all_goals rfl
theorem c6 {c:Nat}(h:c<6):c=0\/c=1\/c=2\/c=3\/c=4\/c=5:=by omega
theorem qY (mode:Int)(sS sB:Value){c:Nat}(hc:c<6):lM mode sS sB (4+c*6)= .string ⟨#[]⟩/\lM mode sS sB (4+c*6+2)= .bool false/\lM mode sS sB (4+c*6+3)= .int .i64 0/\lM mode sS sB (4+c*6+4)= .slice none 0 0/\lM mode sS sB (4+c*6+5)= .slice none 0 0:=by
 obtain rfl|rfl|rfl|rfl|rfl|rfl:=c6 hc
 all_goals exact⟨rfl,rfl,rfl,rfl,rfl⟩
theorem fAp {w:World}{b n:Nat}(h:RowTo w b 4 n (madeCells #[.bool false] n).toList): ∀j,j<n->w.cell? ⟨b,j,none⟩=some (.bool false):=fun j hj=>by
 have hl:j<(madeCells #[Value.bool false] n).toList.length:=by simpa [madeCells] using hj
 rw[h.cell hl];simp[madeCells,Nat.mod_one]
theorem PMem.start {w:World}{base P bS bB n:Nat}(hn:n<=8)(mode:Int)(hS:RowTo w bS 115 (n*5) (madeCells #[.int .i64 0,.slice none 0 0,.slice none 0 0,.slice none 0 0,.slice none 0 0] (n*5)).toList)(hB:RowTo w bB 4 n (madeCells #[.bool false] n).toList)
  (hP:PRow w P (lM mode (oD bS n) (oD bB n))) (h1:bS≠bB) (h2:bS≠P) (h3:bB≠P) (hb1:base<=bB) (hb2:base<=P):PMem 0 w base P (lM mode (oD bS n) (oD bB n)) (pI P bB) mode (Mach.start (gA n) n):=by
 have hs:=hAi hS hn;refine⟨hP,rfl,fun i b hi=>?_,fun i j b hi hj=>?_,fun k k1 k15 _=>?_,rfl,?_,fun c hc=>?_,fun c hc=>?_,fun c hc=>?_,fun c hc=>?_,fun c hc=>?_⟩
 ·rcases tX hi with⟨_,rfl⟩|⟨_,rfl⟩
  ·exact⟨hb2,hP.lt⟩
  ·exact⟨hb1,hB.lt⟩
 ·rcases tX hi with⟨e1,e2⟩|⟨e1,e2⟩<;>rcases tX hj with⟨e3,e4⟩|⟨e3,e4⟩<;>omega
 ·by_cases e:k=1
  ·subst e;have hi:cG (Mach.start (gA n) n) 1=(List.replicate n false).map (fun b=>[.bool b]):=rfl;rw[hi,xG,dR,List.length_replicate];refine⟨by simp[fR],.inr ⟨bB,0,n,n,rfl,rfl,aI _,hB.nil,.inr (by simp[fR]),fun j hj=>?_⟩⟩;have hj':j<n:=by simpa using hj
   rw[cW,fAp hB j hj'];simp
  ·rw[fAn n (by omega) k15,fAo mode _ _ k (by omega) k15];have:pI P bB k=none:=by unfold pI;rw[if_neg (by omega),if_neg e]
   rw[this];exact Sl.nil_ _ _ _
 ·refine WldP.mk' (Lst.none_ _ _) (InP.nil_ _ _) hs.form hs.bytes (fun hp=>?_);obtain⟨b',off',c',e',hb',hc'⟩:=hs.cells hp;refine⟨b',off',c',e',?_,hb',fun i hi=>?_⟩
  ·injection e' with e';injection e' with e';injection e' with e1' e2';subst e1' e2';intro i hi;rcases tX hi with⟨_,e⟩|⟨_,e⟩
   ·exact h2 e
   ·exact h1 e
  ·obtain⟨v1,v2,v3,v4,q⟩:=hc' i hi;have hi':i<(List.replicate n Sess.zero).length:=hi;have z:(List.replicate n Sess.zero)[i]'hi'=Sess.zero:=List.getElem_replicate _;refine⟨v1,v2,v3,v4,q,?_,?_,?_,?_⟩
   ·show InP _ v1 ((List.replicate n Sess.zero)[i]'hi').set;rw[z];exact InP.nil_ _ _
   ·show InP _ v2 ((List.replicate n Sess.zero)[i]'hi').prep;rw[z];exact InP.nil_ _ _
   ·show InP _ v3 ((List.replicate n Sess.zero)[i]'hi').sav;rw[z];exact InP.nil_ _ _
   ·show InP _ v4 ((List.replicate n Sess.zero)[i]'hi').wr;rw[z];exact InP.nil_ _ _
 ·rw[tY];exact(qY mode _ _ hc).1
 ·rw[tY];exact(qY mode _ _ hc).2.1
 ·rw[tY];exact⟨0,(qY mode _ _ hc).2.2.1,fun s hs=>by cases hs⟩
 ·rw[xAf,(qY mode _ _ hc).2.2.2.1];exact⟨Lst.none_ _ _,InP.nil_ _ _⟩
 ·rw[xAf,(qY mode _ _ hc).2.2.2.2];exact⟨Lst.none_ _ _,InP.nil_ _ _⟩
theorem Tabs.up {w:World}{B B':Nat}(h:Tabs w B)(hB:B<=B'):Tabs w B':=⟨h.wo,h.le,bD h.l1 hB,bD h.l2 hB⟩
theorem OutV.off3 {w:World}{R:Nat}{v1 v2 v3:Value}{sent:List ByteArray}{deeds:List iD}{rows:PL}(h:OutV w v1 v2 v3 sent deeds rows)(hR:RowTo w R 29 3 [.slice none 0 0,.slice none 0 0,.slice none 0 0])(a b c:Value):
  OutV (((w.setCell ⟨R,0,none⟩ a).setCell ⟨R,1,none⟩ b).setCell ⟨R,2,none⟩ c) v1 v2 v3 sent deeds rows:=by
 have hk: ∀p:Addr,p.block≠R->(((w.setCell ⟨R,0,none⟩ a).setCell ⟨R,1,none⟩ b).setCell ⟨R,2,none⟩ c).cell? p=w.cell? p:=fun p hp=>by
  rw[aV (cM _ R 2 c _ hp),aV (cM _ R 1 b _ hp),aV (cM _ R 0 a _ hp)]
 have hs:(((w.setCell ⟨R,0,none⟩ a).setCell ⟨R,1,none⟩ b).setCell ⟨R,2,none⟩ c).heap.size=w.heap.size:=by rw[cT,cT,cT]
 have hno: ∀j u,w.cell? ⟨R,j,none⟩=some u-> ∃n c,u= .slice none n c:=fun j u hu=>by
  obtain⟨cur,hh,hz,ht⟩:=hR;have e:w.cell? ⟨R,j,none⟩=cur[j]? :=by unfold World.cell?;simp only[hh];rfl
  rw[e]at hu;have hj:j<cur.size:=(Array.getElem?_eq_some_iff.1 hu).1;have ht':cur.toList=[.slice none 0 0,.slice none 0 0,.slice none 0 0]:=by rw[<-ht];exact(jR (by simp[hz])).symm
  rw[<-Array.getElem?_toList,ht']at hu
  match j,hu with
  |0,hu=>injection hu with hu;exact⟨0,0,hu.symm⟩
  |1,hu=>injection hu with hu;exact⟨0,0,hu.symm⟩
  |2,hu=>injection hu with hu;exact⟨0,0,hu.symm⟩
  |n+3,hu=>simp at hu
 refine⟨⟨h.s.form,h.s.small,h.s.sizes,fun hn=>?_⟩,⟨h.d.form,h.d.small,fun hn=>?_⟩,⟨h.r.form,h.r.bytes,h.r.sizes,fun hn=>?_,h.r.nil⟩⟩
 ·obtain⟨b',off,c',e,hb,hc⟩:=h.s.cells hn
  have hne:b'≠R:=fun e'=>by
   subst e';obtain⟨_,_,hu⟩:=hno _ _ (hc 0 hn)
   cases hu
  exact⟨b',off,c',e,by rw[hs];exact hb,fun i hi=>(hk _ hne).trans (hc i hi)⟩
 ·obtain⟨b',off,c',e,hb,hc⟩:=h.d.cells hn
  have hne:b'≠R:=fun e'=>by
   subst e';obtain⟨_,_,hu⟩:=hno _ _ (hc 0 hn 0 _ rfl)
   cases hu
  exact⟨b',off,c',e,by rw[hs];exact hb,fun i hi j u hu=>(hk _ hne).trans (hc i hi j u hu)⟩
 ·obtain⟨b',off,c',e,hb,hc⟩:=h.r.cells hn
  have hne:b'≠R:=fun e'=>by
   subst e';obtain⟨_,_,hu⟩:=hno _ _ (hc 0 hn).1
   cases hu
  exact⟨b',off,c',e,by rw[hs];exact hb,fun i hi=>⟨(hk _ hne).trans (hc i hi).1,(hk _ hne).trans (hc i hi).2⟩⟩
theorem fAq (mode:Int)(sS sB:Value)(hS:sS.oneCell'=true)(hB:sB.oneCell'=true):Tryz.prog.built 83 [(0,.int .i64 mode),(1,.agg #[.slice none 0 0,sS]),(2,sB)]=some (gH mode sS sB).toArray:=by
 cases sS<;>first|(cases hS;done)|(cases sB<;>first|(cases hB;done)|kernel_rfl)
theorem fAr (m s:Int)(w:World):Calls Tryz.prog 47 #[.agg #[.int .i64 m,.int .i64 s]] w fun e w'=>e= .returned (.int .i64 (dY m s))/\Below w.heap.size w w':=by
 by_cases h1:m<1
 ·have t1:decide (m<1)=true:=cF h1;have HE:=aA (show dY m s=3 by unfold dY;rw[if_pos (.inl h1)]);go_enter Tryz.func47,Tryz.ntmps47;go_wp2;go_ret;refine⟨by rw[HE.out];rfl,?_⟩
  repeat' (first|exact aD _ _|assumption|with_reducible refine aZ ?_ _|with_reducible refine Below.drew ?_|with_reducible refine dT ?_ ?_ _|with_reducible refine dU ?_ ?_ _|(simp;done)|(simp;omega))
 have t1:decide (m<1)=false:=aY h1
 by_cases h2:3<m
 ·have t2:decide (3<m)=true:=cF h2;have HE:=aA (show dY m s=3 by unfold dY;rw[if_pos (.inr h2)]);go_enter Tryz.func47,Tryz.ntmps47;go_wp2;go_ret;refine⟨by rw[HE.out];rfl,?_⟩
  repeat' (first|exact aD _ _|assumption|with_reducible refine aZ ?_ _|with_reducible refine Below.drew ?_|with_reducible refine dT ?_ ?_ _|with_reducible refine dU ?_ ?_ _|(simp;done)|(simp;omega))
 have t2:decide (3<m)=false:=aY h2
 by_cases h3:s<1
 ·have t3:decide (s<1)=true:=cF h3;have HE:=aA (show dY m s=2 by unfold dY;rw[if_neg (by omega),if_pos (.inl h3)]);go_enter Tryz.func47,Tryz.ntmps47;go_wp2;go_ret;refine⟨by rw[HE.out];rfl,?_⟩
  repeat' (first|exact aD _ _|assumption|with_reducible refine aZ ?_ _|with_reducible refine Below.drew ?_|with_reducible refine dT ?_ ?_ _|with_reducible refine dU ?_ ?_ _|(simp;done)|(simp;omega))
 have t3:decide (s<1)=false:=aY h3
 by_cases h4:4<s
 ·have t4:decide (4<s)=true:=cF h4;have HE:=aA (show dY m s=2 by unfold dY;rw[if_neg (by omega),if_pos (.inr h4)]);go_enter Tryz.func47,Tryz.ntmps47;go_wp2;go_ret;refine⟨by rw[HE.out];rfl,?_⟩
  repeat' (first|exact aD _ _|assumption|with_reducible refine aZ ?_ _|with_reducible refine Below.drew ?_|with_reducible refine dT ?_ ?_ _|with_reducible refine dU ?_ ?_ _|(simp;done)|(simp;omega))
 have t4:decide (4<s)=false:=aY h4;have HE:=aA (show dY m s=0 by unfold dY;rw[if_neg (by omega),if_neg (by omega)]);go_enter Tryz.func47,Tryz.ntmps47;go_wp2;go_ret;refine⟨by rw[HE.out];rfl,?_⟩
 repeat' (first|exact aD _ _|assumption|with_reducible refine aZ ?_ _|with_reducible refine Below.drew ?_|with_reducible refine dT ?_ ?_ _|with_reducible refine dU ?_ ?_ _|(simp;done)|(simp;omega))
structure ALst (w:World)(B:Nat)(v:Value)(l:List Act):Prop where
 form: ∃A c,v= .slice A l.length c/\l.length<=c
 bytes:l.length*32<=140737488351232
 sizes: ∀a∈l,a.data.size<=140737488351232
 cells:0<l.length-> ∃b off c,v= .slice (some ⟨b,off,none⟩) l.length c/\b<B/\
  ∀i (h:i<l.length),w.cell? ⟨b,off+i*3,none⟩=some (.int .i64 l[i].kind)/\w.cell? ⟨b,off+i*3+1,none⟩=some (.int .i64 l[i].c)/\w.cell? ⟨b,off+i*3+2,none⟩=some (.string l[i].data)
theorem ALst.keep {w w':World}{B B':Nat}{v:Value}{l:List Act}(h:ALst w B v l)(hB:B<=B')(hk: ∀p:Addr,p.block<B->w'.cell? p=w.cell? p):ALst w' B' v l:=by
 refine⟨h.form,h.bytes,h.sizes,fun hn=>?_⟩;obtain⟨b,off,c,e,hb,hc⟩:=h.cells hn;exact⟨b,off,c,e,by omega,fun i hi=>⟨(hk _ hb).trans (hc i hi).1,(hk _ hb).trans (hc i hi).2.1,(hk _ hb).trans (hc i hi).2.2⟩⟩
theorem ALst.below {w w':World}{B:Nat}{v:Value}{l:List Act}(h:ALst w B v l)(hb:Below B w w'):ALst w' B v l:=h.keep (aI _) fun _ hp=>hb.cell hp
theorem ALst.step {w w':World}{v:Value}{l:List Act}(h:ALst w w.heap.size v l)(hb:Below w.heap.size w w'):ALst w' w'.heap.size v l:=h.keep hb.size fun _ hp=>hb.cell hp
theorem ALst.pt {w:World}{B n c:Nat}{A:Option Addr}{l:List Act}(h:ALst w B (.slice A n c) l){k:Nat}(hk:k<l.length):
  ∃b off,A=some ⟨b,off,none⟩/\b<B/\w.cell? ⟨b,off+k*3,none⟩=some (.int .i64 l[k].kind)/\w.cell? ⟨b,off+k*3+1,none⟩=some (.int .i64 l[k].c)/\w.cell? ⟨b,off+k*3+2,none⟩=some (.string l[k].data):=by
 obtain⟨b,off,c',e,hb,hc⟩:=h.cells (by omega);injection e with e1 e2 e3;obtain⟨h1,h2,h3⟩:=hc k hk;exact⟨b,off,e1,hb,h1,h2,h3⟩
theorem xAg {l:List Act}{k:Nat}(hk:k<l.length)(h:eA (l.take k)=0):eA (l.take (k+1))=dZ l[k]:=by
 induction l generalizing k with
 |nil=>simp at hk
 |cons a l ih=>
  cases k with
  |zero=>simp[eA];intro h;exact h.symm
  |succ k=>
   rw[List.take_succ_cons]at h ⊢;unfold eA at h ⊢
   by_cases e:dZ a≠0
   ·rw[if_pos e]at h;exact absurd h e
   ·rw[if_neg e]at h ⊢;exact ih (by simpa using hk) h
theorem xAh {l:List Act}{k:Nat}(hk:k<l.length)(h:eA (l.take k)=0)(he:dZ l[k]≠0):eA l=dZ l[k]:=by
 induction l generalizing k with
 |nil=>simp at hk
 |cons a l ih=>
  cases k with
  |zero=>unfold eA;rw[if_pos (by simpa using he)];rfl
  |succ k=>
   rw[List.take_succ_cons]at h;unfold eA at h ⊢
   by_cases e:dZ a≠0
   ·rw[if_pos e]at h;exact absurd h e
   ·rw[if_neg e]at h ⊢;exact ih (by simpa using hk) h (by simpa using he)
theorem fAs (k c:Int)(d:ByteArray)(w:World):Calls Tryz.prog 48 #[.agg #[.int .i64 k,.int .i64 c,.string d]] w fun e w'=>e= .returned (.int .i64 (dZ ⟨k,c,d⟩))/\Below w.heap.size w w':=by
 have nn:=(aD w.heap.size w).alloc (aI _) (.cells #[.int .i64 k,.int .i64 c,.string d] 54)
 by_cases h1:k=1\/k=2
 case neg=>
  have t1:(k !=1)=true:=eP.2 (fun h=>h1 (.inl h));have t2:(k !=2)=true:=eP.2 (fun h=>h1 (.inr h));have HE:=aA (show dZ ⟨k,c,d⟩=3 by unfold dZ;rw[if_pos h1]);have HN:=aA nn;clear h1 nn;go_enter Tryz.func48,Tryz.ntmps48;go_wp2;go_ret;exact⟨by rw[HE.out];rfl,HN.out⟩
 by_cases h2:c<0
 ·have t3:decide (c<0)=true:=cF h2;have HE:=aA (show dZ ⟨k,c,d⟩=2 by unfold dZ;rw[if_neg (fun h=>h h1),if_pos (.inl h2)]);have HN:=aA nn;clear h2 nn;rcases h1 with rfl|rfl
  all_goals
   go_enter Tryz.func48,Tryz.ntmps48;go_wp2;go_ret;exact⟨by rw[HE.out];rfl,HN.out⟩
 have t3:decide (c<0)=false:=aY h2
 by_cases h3:6<=c
 ·have t4:decide (6<=c)=true:=cF h3;have HE:=aA (show dZ ⟨k,c,d⟩=2 by unfold dZ;rw[if_neg (fun h=>h h1),if_pos (.inr h3)]);have HN:=aA nn;clear h2 h3 nn;rcases h1 with rfl|rfl
  all_goals
   go_enter Tryz.func48,Tryz.ntmps48;go_wp2;go_ret;exact⟨by rw[HE.out];rfl,HN.out⟩
 have t4:decide (6<=c)=false:=aY h3
 by_cases h4:1000<d.size
 ·have t5:decide (1000<(d.size:Int))=true:=cF (by omega);have HE:=aA (show dZ ⟨k,c,d⟩=1 by unfold dZ;rw[if_neg (fun h=>h h1),if_neg (by simp only;omega),if_pos h4]);have HN:=aA nn;clear h2 h3 h4 nn;rcases h1 with rfl|rfl
  all_goals
   go_enter Tryz.func48,Tryz.ntmps48;go_wp2;go_ret;exact⟨by rw[HE.out];rfl,HN.out⟩
 have t5:decide (1000<(d.size:Int))=false:=aY (by omega);have HE:=aA (show dZ ⟨k,c,d⟩=0 by unfold dZ;rw[if_neg (fun h=>h h1),if_neg (by simp only;omega),if_neg h4]);have HN:=aA nn;clear h2 h3 h4 nn;rcases h1 with rfl|rfl
 all_goals
  go_enter Tryz.func48,Tryz.ntmps48;go_wp2;go_ret;exact⟨by rw[HE.out];rfl,HN.out⟩
theorem xAi (m s:Int)(v:Value)(l:List Act)(w:World)(hl:ALst w w.heap.size v l):
  Calls Tryz.prog 24 #[.agg #[.int .i64 m,.int .i64 s],v] w fun e w'=>e= .returned (.int .i64 (eL m s l))/\Below w.heap.size w w':=by
 obtain⟨A,c,rfl,hc⟩:=hl.form;have hby:=hl.bytes;have HL:=aA hl;have HCS:=aA (fAr m s);clear hl
 by_cases hs:dY m s=0
 case neg=>
  have HE:=aA (show eL m s l=dY m s by unfold eL;rw[if_pos hs]);have t1:(dY m s !=0)=true:=eP.2 hs;clear hs;generalize dY m s=e0 at*;go_enter Tryz.func24,Tryz.ntmps24;go_wp2_with fail;refine(HCS.out _).mono ?_;rintro e w1 ⟨rfl,hb⟩;have HB:=aA hb;go_wp2;go_ret;exact⟨by rw[HE.out];rfl,aR ((aD w.heap.size w).alloc (aI _) _) HB.out (by simp)⟩
 rw[hs]at HCS
 by_cases h3:300<l.length
 ·have t2:decide (300<(l.length:Int))=true:=cF (by omega);have HE:=aA (show eL m s l=1 by unfold eL;rw[if_neg (fun h=>h hs),if_pos h3]);clear hs;go_enter Tryz.func24,Tryz.ntmps24;go_wp2_with fail;refine(HCS.out _).mono ?_;rintro e w1 ⟨rfl,hb⟩;have HB:=aA hb;go_wp2;go_ret;exact⟨by rw[HE.out];rfl,aR ((aD w.heap.size w).alloc (aI _) _) HB.out (by simp)⟩
 have t2:decide (300<(l.length:Int))=false:=aY (by omega);have HE:=aA (show eL m s l=eA l by unfold eL;rw[if_neg (fun h=>h hs),if_neg h3]);clear hs;go_enter Tryz.func24,Tryz.ntmps24;go_wp2_with fail;refine(HCS.out _).mono ?_;rintro e w1 ⟨rfl,hb⟩;have HB:=aA (aR ((aD w.heap.size w).alloc (aI _) _) hb (by simp));clear hb;go_wp2
 go_loopw [19] (fun j wr=> ∃k:Nat,k<=l.length/\j= .int .i64 k/\Hid (eA (l.take k)=0/\Below w.heap.size w wr)) (fun j _=>l.length-(intOf j).toNat)
 case atStart=>exact⟨0,by omega,rfl,rfl,HB.out⟩
 case round=>
  obtain⟨k,hk,rfl,hR⟩:=hrel;clear HB
  by_cases hlt:k<l.length
  ·obtain⟨b,off,rfl,hb,l0,l1,l2⟩:=HL.out.pt hlt;have bl:=hR.out.2;have d0:=(bl.cell (p:=⟨b,off+k*3,none⟩) hb).trans l0;have d1:=(bl.cell (p:=⟨b,off+k*3+1,none⟩) hb).trans l1;have d2:=(bl.cell (p:=⟨b,off+k*3+2,none⟩) hb).trans l2;have hbw:b<wr.heap.size:=bD hb bl.size;have HT:=aA (xAg hlt hR.out.1);have HO:=aA (fun h=>xAh hlt hR.out.1 h);have HC:=aA (fun wc=>fAs l[k].kind l[k].c l[k].data wc);have HBL:=aA bl;obtain⟨q,HQ⟩: ∃q,Hid (dZ l[k]=q):=⟨_,aA rfl⟩;have hq:dZ ⟨l[k].kind,l[k].c,l[k].data⟩=q:=HQ.out;rw[hq]at HC;rw[HQ.out]at HT HO;generalize l[k]=x at*;clear l0 l1 l2 bl hq HQ hR;go_wp2_with fail;refine(HC.out _).mono ?_;rintro e w2 ⟨rfl,hb2⟩;have HB2:=aA (aR (HBL.out.alloc HBL.out.size (.cells #[.int .i64 x.kind,.int .i64 x.c,.string x.data] 54)) hb2 (by have:=HBL.out.size;simp;omega));clear hb2
   by_cases hq:q=0
   ·subst hq;go_wp2;go_roundw
    case rel=>exact⟨k+1,by omega,by go_num,HT.out,HB2.out⟩
    case measure=>simp[intOf];omega
   ·have t1:(q !=0)=true:=eP.2 hq;have HO2:=aA (HO.out hq);clear HO hq;go_wp2;go_ret;exact⟨by rw[HE.out,HO2.out];rfl,HB2.out⟩
  ·obtain rfl:k=l.length:=by omega
   have HZ:=aA hR.out.1;rw[List.take_length]at HZ;have HBL:=aA hR.out.2;go_wp2;go_ret;exact⟨by rw[HE.out,HZ.out];rfl,HBL.out⟩
section
variable {base P:Nat}{f:Nat->Value}{G:Nat->Option Nat}{mode:Int}{m:Mach PE}{N:Nat}
theorem fAt (w:World)(h:PMem 0 w base P f G mode m)(hT:Tabs w base)(hI:Inv mode m N)(hN:N+1000<=300000)(a:Act)(ha:dZ a=0)(hbl:m.busy.length<=8):
  Calls Tryz.prog 25 #[cC P 0,.agg #[.int .i64 a.kind,.int .i64 a.c,.string a.data]] w (nZ w base P mode (m.act aO mode a)):=by
 have hP:=h.row.lt;have hbP:=(h.lo 0 P h.p0).1;obtain⟨hk,hc0,hc6,hd⟩:=tQ ha;obtain⟨c,hc⟩: ∃c:Nat,a.c=c:=⟨a.c.toNat,by omega⟩;have hc6':c<6:=by omega
 have hct:a.c.toNat=c:=by omega
 have n0:=(aD w.heap.size w).alloc (aI _) (.cells #[.int .i64 a.kind,.int .i64 a.c,.string a.data] 54);obtain⟨x0,x1,x2⟩:=bA (RowTo.whole w #[.int .i64 a.kind,.int .i64 a.c,.string a.data] 54);have nB:=n0.mono (bL hbP (dM hP));have hM0:=h.below n0;have hT0:=hT.below nB;rw[hc]at x0 x1 x2 hM0 hT0 nB ⊢;obtain⟨data,HDA⟩: ∃d,Hid (a.data=d):=⟨_,aA rfl⟩;rw[HDA.out]at x0 x1 x2 hM0 hT0 nB hd ⊢;rcases hk with hk|hk
 ·rw[hk]at x0 x1 x2 hM0 hT0 nB ⊢;have HE:=aA (show(m.deliver aO mode c data).all aO mode=m.act aO mode a by unfold Mach.act;rw[if_pos hk,hct,HDA.out]);have HD:=aA (fAa _ hM0 hT0 hI hc6' data (by omega) hbl);have HT0:=aA hT0;have HI2:=aA ((hI.deliver hc6' data).mono (show N+data.size<=N+1000 by omega));have HB:=aA nB;have hbl2:(m.deliver aO mode c data).busy.length<=8:=by unfold Mach.deliver;rw[xN];exact hbl
  unfold cC at HD ⊢;clear h hT hI n0 nB hM0 hT0 ha hk HDA hc hct;go_enter Tryz.func25,Tryz.ntmps25;go_wp2_with fail;refine HD.out.mono ?_;rintro e w1 ⟨f1,G1,rfl,hM1,hB1⟩;have HA:=aA (xO w1 hM1 (HT0.out.below hB1) HI2.out hN hbl2);have HB1:=aA (HB.out.trans hB1);unfold cC at HA;clear hM1 hB1 HD x0 x1 x2;go_wp2_with fail;refine HA.out.mono ?_;rintro e w2 ⟨f2,G2,rfl,hM2,hB2⟩;have HF:=aA (aJ hM2 (HB1.out.trans hB2));clear hM2 hB2 HA;go_wp2;go_end0;rw[<-HE.out];exact⟨f2,G2,rfl,HF.out.1,HF.out.2⟩
 ·rw[hk]at x0 x1 x2 hM0 hT0 nB ⊢;have HE:=aA (show(m.leave aO c).all aO mode=m.act aO mode a by unfold Mach.act;rw[if_neg (by omega),hct]);have HD:=aA (xAb _ hM0 hT0 hI hc6');have HT0:=aA hT0;have HI2:=aA ((hI.leave hc6').mono (show N<=N+1000 by omega));have HB:=aA nB;have hbl2:(m.leave aO c).busy.length<=8:=by rw[pH];exact hbl
  unfold cC at HD ⊢;clear h hT hI n0 nB hM0 hT0 ha hk HDA hc hct;go_enter Tryz.func25,Tryz.ntmps25;go_wp2_with fail;refine HD.out.mono ?_;rintro e w1 ⟨f1,G1,rfl,hM1,hB1⟩;have HA:=aA (xO w1 hM1 (HT0.out.below hB1) HI2.out hN hbl2);have HB1:=aA (HB.out.trans hB1);unfold cC at HA;clear hM1 hB1 HD x0 x1 x2;go_wp2_with fail;refine HA.out.mono ?_;rintro e w2 ⟨f2,G2,rfl,hM2,hB2⟩;have HF:=aA (aJ hM2 (HB1.out.trans hB2));clear hM2 hB2 HA;go_wp2;go_end0;rw[<-HE.out];exact⟨f2,G2,rfl,HF.out.1,HF.out.2⟩
end
section
variable {P:Program}{ops:Array Oper}{Q:Exit->Go.Act->World->Prop}{md:Region.Mode}{S:World->Prop}{z:Nat}
theorem tZ {is:List Nat}{fuel:Nat}{listed:Array Bool}{a:Go.Act}{w:World}(hr:Region.ready md ops listed=is)(hne:is≠[])
  (h: ∀i∈is,∃o,ops[i]? =some o/\o.guard=none/\ ∀K':Go.Act->World->Prop,Shut (∀a w,S w->cQ P md ops Q S z fuel (listed.setIfInBounds i true) a w->K' a w)->Oper.wp P o a w K' Q):cQ P md ops Q S z (fuel+1) listed a w:=by
 refine⟨fun h0=>absurd (hr.symm.trans h0) hne,fun j hj=>?_⟩;rw[hr]at hj;obtain⟨o,ho,hg,hh⟩:=h j hj;refine wpOp_step ho fun K' hK=>?_
 rw[if_pos (by simp[Region.wanted,hg])];exact hh K' (fun a w hS hW=>hK a w ⟨fun _=>hS,hW⟩)
theorem fAu {fuel:Nat}{listed:Array Bool}{a:Go.Act}{w:World}(F:Nat->Nat->Nat->World->Prop)(v21 v22 v25 v7:Nat->Value)(v26:Nat->Nat->Value)
  (hfin: ∀x y u wf,F x y u wf->Q .normal (((((a.put (some 21) (v21 x)).put (some 22) (v22 x)).put (some 25) (v25 y)).put (some 26) (v26 x y)).put (some 7) (v7 u)) wf)
  (h:Hid (∀x y u wf,F x y u wf->Q .normal (((((a.put (some 21) (v21 x)).put (some 22) (v22 x)).put (some 25) (v25 y)).put (some 26) (v26 x y)).put (some 7) (v7 u)) wf)->cQ P md ops Q S z fuel listed a w):cQ P md ops Q S z fuel listed a w:=h (aA hfin)
end
theorem pJ (w:World)(c1 c2 c3:Array Value)(t1 t2 t3:TypeId):(((w.alloc (.cells c1 t1)).alloc (.cells c2 t2)).alloc (.cells c3 t3)).heap[w.heap.size]? =some (.cells c1 t1)/\(((w.alloc (.cells c1 t1)).alloc (.cells c2 t2)).alloc (.cells c3 t3)).heap[w.heap.size+1]? =some (.cells c2 t2)/\
  (((w.alloc (.cells c1 t1)).alloc (.cells c2 t2)).alloc (.cells c3 t3)).heap[w.heap.size+1+1]? =some (.cells c3 t3)/\Below w.heap.size w (((w.alloc (.cells c1 t1)).alloc (.cells c2 t2)).alloc (.cells c3 t3)):=by
 refine⟨?_,?_,?_,(((aD w.heap.size w).alloc (aI _) _).alloc (by simp) _).alloc (by simp;omega) _⟩
 ·rw[Below.heap_alloc _ _ _ (by simp;omega),Below.heap_alloc _ _ _ (by simp),heap_alloc_new]
 ·rw[Below.heap_alloc _ _ _ (by simp)];have:=heap_alloc_new (w.alloc (.cells c1 t1)) (.cells c2 t2)
  simpa using this
 ·have:=heap_alloc_new ((w.alloc (.cells c1 t1)).alloc (.cells c2 t2)) (.cells c3 t3)
  simpa using this
theorem fAv:(Tryz.prog.info? 4).map (fun i=>(i.zero,i.size,i.bytes))=some (some (.bool false),1,1):=by kernel_rfl
theorem fAw (n:Nat)(h:n<=8)(w:World):(Instr.makeSlice 75 (.int .i64 (n:Int)) (.int .i64 (n:Int))).run Tryz.prog w= .ok (.slice (some ⟨w.heap.size,0,none⟩) n n) (w.alloc (.cells (madeCells #[.bool false] n) 4)):=by
 obtain⟨i0,hi,hz0,hz1,hz2⟩:=info_parts fAv;have hr:=run_make (P:=Tryz.prog) w 75 4 i0 _ Tryz.underlying75 hi hz0 .i64 .i64 (n:Int) (n:Int) (by omega) (Int.le_refl _) (by rw[hz2];omega) (by omega);rw[hz1,Nat.mul_one,show(Value.bool false).cells=#[.bool false]from rfl]at hr
 simpa only[Int.toNat_natCast] using hr
theorem pK {ev:Operand->Value}{o:Oper}{x y z:Operand}{mode:Int}{bS bB n:Nat}(ho:o.op= .build 83 #[(0,x),(1,y),(2,z)])(hx:ev x= .int .i64 mode)(hy:ev y= .agg #[.slice none 0 0,.slice (some ⟨bS,0,none⟩) n n])(hz:ev z= .slice (some ⟨bB,0,none⟩) n n)(w:World):
  (execOp ev o).run Tryz.prog w= .ok (.value (.agg (gH mode (.slice (some ⟨bS,0,none⟩) n n) (.slice (some ⟨bB,0,none⟩) n n)).toArray)) w:=by
 have h:=run_build (P:=Tryz.prog) w 83 #[(0,.int .i64 mode),(1,.agg #[.slice none 0 0,.slice (some ⟨bS,0,none⟩) n n]),(2,.slice (some ⟨bB,0,none⟩) n n)] _ (fAq mode (.slice (some ⟨bS,0,none⟩) n n) (.slice (some ⟨bB,0,none⟩) n n) rfl rfl);unfold execOp;simp only[ho,Sem.run_bind,Sem.run_pure,List.map_toArray,List.map_cons,List.map_nil,hx,hy,hz,h,Result.andThen_ok]
theorem pL:(Tryz.prog.info? 83).map (·.size)=some 48:=by kernel_rfl
theorem pM (mode:Int)(bS bB n:Nat):(gH mode (.slice (some ⟨bS,0,none⟩) n n) (.slice (some ⟨bB,0,none⟩) n n)).toArray.all (·.oneCell')=true:=by kernel_rfl
def bV:Array Value:=#[.int .i64 0,.slice none 0 0,.slice none 0 0,.slice none 0 0,.string ⟨#[]⟩,.slice none 0 0,.bool false,.int .i64 0,.slice none 0 0,.slice none 0 0,.string ⟨#[]⟩,.slice none 0 0,.bool false,.int .i64 0,.slice none 0 0,.slice none 0 0,.string ⟨#[]⟩,.slice none 0 0,.bool false,.int .i64 0,.slice none 0 0,.slice none 0 0,.string ⟨#[]⟩,.slice none 0 0,.bool false,.int .i64 0,.slice none 0 0,.slice none 0 0,.string ⟨#[]⟩,.slice none 0 0,.bool false,.int .i64 0,.slice none 0 0,.slice none 0 0,.string ⟨#[]⟩,.slice none 0 0,.bool false,.int .i64 0,.slice none 0 0,.slice none 0 0,.slice none 0 0,.slice none 0 0,.slice none 0 0,.slice none 0 0,.slice none 0 0,.slice none 0 0,.slice none 0 0,.slice none 0 0]
def zeroS (n:Nat):Array Value:=madeCells #[.int .i64 0,.slice none 0 0,.slice none 0 0,.slice none 0 0,.slice none 0 0] (n*5)
def Made (w1:World)(mode:Int)(n:Nat)(x y u:Nat)(wf:World):Prop:=
 ∃W,Below w1.heap.size w1 W/\W.heap[x]? =some (.cells (zeroS n) 115)/\W.heap[y]? =some (.cells (madeCells #[.bool false] n) 4)/\W.heap[u]? =some (.cells bV 83)/\x≠y/\x≠u/\y≠u/\w1.heap.size<=x/\w1.heap.size<=y/\w1.heap.size<=u/\
  wf=W.setRow u (gH mode (.slice (some ⟨x,0,none⟩) n n) (.slice (some ⟨y,0,none⟩) n n)).toArray
theorem Made.pmem {w1 wf:World}{mode:Int}{n x y u base:Nat}(h:Made w1 mode n x y u wf)(hn:n<=8)(hb:base<=w1.heap.size):PMem 0 wf base u (lM mode (oD x n) (oD y n)) (pI u y) mode (Mach.start (gA n) n)/\Below w1.heap.size w1 wf:=by
 obtain⟨W,hB,hx,hy,hu,h1,h2,h3,l1,l2,l3,rfl⟩:=h;have hrow: ∀{g t:Nat} {cs:Array Value},g≠u->W.heap[g]? =some (.cells cs t)->RowTo (W.setRow u (gH mode (.slice (some ⟨x,0,none⟩) n n) (.slice (some ⟨y,0,none⟩) n n)).toArray) g t cs.size cs.toList:=fun hg hc=>⟨_,(oN W u _ _ hg).trans hc,rfl,by rw[jR (by simp)]⟩
 have rS:=hrow h2 hx;have rB:=hrow h3 hy;have e1:(zeroS n).size=n*5:=by unfold zeroS;simp[madeCells]
 have e2:(madeCells #[Value.bool false] n).size=n:=by simp[madeCells]
 rw[e1]at rS;rw[e2]at rB;refine⟨PMem.start hn mode rS rB ⟨_,setRow_heap W u bV _ _ _ hu,rfl,fun j hj=>?_⟩ h1 h2 h3 (by omega) (by omega),?_⟩
 ·have hl:j<(gH mode (.slice (some ⟨x,0,none⟩) n n) (.slice (some ⟨y,0,none⟩) n n)).length:=hj;rw[List.getElem?_toArray];unfold lM oD;rw[eU,dP hl];rfl
 ·have hg:=vR W u (gH mode (.slice (some ⟨x,0,none⟩) n n) (.slice (some ⟨y,0,none⟩) n n)).toArray;exact hB.grown hg hB.size (fun b hb=>by injection hb with hb;omega)
theorem xR {mode s:Int}{l:List Act}(h:eL mode s l=0):1<=mode/\mode<=3/\1<=s/\s<=4/\l.length<=300/\eA l=0:=by
 unfold eL at h
 by_cases h0:dY mode s≠0
 ·rw[if_pos h0]at h;exact absurd h h0
 ·rw[if_neg h0]at h;have h0:dY mode s=0:=gP h0;unfold dY at h0
  by_cases h1:mode<1\/3<mode
  ·rw[if_pos h1]at h0;cases h0
  ·rw[if_neg h1]at h0
   by_cases h2:s<1\/4<s
   ·rw[if_pos h2]at h0;cases h0
   ·by_cases h3:300<l.length
    ·rw[if_pos h3]at h;cases h
    ·rw[if_neg h3]at h;exact⟨by omega,by omega,by omega,by omega,by omega,h⟩
theorem xS (o:mF PE)(mode:Int)(m:Mach PE){l:List Act}{k:Nat}(hk:k<l.length):m.run o mode (l.take (k+1))=(m.run o mode (l.take k)).act o mode l[k]:=by
 rw[gO hk,gAq];rfl
theorem fAx {l:List Act}(h:eA l=0)(k:Nat):eA (l.take k)=0:=by
 have:l=l.take k++l.drop k:=(List.take_append_drop k l).symm;rw[this]at h;exact(tV.1 h).1
theorem xT {l:List Act}(h:eA l=0){k:Nat}(hk:k<l.length):dZ l[k]=0:=by
 have h1:=fAx h (k+1);rw[gO hk]at h1;exact(lJ (tV.1 h1).2).1
def fAy (w:World)(m:Mach PE)(e:Ending)(w':World):Prop:= ∃v1 v2 v3,e= .returned (.tuple #[.agg #[v1,v2,v3],.int .i64 0])/\OutV w' v1 v2 v3 m.sent m.deeds m.e.w.rows/\Below w.heap.size w w'
def xU (w1:World)(R P:Nat)(mode:Int)(m:Mach PE)(N:Nat)(wr:World):Prop:=
 (∃f G,PMem 0 wr w1.heap.size P f G mode m)/\Inv mode m N/\m.busy.length<=8/\Below w1.heap.size w1 wr
theorem fAz (mode srv:Int)(v:Value)(l:List Act)(w:World)(hl:ALst w w.heap.size v l)(hT:Tabs w w.heap.size)(hE:eL mode srv l=0):
  Calls Tryz.prog 7 #[.agg #[.int .i64 mode,.int .i64 srv],v] w (fAy w ((Mach.start (gA srv.toNat) srv.toNat).run aO mode l)):=by
 obtain⟨hm1,hm3,hs1,hs4,hl300,hacts⟩:=xR hE;obtain⟨n,hn⟩: ∃n:Nat,srv=n:=⟨srv.toNat,by omega⟩;subst hn;rw[Int.toNat_natCast];have hn8:n<=8:=by omega
 have hn1:1<=n:=by omega
 have n0:=((aD w.heap.size w).alloc (aI _) (.cells #[.int .i64 mode,.int .i64 (n:Int)] 23)).alloc (by simp) (.cells #[.slice none 0 0,.slice none 0 0,.slice none 0 0] 29);have X1:=(RowTo.whole w #[.int .i64 mode,.int .i64 (n:Int)] 23).alloc (.cells #[.slice none 0 0,.slice none 0 0,.slice none 0 0] 29);have X2:=RowTo.whole (w.alloc (.cells #[.int .i64 mode,.int .i64 (n:Int)] 23)) #[.slice none 0 0,.slice none 0 0,.slice none 0 0] 29;simp only[World.size_alloc]at X2;obtain⟨x0,x1⟩:=bR X1;have HCR:=aA (xAi mode (n:Int) v l _ (hl.step n0));rw[hE]at HCR;obtain⟨A,cA,rfl,hcA⟩:=hl.form;have HL:=aA (hl.step n0);have HT:=aA hT;have HX:=aA (aJ X1 X2);have HN0:=aA n0;have HAC:=aA hacts;have hz0:((w.alloc (.cells #[.int .i64 mode,.int .i64 (n:Int)] 23)).alloc (.cells #[.slice none 0 0,.slice none 0 0,.slice none 0 0] 29)).heap.size=w.heap.size+1+1:=by simp
 clear hl hT hE hm1 hm3 hs1 hs4 n0 X1 X2 hacts;go_enter Tryz.func7,Tryz.ntmps7;go_wp2_with fail;refine HCR.out.mono ?_;rintro e w1 ⟨rfl,hb1⟩;have hX1:=HX.out.1.below hb1 HX.out.1.lt;have hX2:=HX.out.2.below hb1 HX.out.2.lt;have hbw:=aR HN0.out hb1 HN0.out.size;have hsz1:w.heap.size+1+1<=w1.heap.size:=by have:=hb1.size;omega
 have hl1:=HL.out.step hb1;obtain⟨y0,y1⟩:=bR hX1;have HX2:=aA hX2;have HBW:=aA hbw;have HL1:=aA hl1;have hXl:w.heap.size<w1.heap.size:=by omega
 have HT1:=aA ((HT.out.below hbw).up hbw.size);have hmk1: ∀w:World,(Instr.makeSlice 37 (.int .i64 (n:Int)) (.int .i64 (n:Int))).run Tryz.prog w= .ok (.slice (some ⟨w.heap.size,0,none⟩) n n) (w.alloc (.cells (zeroS n) 115)):=fun w=>wJ n (by omega) w
 have hmk2:=fAw n hn8;clear hb1 hX1 hX2 hbw hl1 HCR HX HN0 HL x0 x1 hz0 HT;go_wp2_with fail;refine eF 11 (fun wx=>wx.cell? ⟨w.heap.size,0,none⟩=some (.int .i64 mode)/\wx.cell? ⟨w.heap.size,1,none⟩=some (.int .i64 (n:Int))) (by kernel_rfl) (show w1.drew.cell? ⟨w.heap.size,0,none⟩=some (.int .i64 mode)/\w1.drew.cell? ⟨w.heap.size,1,none⟩=some (.int .i64 (n:Int))from⟨y0,y1⟩) (fun hS=>?_);refine dF [(0,[1]),(1,[]),(2,[3]),(3,[]),(6,[7]),(7,[])] ?_
 iterate 6
  refine dH (v:=?_) hS ?_ ?_;rotate_left
  ·(intro w hSw;(try dsimp only at hSw);(try simp only[aE,aB,aC]);go_simp;try with_reducible rfl)
  (try simp only[aE,aB,aC,aQ,aH,aG,aF])
 refine dG ?_;refine fAu (Made w1 mode n) (fun x=> .slice (some ⟨x,0,none⟩) n n) (fun x=> .agg #[.slice none 0 0,.slice (some ⟨x,0,none⟩) n n]) (fun x=> .slice (some ⟨x,0,none⟩) n n) (fun x=> .pointer (some ⟨x,0,none⟩)) (fun x y=> .agg (gH mode (.slice (some ⟨x,0,none⟩) n n) (.slice (some ⟨y,0,none⟩) n n)).toArray) ?fin (fun HK=>?tree)
 case fin=>
  intro bS bB P wf hF
  (try simp only[aE,aB,aC,aQ,aH,aG,aF])
  obtain⟨hM0,hB0⟩:=hF.pmem hn8 (aI w1.heap.size);have HR0:Hid (xU w1 (w.heap.size+1) P mode (Mach.start (gA n) n) 0 wf):=aA ⟨⟨_,_,hM0⟩,Inv.start hn8,by simp[Mach.start];omega,hB0⟩;clear hM0 hB0 hF hmk1 hmk2 hS;generalize hm0:Mach.start (gA n) n=m0 at*;clear hm0;go_wp2_with fail
  go_loopw [29] (fun i wr=> ∃k:Nat,k<=l.length/\i= .int .i64 k/\Hid (xU w1 (w.heap.size+1) P mode (m0.run aO mode (l.take k)) (1000*k) wr)) (fun i _=>l.length-(intOf i).toNat)
  case atStart=>exact⟨0,by omega,rfl,HR0.out⟩
  case round=>
   obtain⟨k,hk,rfl,HZ⟩:=hrel;clear HR0
   by_cases hlt:k<l.length
   ·obtain⟨⟨f,G,hM⟩,hI,hb8,hB⟩:=HZ.out;have hA:=HL1.out.below hB;obtain⟨b,off,rfl,hbl,c0,c1,c2⟩:=hA.pt hlt;have hbr:b<wr.heap.size:=bD hbl hB.size;have n1:=(aD wr.heap.size wr).alloc (aI _) (.cells #[.int .i64 l[k].kind,.int .i64 l[k].c,.string l[k].data] 54);have hM1:=hM.below n1;have hbase:w1.heap.size<=wr.heap.size:=hB.size;have hB1:=hB.trans (n1.mono hbase);have HP:=aA (fAt _ hM1 (HT1.out.below hB1) hI (by omega) l[k] (xT HAC.out hlt) hb8);rw[<-xS aO mode m0 hlt]at HP;have HI2:=aA (show Inv mode (m0.run aO mode (l.take (k+1))) (1000*(k+1)) by rw[xS aO mode m0 hlt];exact(hI.act (xT HAC.out hlt)).mono (by omega));have hb82:(m0.run aO mode (l.take (k+1))).busy.length<=8:=(by rw[xS aO mode m0 hlt,gAs];exact hb8);have HB1:=aA hB1;have hkI:(k:Int)<(l.length:Int):=(by omega);unfold cC at HP;clear hM hI hB hA n1 hM1 hB1 HZ;obtain⟨m2,HM2⟩: ∃u,Hid (m0.run aO mode (l.take (k+1))=u):=⟨_,aA rfl⟩;rw[HM2.out]at HP HI2 hb82;generalize l[k].kind=ak at*;generalize l[k].c=ac at*;generalize l[k].data=ad at*;go_wp2_with fail;refine HP.out.mono ?_;rintro e w3 ⟨f3,G3,rfl,hM3,hB3⟩;have HF:Hid (xU w1 (w.heap.size+1) P mode m2 (1000*(k+1)) w3):=aA ⟨⟨f3,G3,hM3⟩,HI2.out,hb82,HB1.out.trans hB3⟩;clear hM3 hB3 HP;go_wp2;go_roundw
    case rel=>exact⟨k+1,by omega,by go_num,by rw[HM2.out];exact HF.out⟩
    case measure=>simp[intOf];omega
   ·obtain rfl:k=l.length:=(by omega);obtain⟨⟨f,G,hM⟩,hI,hb8,hB⟩:=HZ.out;rw[List.take_length]at hM hI;have HO:=aA (fAl wr hM hI (by omega));have HB:=aA hB;have hbase:w1.heap.size<=wr.heap.size:=hB.size;have hRr:=HX2.out.below hB (by omega);have HRr:=aA hRr;generalize m0.run aO mode l=m2 at*;unfold cC at HO;clear hM hI hB hRr HZ;go_wp2_with fail;refine HO.out.mono ?_;rintro e w3 ⟨v1,v2,v3,rfl,hO,hB3⟩;obtain⟨A1,s1,rfl,_⟩:=hO.s.form;obtain⟨A2,s2,rfl,_⟩:=hO.d.form;obtain⟨A3,s3,rfl,_⟩:=hO.r.form;have hR3:=HRr.out.below hB3 HRr.out.lt;obtain⟨r0,r1,r2⟩:=bA hR3;have z0:=hR3.frozen 0;have z1:=hR3.frozen 1;have z2:=hR3.frozen 2;have hRl:=hR3.lt;have hbel:=HBW.out.trans ((HB.out.trans (hB3.mono hbase)).mono (show w.heap.size<=w1.heap.size by omega));have hBf:=((hbel.setCell (p:=⟨w.heap.size+1,0,none⟩) (by show w.heap.size<=w.heap.size+1;omega) (.slice A1 m2.sent.length s1)).setCell (p:=⟨w.heap.size+1,1,none⟩) (by show w.heap.size<=w.heap.size+1;omega) (.slice A2 m2.deeds.length s2)).setCell (p:=⟨w.heap.size+1,2,none⟩) (by show w.heap.size<=w.heap.size+1;omega) (.slice A3 m2.e.w.rows.length s3);have hOff:=OutV.off3 hO hR3 (.slice A1 m2.sent.length s1) (.slice A2 m2.deeds.length s2) (.slice A3 m2.e.w.rows.length s3);have hRf:=((hR3.put (j:=0) (by simp) (.slice A1 m2.sent.length s1)).put (j:=1) (by simp) (.slice A2 m2.deeds.length s2)).put (j:=2) (by simp) (.slice A3 m2.e.w.rows.length s3);have HF:=aA (aJ hOff (aJ hBf hRf));clear hOff hBf hRf hbel hR3 hO hB3 HO;generalize m2.sent.length=e1 at*;generalize m2.deeds.length=e2 at*;generalize m2.e.w.rows.length=e3 at*;go_wp2;obtain⟨hO,hBB,hRow⟩:=HF.out;obtain⟨t0,t1,t2⟩:=bA hRow;generalize((w3.setCell ⟨w.heap.size+1,0,none⟩ (.slice A1 e1 s1)).setCell ⟨w.heap.size+1,1,none⟩ (.slice A2 e2 s2)).setCell ⟨w.heap.size+1,2,none⟩ (.slice A3 e3 s3)=WF at*;refine bE (v:= .tuple #[.agg #[.slice A1 e1 s1,.slice A2 e2 s2,.slice A3 e3 s3],.int .i64 0]) (by simp[results,Tryz.results7,go_sem,t0,t1,t2]) rfl ⟨_,_,_,rfl,hO,hBB⟩
 case tree=>
  refine tZ (is:=[4,8,10]) (by kernel_rfl) (by simp) (fun i hi=>?_);simp only[List.mem_cons,List.not_mem_nil,or_false]at hi;rcases hi with rfl|rfl|rfl
  ·refine⟨_,rfl,rfl,fun K hK=>?_⟩
   (try simp only[aE,aB,aC])
   go_simp;have hS2:=(show(w1.drew.alloc (.cells (zeroS n) 115)).cell? ⟨w.heap.size,0,none⟩=some (.int .i64 mode)/\(w1.drew.alloc (.cells (zeroS n) 115)).cell? ⟨w.heap.size,1,none⟩=some (.int .i64 (n:Int))from⟨((((aD w1.heap.size w1).drew).alloc (by simp) (.cells (zeroS n) 115)).cell (p:=⟨w.heap.size,0,none⟩) hXl).trans y0,((((aD w1.heap.size w1).drew).alloc (by simp) (.cells (zeroS n) 115)).cell (p:=⟨w.heap.size,1,none⟩) hXl).trans y1⟩);refine hK.out _ _ hS2 ?_;clear hK K hS;have hS:=hS2;clear hS2
   (try simp only[aE,aB,aC,aQ,aH,aG,aF])
   refine iS (i:=5) [9] (v:=?vts5) rfl (by kernel_rfl) (by kernel_rfl) (by kernel_rfl) (by kernel_rfl) (fun _ _ _ h=>h) (Or.inl ⟨by rfl,?yts5⟩) hS ?rts5
   case yts5=>(intro w hSw;(try dsimp only at hSw);(try simp only[aE,aB,aC]);go_simp;try with_reducible rfl)
   (try simp only[aE,aB,aC,aQ,aH,aG,aF])
   refine tZ (is:=[8,10]) (by kernel_rfl) (by simp) (fun i hi=>?_);simp only[List.mem_cons,List.not_mem_nil,or_false]at hi;rcases hi with rfl|rfl
   ·refine⟨_,rfl,rfl,fun K hK=>?_⟩
    (try simp only[aE,aB,aC])
    go_simp;have hS2:=(show((w1.drew.alloc (.cells (zeroS n) 115)).alloc (.cells (madeCells #[.bool false] n) 4)).cell? ⟨w.heap.size,0,none⟩=some (.int .i64 mode)/\((w1.drew.alloc (.cells (zeroS n) 115)).alloc (.cells (madeCells #[.bool false] n) 4)).cell? ⟨w.heap.size,1,none⟩=some (.int .i64 (n:Int))from⟨(((((aD w1.heap.size w1).drew).alloc (by simp) (.cells (zeroS n) 115)).alloc (by simp) (.cells (madeCells #[.bool false] n) 4)).cell (p:=⟨w.heap.size,0,none⟩) hXl).trans y0,(((((aD w1.heap.size w1).drew).alloc (by simp) (.cells (zeroS n) 115)).alloc (by simp) (.cells (madeCells #[.bool false] n) 4)).cell (p:=⟨w.heap.size,1,none⟩) hXl).trans y1⟩);refine hK.out _ _ hS2 ?_;clear hK K hS;have hS:=hS2;clear hS2
    (try simp only[aE,aB,aC,aQ,aH,aG,aF])
    refine iI (i:=9) (v:= .agg (gH mode (.slice (some ⟨w1.heap.size,0,none⟩) n n) (.slice (some ⟨w1.heap.size+1,0,none⟩) n n)).toArray) rfl (by kernel_rfl) (by kernel_rfl) (by kernel_rfl) (by kernel_rfl) (fun _ _ _ h=>h) (Or.inl ⟨by rfl,?yusb9⟩) hS ?rusb9
    case yusb9=>exact fun w _=>pK rfl rfl rfl rfl w
    (try simp only[aE,aB,aC,aQ,aH,aG,aF])
    refine cK (i:=10) (fun K hK=>?_)
    (try simp only[aE,aB,aC])
    go_simp;have hS2:=(show(((w1.drew.alloc (.cells (zeroS n) 115)).alloc (.cells (madeCells #[.bool false] n) 4)).alloc (.cells bV 83)).cell? ⟨w.heap.size,0,none⟩=some (.int .i64 mode)/\(((w1.drew.alloc (.cells (zeroS n) 115)).alloc (.cells (madeCells #[.bool false] n) 4)).alloc (.cells bV 83)).cell? ⟨w.heap.size,1,none⟩=some (.int .i64 (n:Int))from⟨((((((aD w1.heap.size w1).drew).alloc (by simp) (.cells (zeroS n) 115)).alloc (by simp) (.cells (madeCells #[.bool false] n) 4)).alloc (by simp;omega) (.cells bV 83)).cell (p:=⟨w.heap.size,0,none⟩) hXl).trans y0,((((((aD w1.heap.size w1).drew).alloc (by simp) (.cells (zeroS n) 115)).alloc (by simp) (.cells (madeCells #[.bool false] n) 4)).alloc (by simp;omega) (.cells bV 83)).cell (p:=⟨w.heap.size,1,none⟩) hXl).trans y1⟩);refine hK.out _ _ hS2 ?_;clear hK K hS;have hS:=hS2;clear hS2
    (try simp only[aE,aB,aC,aQ,aH,aG,aF])
    refine bY (fun K hK=>?_)
    (try simp only[aE,aB,aC])
    obtain⟨g1,g2,g3,gB⟩:=pJ w1.drew (zeroS n) (madeCells #[.bool false] n) bV 115 4 83;have hgP:((((w1.drew.alloc (.cells (zeroS n) 115)).alloc (.cells (madeCells #[.bool false] n) 4)).alloc (.cells bV 83))).heap[w1.heap.size+1+1]? =some (.cells bV 83):=g3;refine wp_store_row 83 _ _ rfl (w1.heap.size+1+1) (gH mode (.slice (some ⟨w1.heap.size,0,none⟩) n n) (.slice (some ⟨w1.heap.size+1,0,none⟩) n n)).toArray rfl rfl 83 bV hgP pL rfl (pM mode _ _ n) ?_;refine hK.out _ _ ?_;clear hK K
    (try simp only[aE,aB,aC,aQ,aH,aG,aF])
    have hk:=HK.out (w1.heap.size) (w1.heap.size+1) (w1.heap.size+1+1) _ ⟨_,((aD w1.heap.size w1).drew).trans gB,g1,g2,hgP,by omega,by omega,by omega,by omega,by omega,by omega,rfl⟩
    (try simp only[aE,aB,aC,aQ,aH,aG,aF]at hk)
    exact hk
   ·refine⟨_,rfl,rfl,fun K hK=>?_⟩
    (try simp only[aE,aB,aC])
    go_simp;have hS2:=(show((w1.drew.alloc (.cells (zeroS n) 115)).alloc (.cells bV 83)).cell? ⟨w.heap.size,0,none⟩=some (.int .i64 mode)/\((w1.drew.alloc (.cells (zeroS n) 115)).alloc (.cells bV 83)).cell? ⟨w.heap.size,1,none⟩=some (.int .i64 (n:Int))from⟨(((((aD w1.heap.size w1).drew).alloc (by simp) (.cells (zeroS n) 115)).alloc (by simp) (.cells bV 83)).cell (p:=⟨w.heap.size,0,none⟩) hXl).trans y0,(((((aD w1.heap.size w1).drew).alloc (by simp) (.cells (zeroS n) 115)).alloc (by simp) (.cells bV 83)).cell (p:=⟨w.heap.size,1,none⟩) hXl).trans y1⟩);refine hK.out _ _ hS2 ?_;clear hK K hS;have hS:=hS2;clear hS2
    (try simp only[aE,aB,aC,aQ,aH,aG,aF])
    refine cK (i:=8) (fun K hK=>?_)
    (try simp only[aE,aB,aC])
    go_simp;have hS2:=(show(((w1.drew.alloc (.cells (zeroS n) 115)).alloc (.cells bV 83)).alloc (.cells (madeCells #[.bool false] n) 4)).cell? ⟨w.heap.size,0,none⟩=some (.int .i64 mode)/\(((w1.drew.alloc (.cells (zeroS n) 115)).alloc (.cells bV 83)).alloc (.cells (madeCells #[.bool false] n) 4)).cell? ⟨w.heap.size,1,none⟩=some (.int .i64 (n:Int))from⟨((((((aD w1.heap.size w1).drew).alloc (by simp) (.cells (zeroS n) 115)).alloc (by simp) (.cells bV 83)).alloc (by simp;omega) (.cells (madeCells #[.bool false] n) 4)).cell (p:=⟨w.heap.size,0,none⟩) hXl).trans y0,((((((aD w1.heap.size w1).drew).alloc (by simp) (.cells (zeroS n) 115)).alloc (by simp) (.cells bV 83)).alloc (by simp;omega) (.cells (madeCells #[.bool false] n) 4)).cell (p:=⟨w.heap.size,1,none⟩) hXl).trans y1⟩);refine hK.out _ _ hS2 ?_;clear hK K hS;have hS:=hS2;clear hS2
    (try simp only[aE,aB,aC,aQ,aH,aG,aF])
    refine iI (i:=9) (v:= .agg (gH mode (.slice (some ⟨w1.heap.size,0,none⟩) n n) (.slice (some ⟨w1.heap.size+1+1,0,none⟩) n n)).toArray) rfl (by kernel_rfl) (by kernel_rfl) (by kernel_rfl) (by kernel_rfl) (fun _ _ _ h=>h) (Or.inl ⟨by rfl,?yuspb9⟩) hS ?ruspb9
    case yuspb9=>exact fun w _=>pK rfl rfl rfl rfl w
    (try simp only[aE,aB,aC,aQ,aH,aG,aF])
    refine bY (fun K hK=>?_)
    (try simp only[aE,aB,aC])
    obtain⟨g1,g2,g3,gB⟩:=pJ w1.drew (zeroS n) bV (madeCells #[.bool false] n) 115 83 4;have hgP:((((w1.drew.alloc (.cells (zeroS n) 115)).alloc (.cells bV 83)).alloc (.cells (madeCells #[.bool false] n) 4))).heap[w1.heap.size+1]? =some (.cells bV 83):=g2;refine wp_store_row 83 _ _ rfl (w1.heap.size+1) (gH mode (.slice (some ⟨w1.heap.size,0,none⟩) n n) (.slice (some ⟨w1.heap.size+1+1,0,none⟩) n n)).toArray rfl rfl 83 bV hgP pL rfl (pM mode _ _ n) ?_;refine hK.out _ _ ?_;clear hK K
    (try simp only[aE,aB,aC,aQ,aH,aG,aF])
    have hk:=HK.out (w1.heap.size) (w1.heap.size+1+1) (w1.heap.size+1) _ ⟨_,((aD w1.heap.size w1).drew).trans gB,g1,g3,hgP,by omega,by omega,by omega,by omega,by omega,by omega,rfl⟩
    (try simp only[aE,aB,aC,aQ,aH,aG,aF]at hk)
    exact hk
  ·refine⟨_,rfl,rfl,fun K hK=>?_⟩
   (try simp only[aE,aB,aC])
   go_simp;have hS2:=(show(w1.drew.alloc (.cells (madeCells #[.bool false] n) 4)).cell? ⟨w.heap.size,0,none⟩=some (.int .i64 mode)/\(w1.drew.alloc (.cells (madeCells #[.bool false] n) 4)).cell? ⟨w.heap.size,1,none⟩=some (.int .i64 (n:Int))from⟨((((aD w1.heap.size w1).drew).alloc (by simp) (.cells (madeCells #[.bool false] n) 4)).cell (p:=⟨w.heap.size,0,none⟩) hXl).trans y0,((((aD w1.heap.size w1).drew).alloc (by simp) (.cells (madeCells #[.bool false] n) 4)).cell (p:=⟨w.heap.size,1,none⟩) hXl).trans y1⟩);refine hK.out _ _ hS2 ?_;clear hK K hS;have hS:=hS2;clear hS2
   (try simp only[aE,aB,aC,aQ,aH,aG,aF])
   refine tZ (is:=[4,10]) (by kernel_rfl) (by simp) (fun i hi=>?_);simp only[List.mem_cons,List.not_mem_nil,or_false]at hi;rcases hi with rfl|rfl
   ·refine⟨_,rfl,rfl,fun K hK=>?_⟩
    (try simp only[aE,aB,aC])
    go_simp;have hS2:=(show((w1.drew.alloc (.cells (madeCells #[.bool false] n) 4)).alloc (.cells (zeroS n) 115)).cell? ⟨w.heap.size,0,none⟩=some (.int .i64 mode)/\((w1.drew.alloc (.cells (madeCells #[.bool false] n) 4)).alloc (.cells (zeroS n) 115)).cell? ⟨w.heap.size,1,none⟩=some (.int .i64 (n:Int))from⟨(((((aD w1.heap.size w1).drew).alloc (by simp) (.cells (madeCells #[.bool false] n) 4)).alloc (by simp) (.cells (zeroS n) 115)).cell (p:=⟨w.heap.size,0,none⟩) hXl).trans y0,(((((aD w1.heap.size w1).drew).alloc (by simp) (.cells (madeCells #[.bool false] n) 4)).alloc (by simp) (.cells (zeroS n) 115)).cell (p:=⟨w.heap.size,1,none⟩) hXl).trans y1⟩);refine hK.out _ _ hS2 ?_;clear hK K hS;have hS:=hS2;clear hS2
    (try simp only[aE,aB,aC,aQ,aH,aG,aF])
    refine iS (i:=5) [9] (v:=?vtbs5) rfl (by kernel_rfl) (by kernel_rfl) (by kernel_rfl) (by kernel_rfl) (fun _ _ _ h=>h) (Or.inl ⟨by rfl,?ytbs5⟩) hS ?rtbs5
    case ytbs5=>(intro w hSw;(try dsimp only at hSw);(try simp only[aE,aB,aC]);go_simp;try with_reducible rfl)
    (try simp only[aE,aB,aC,aQ,aH,aG,aF])
    refine iI (i:=9) (v:= .agg (gH mode (.slice (some ⟨w1.heap.size+1,0,none⟩) n n) (.slice (some ⟨w1.heap.size,0,none⟩) n n)).toArray) rfl (by kernel_rfl) (by kernel_rfl) (by kernel_rfl) (by kernel_rfl) (fun _ _ _ h=>h) (Or.inl ⟨by rfl,?yubs9⟩) hS ?rubs9
    case yubs9=>exact fun w _=>pK rfl rfl rfl rfl w
    (try simp only[aE,aB,aC,aQ,aH,aG,aF])
    refine cK (i:=10) (fun K hK=>?_)
    (try simp only[aE,aB,aC])
    go_simp;have hS2:=(show(((w1.drew.alloc (.cells (madeCells #[.bool false] n) 4)).alloc (.cells (zeroS n) 115)).alloc (.cells bV 83)).cell? ⟨w.heap.size,0,none⟩=some (.int .i64 mode)/\(((w1.drew.alloc (.cells (madeCells #[.bool false] n) 4)).alloc (.cells (zeroS n) 115)).alloc (.cells bV 83)).cell? ⟨w.heap.size,1,none⟩=some (.int .i64 (n:Int))from⟨((((((aD w1.heap.size w1).drew).alloc (by simp) (.cells (madeCells #[.bool false] n) 4)).alloc (by simp) (.cells (zeroS n) 115)).alloc (by simp;omega) (.cells bV 83)).cell (p:=⟨w.heap.size,0,none⟩) hXl).trans y0,((((((aD w1.heap.size w1).drew).alloc (by simp) (.cells (madeCells #[.bool false] n) 4)).alloc (by simp) (.cells (zeroS n) 115)).alloc (by simp;omega) (.cells bV 83)).cell (p:=⟨w.heap.size,1,none⟩) hXl).trans y1⟩);refine hK.out _ _ hS2 ?_;clear hK K hS;have hS:=hS2;clear hS2
    (try simp only[aE,aB,aC,aQ,aH,aG,aF])
    refine bY (fun K hK=>?_)
    (try simp only[aE,aB,aC])
    obtain⟨g1,g2,g3,gB⟩:=pJ w1.drew (madeCells #[.bool false] n) (zeroS n) bV 4 115 83;have hgP:((((w1.drew.alloc (.cells (madeCells #[.bool false] n) 4)).alloc (.cells (zeroS n) 115)).alloc (.cells bV 83))).heap[w1.heap.size+1+1]? =some (.cells bV 83):=g3;refine wp_store_row 83 _ _ rfl (w1.heap.size+1+1) (gH mode (.slice (some ⟨w1.heap.size+1,0,none⟩) n n) (.slice (some ⟨w1.heap.size,0,none⟩) n n)).toArray rfl rfl 83 bV hgP pL rfl (pM mode _ _ n) ?_;refine hK.out _ _ ?_;clear hK K
    (try simp only[aE,aB,aC,aQ,aH,aG,aF])
    have hk:=HK.out (w1.heap.size+1) (w1.heap.size) (w1.heap.size+1+1) _ ⟨_,((aD w1.heap.size w1).drew).trans gB,g2,g1,hgP,by omega,by omega,by omega,by omega,by omega,by omega,rfl⟩
    (try simp only[aE,aB,aC,aQ,aH,aG,aF]at hk)
    exact hk
   ·refine⟨_,rfl,rfl,fun K hK=>?_⟩
    (try simp only[aE,aB,aC])
    go_simp;have hS2:=(show((w1.drew.alloc (.cells (madeCells #[.bool false] n) 4)).alloc (.cells bV 83)).cell? ⟨w.heap.size,0,none⟩=some (.int .i64 mode)/\((w1.drew.alloc (.cells (madeCells #[.bool false] n) 4)).alloc (.cells bV 83)).cell? ⟨w.heap.size,1,none⟩=some (.int .i64 (n:Int))from⟨(((((aD w1.heap.size w1).drew).alloc (by simp) (.cells (madeCells #[.bool false] n) 4)).alloc (by simp) (.cells bV 83)).cell (p:=⟨w.heap.size,0,none⟩) hXl).trans y0,(((((aD w1.heap.size w1).drew).alloc (by simp) (.cells (madeCells #[.bool false] n) 4)).alloc (by simp) (.cells bV 83)).cell (p:=⟨w.heap.size,1,none⟩) hXl).trans y1⟩);refine hK.out _ _ hS2 ?_;clear hK K hS;have hS:=hS2;clear hS2
    (try simp only[aE,aB,aC,aQ,aH,aG,aF])
    refine cK (i:=4) (fun K hK=>?_)
    (try simp only[aE,aB,aC])
    go_simp;have hS2:=(show(((w1.drew.alloc (.cells (madeCells #[.bool false] n) 4)).alloc (.cells bV 83)).alloc (.cells (zeroS n) 115)).cell? ⟨w.heap.size,0,none⟩=some (.int .i64 mode)/\(((w1.drew.alloc (.cells (madeCells #[.bool false] n) 4)).alloc (.cells bV 83)).alloc (.cells (zeroS n) 115)).cell? ⟨w.heap.size,1,none⟩=some (.int .i64 (n:Int))from⟨((((((aD w1.heap.size w1).drew).alloc (by simp) (.cells (madeCells #[.bool false] n) 4)).alloc (by simp) (.cells bV 83)).alloc (by simp;omega) (.cells (zeroS n) 115)).cell (p:=⟨w.heap.size,0,none⟩) hXl).trans y0,((((((aD w1.heap.size w1).drew).alloc (by simp) (.cells (madeCells #[.bool false] n) 4)).alloc (by simp) (.cells bV 83)).alloc (by simp;omega) (.cells (zeroS n) 115)).cell (p:=⟨w.heap.size,1,none⟩) hXl).trans y1⟩);refine hK.out _ _ hS2 ?_;clear hK K hS;have hS:=hS2;clear hS2
    (try simp only[aE,aB,aC,aQ,aH,aG,aF])
    refine iS (i:=5) [9] (v:=?vtbps5) rfl (by kernel_rfl) (by kernel_rfl) (by kernel_rfl) (by kernel_rfl) (fun _ _ _ h=>h) (Or.inl ⟨by rfl,?ytbps5⟩) hS ?rtbps5
    case ytbps5=>(intro w hSw;(try dsimp only at hSw);(try simp only[aE,aB,aC]);go_simp;try with_reducible rfl)
    (try simp only[aE,aB,aC,aQ,aH,aG,aF])
    refine iI (i:=9) (v:= .agg (gH mode (.slice (some ⟨w1.heap.size+1+1,0,none⟩) n n) (.slice (some ⟨w1.heap.size,0,none⟩) n n)).toArray) rfl (by kernel_rfl) (by kernel_rfl) (by kernel_rfl) (by kernel_rfl) (fun _ _ _ h=>h) (Or.inl ⟨by rfl,?yubps9⟩) hS ?rubps9
    case yubps9=>exact fun w _=>pK rfl rfl rfl rfl w
    (try simp only[aE,aB,aC,aQ,aH,aG,aF])
    refine bY (fun K hK=>?_)
    (try simp only[aE,aB,aC])
    obtain⟨g1,g2,g3,gB⟩:=pJ w1.drew (madeCells #[.bool false] n) bV (zeroS n) 4 83 115;have hgP:((((w1.drew.alloc (.cells (madeCells #[.bool false] n) 4)).alloc (.cells bV 83)).alloc (.cells (zeroS n) 115))).heap[w1.heap.size+1]? =some (.cells bV 83):=g2;refine wp_store_row 83 _ _ rfl (w1.heap.size+1) (gH mode (.slice (some ⟨w1.heap.size+1+1,0,none⟩) n n) (.slice (some ⟨w1.heap.size,0,none⟩) n n)).toArray rfl rfl 83 bV hgP pL rfl (pM mode _ _ n) ?_;refine hK.out _ _ ?_;clear hK K
    (try simp only[aE,aB,aC,aQ,aH,aG,aF])
    have hk:=HK.out (w1.heap.size+1+1) (w1.heap.size) (w1.heap.size+1) _ ⟨_,((aD w1.heap.size w1).drew).trans gB,g3,g1,hgP,by omega,by omega,by omega,by omega,by omega,by omega,rfl⟩
    (try simp only[aE,aB,aC,aQ,aH,aG,aF]at hk)
    exact hk
  ·refine⟨_,rfl,rfl,fun K hK=>?_⟩
   (try simp only[aE,aB,aC])
   go_simp;have hS2:=(show(w1.drew.alloc (.cells bV 83)).cell? ⟨w.heap.size,0,none⟩=some (.int .i64 mode)/\(w1.drew.alloc (.cells bV 83)).cell? ⟨w.heap.size,1,none⟩=some (.int .i64 (n:Int))from⟨((((aD w1.heap.size w1).drew).alloc (by simp) (.cells bV 83)).cell (p:=⟨w.heap.size,0,none⟩) hXl).trans y0,((((aD w1.heap.size w1).drew).alloc (by simp) (.cells bV 83)).cell (p:=⟨w.heap.size,1,none⟩) hXl).trans y1⟩);refine hK.out _ _ hS2 ?_;clear hK K hS;have hS:=hS2;clear hS2
   (try simp only[aE,aB,aC,aQ,aH,aG,aF])
   refine tZ (is:=[4,8]) (by kernel_rfl) (by simp) (fun i hi=>?_);simp only[List.mem_cons,List.not_mem_nil,or_false]at hi;rcases hi with rfl|rfl
   ·refine⟨_,rfl,rfl,fun K hK=>?_⟩
    (try simp only[aE,aB,aC])
    go_simp;have hS2:=(show((w1.drew.alloc (.cells bV 83)).alloc (.cells (zeroS n) 115)).cell? ⟨w.heap.size,0,none⟩=some (.int .i64 mode)/\((w1.drew.alloc (.cells bV 83)).alloc (.cells (zeroS n) 115)).cell? ⟨w.heap.size,1,none⟩=some (.int .i64 (n:Int))from⟨(((((aD w1.heap.size w1).drew).alloc (by simp) (.cells bV 83)).alloc (by simp) (.cells (zeroS n) 115)).cell (p:=⟨w.heap.size,0,none⟩) hXl).trans y0,(((((aD w1.heap.size w1).drew).alloc (by simp) (.cells bV 83)).alloc (by simp) (.cells (zeroS n) 115)).cell (p:=⟨w.heap.size,1,none⟩) hXl).trans y1⟩);refine hK.out _ _ hS2 ?_;clear hK K hS;have hS:=hS2;clear hS2
    (try simp only[aE,aB,aC,aQ,aH,aG,aF])
    refine iS (i:=5) [9] (v:=?vtps5) rfl (by kernel_rfl) (by kernel_rfl) (by kernel_rfl) (by kernel_rfl) (fun _ _ _ h=>h) (Or.inl ⟨by rfl,?ytps5⟩) hS ?rtps5
    case ytps5=>(intro w hSw;(try dsimp only at hSw);(try simp only[aE,aB,aC]);go_simp;try with_reducible rfl)
    (try simp only[aE,aB,aC,aQ,aH,aG,aF])
    refine cK (i:=8) (fun K hK=>?_)
    (try simp only[aE,aB,aC])
    go_simp;have hS2:=(show(((w1.drew.alloc (.cells bV 83)).alloc (.cells (zeroS n) 115)).alloc (.cells (madeCells #[.bool false] n) 4)).cell? ⟨w.heap.size,0,none⟩=some (.int .i64 mode)/\(((w1.drew.alloc (.cells bV 83)).alloc (.cells (zeroS n) 115)).alloc (.cells (madeCells #[.bool false] n) 4)).cell? ⟨w.heap.size,1,none⟩=some (.int .i64 (n:Int))from⟨((((((aD w1.heap.size w1).drew).alloc (by simp) (.cells bV 83)).alloc (by simp) (.cells (zeroS n) 115)).alloc (by simp;omega) (.cells (madeCells #[.bool false] n) 4)).cell (p:=⟨w.heap.size,0,none⟩) hXl).trans y0,((((((aD w1.heap.size w1).drew).alloc (by simp) (.cells bV 83)).alloc (by simp) (.cells (zeroS n) 115)).alloc (by simp;omega) (.cells (madeCells #[.bool false] n) 4)).cell (p:=⟨w.heap.size,1,none⟩) hXl).trans y1⟩);refine hK.out _ _ hS2 ?_;clear hK K hS;have hS:=hS2;clear hS2
    (try simp only[aE,aB,aC,aQ,aH,aG,aF])
    refine iI (i:=9) (v:= .agg (gH mode (.slice (some ⟨w1.heap.size+1,0,none⟩) n n) (.slice (some ⟨w1.heap.size+1+1,0,none⟩) n n)).toArray) rfl (by kernel_rfl) (by kernel_rfl) (by kernel_rfl) (by kernel_rfl) (fun _ _ _ h=>h) (Or.inl ⟨by rfl,?yupsb9⟩) hS ?rupsb9
    case yupsb9=>exact fun w _=>pK rfl rfl rfl rfl w
    (try simp only[aE,aB,aC,aQ,aH,aG,aF])
    refine bY (fun K hK=>?_)
    (try simp only[aE,aB,aC])
    obtain⟨g1,g2,g3,gB⟩:=pJ w1.drew bV (zeroS n) (madeCells #[.bool false] n) 83 115 4;have hgP:((((w1.drew.alloc (.cells bV 83)).alloc (.cells (zeroS n) 115)).alloc (.cells (madeCells #[.bool false] n) 4))).heap[w1.heap.size]? =some (.cells bV 83):=g1;refine wp_store_row 83 _ _ rfl (w1.heap.size) (gH mode (.slice (some ⟨w1.heap.size+1,0,none⟩) n n) (.slice (some ⟨w1.heap.size+1+1,0,none⟩) n n)).toArray rfl rfl 83 bV hgP pL rfl (pM mode _ _ n) ?_;refine hK.out _ _ ?_;clear hK K
    (try simp only[aE,aB,aC,aQ,aH,aG,aF])
    have hk:=HK.out (w1.heap.size+1) (w1.heap.size+1+1) (w1.heap.size) _ ⟨_,((aD w1.heap.size w1).drew).trans gB,g2,g3,hgP,by omega,by omega,by omega,by omega,by omega,by omega,rfl⟩
    (try simp only[aE,aB,aC,aQ,aH,aG,aF]at hk)
    exact hk
   ·refine⟨_,rfl,rfl,fun K hK=>?_⟩
    (try simp only[aE,aB,aC])
    go_simp;have hS2:=(show((w1.drew.alloc (.cells bV 83)).alloc (.cells (madeCells #[.bool false] n) 4)).cell? ⟨w.heap.size,0,none⟩=some (.int .i64 mode)/\((w1.drew.alloc (.cells bV 83)).alloc (.cells (madeCells #[.bool false] n) 4)).cell? ⟨w.heap.size,1,none⟩=some (.int .i64 (n:Int))from⟨(((((aD w1.heap.size w1).drew).alloc (by simp) (.cells bV 83)).alloc (by simp) (.cells (madeCells #[.bool false] n) 4)).cell (p:=⟨w.heap.size,0,none⟩) hXl).trans y0,(((((aD w1.heap.size w1).drew).alloc (by simp) (.cells bV 83)).alloc (by simp) (.cells (madeCells #[.bool false] n) 4)).cell (p:=⟨w.heap.size,1,none⟩) hXl).trans y1⟩);refine hK.out _ _ hS2 ?_;clear hK K hS;have hS:=hS2;clear hS2
    (try simp only[aE,aB,aC,aQ,aH,aG,aF])
    refine cK (i:=4) (fun K hK=>?_)
    (try simp only[aE,aB,aC])
    go_simp;have hS2:=(show(((w1.drew.alloc (.cells bV 83)).alloc (.cells (madeCells #[.bool false] n) 4)).alloc (.cells (zeroS n) 115)).cell? ⟨w.heap.size,0,none⟩=some (.int .i64 mode)/\(((w1.drew.alloc (.cells bV 83)).alloc (.cells (madeCells #[.bool false] n) 4)).alloc (.cells (zeroS n) 115)).cell? ⟨w.heap.size,1,none⟩=some (.int .i64 (n:Int))from⟨((((((aD w1.heap.size w1).drew).alloc (by simp) (.cells bV 83)).alloc (by simp) (.cells (madeCells #[.bool false] n) 4)).alloc (by simp;omega) (.cells (zeroS n) 115)).cell (p:=⟨w.heap.size,0,none⟩) hXl).trans y0,((((((aD w1.heap.size w1).drew).alloc (by simp) (.cells bV 83)).alloc (by simp) (.cells (madeCells #[.bool false] n) 4)).alloc (by simp;omega) (.cells (zeroS n) 115)).cell (p:=⟨w.heap.size,1,none⟩) hXl).trans y1⟩);refine hK.out _ _ hS2 ?_;clear hK K hS;have hS:=hS2;clear hS2
    (try simp only[aE,aB,aC,aQ,aH,aG,aF])
    refine iS (i:=5) [9] (v:=?vtpbs5) rfl (by kernel_rfl) (by kernel_rfl) (by kernel_rfl) (by kernel_rfl) (fun _ _ _ h=>h) (Or.inl ⟨by rfl,?ytpbs5⟩) hS ?rtpbs5
    case ytpbs5=>(intro w hSw;(try dsimp only at hSw);(try simp only[aE,aB,aC]);go_simp;try with_reducible rfl)
    (try simp only[aE,aB,aC,aQ,aH,aG,aF])
    refine iI (i:=9) (v:= .agg (gH mode (.slice (some ⟨w1.heap.size+1+1,0,none⟩) n n) (.slice (some ⟨w1.heap.size+1,0,none⟩) n n)).toArray) rfl (by kernel_rfl) (by kernel_rfl) (by kernel_rfl) (by kernel_rfl) (fun _ _ _ h=>h) (Or.inl ⟨by rfl,?yupbs9⟩) hS ?rupbs9
    case yupbs9=>exact fun w _=>pK rfl rfl rfl rfl w
    (try simp only[aE,aB,aC,aQ,aH,aG,aF])
    refine bY (fun K hK=>?_)
    (try simp only[aE,aB,aC])
    obtain⟨g1,g2,g3,gB⟩:=pJ w1.drew bV (madeCells #[.bool false] n) (zeroS n) 83 4 115;have hgP:((((w1.drew.alloc (.cells bV 83)).alloc (.cells (madeCells #[.bool false] n) 4)).alloc (.cells (zeroS n) 115))).heap[w1.heap.size]? =some (.cells bV 83):=g1;refine wp_store_row 83 _ _ rfl (w1.heap.size) (gH mode (.slice (some ⟨w1.heap.size+1+1,0,none⟩) n n) (.slice (some ⟨w1.heap.size+1,0,none⟩) n n)).toArray rfl rfl 83 bV hgP pL rfl (pM mode _ _ n) ?_;refine hK.out _ _ ?_;clear hK K
    (try simp only[aE,aB,aC,aQ,aH,aG,aF])
    have hk:=HK.out (w1.heap.size+1+1) (w1.heap.size+1) (w1.heap.size) _ ⟨_,((aD w1.heap.size w1).drew).trans gB,g3,g2,hgP,by omega,by omega,by omega,by omega,by omega,by omega,rfl⟩
    (try simp only[aE,aB,aC,aQ,aH,aG,aF]at hk)
    exact hk
theorem dA0 (mode srv:Int)(v:Value)(l:List Act)(w:World)(hl:ALst w w.heap.size v l)(hE:eL mode srv l≠0):
  Calls Tryz.prog 7 #[.agg #[.int .i64 mode,.int .i64 srv],v] w fun e w'=>e= .returned (.tuple #[.agg #[.slice none 0 0,.slice none 0 0,.slice none 0 0],.int .i64 (eL mode srv l)])/\Below w.heap.size w w':=by
 have n0:=((aD w.heap.size w).alloc (aI _) (.cells #[.int .i64 mode,.int .i64 srv] 23)).alloc (by simp) (.cells #[.slice none 0 0,.slice none 0 0,.slice none 0 0] 29);have X1:=(RowTo.whole w #[.int .i64 mode,.int .i64 srv] 23).alloc (.cells #[.slice none 0 0,.slice none 0 0,.slice none 0 0] 29);have X2:=RowTo.whole (w.alloc (.cells #[.int .i64 mode,.int .i64 srv] 23)) #[.slice none 0 0,.slice none 0 0,.slice none 0 0] 29;simp only[World.size_alloc]at X2;obtain⟨x0,x1⟩:=bR X1;have HCR:=aA (xAi mode srv v l _ (hl.step n0));obtain⟨A,cA,rfl,hcA⟩:=hl.form;have HX:=aA X2;have HN0:=aA n0;obtain⟨er,HER⟩: ∃e,Hid (eL mode srv l=e):=⟨_,aA rfl⟩;rw[HER.out]at HCR hE ⊢;have hne:(er !=(0:Int))=true:=eP.2 hE;clear hl hE n0 X1 X2;go_enter Tryz.func7,Tryz.ntmps7;go_wp2_with fail;refine HCR.out.mono ?_;rintro e w1 ⟨rfl,hb1⟩;have hX2:=HX.out.below hb1 HX.out.lt;have hbw:=aR HN0.out hb1 HN0.out.size;obtain⟨y0,y1,y2⟩:=bA hX2;have z0:=hX2.frozen 0;have z1:=hX2.frozen 1;have z2:=hX2.frozen 2;have hRl:=hX2.lt;have hBf:=((hbw.setCell (p:=⟨w.heap.size+1,0,none⟩) (by show w.heap.size<=w.heap.size+1;omega) (.slice none 0 0)).setCell (p:=⟨w.heap.size+1,1,none⟩) (by show w.heap.size<=w.heap.size+1;omega) (.slice none 0 0)).setCell (p:=⟨w.heap.size+1,2,none⟩) (by show w.heap.size<=w.heap.size+1;omega) (.slice none 0 0);have hRf:=((hX2.put (j:=0) (by simp) (.slice none 0 0)).put (j:=1) (by simp) (.slice none 0 0)).put (j:=2) (by simp) (.slice none 0 0);have HF:=aA (aJ hBf hRf);clear hBf hRf hX2 hbw hb1 HCR HX HN0 x0 x1;go_wp2;obtain⟨hBB,hRow⟩:=HF.out;obtain⟨t0,t1,t2⟩:=bA hRow;generalize((w1.setCell ⟨w.heap.size+1,0,none⟩ (.slice none 0 0)).setCell ⟨w.heap.size+1,1,none⟩ (.slice none 0 0)).setCell ⟨w.heap.size+1,2,none⟩ (.slice none 0 0)=WF at*;refine bE (v:= .tuple #[.agg #[.slice none 0 0,.slice none 0 0,.slice none 0 0],.int .i64 er]) (by simp[results,Tryz.results7,go_sem,t0,t1,t2]) rfl ⟨rfl,hBB⟩
end Go.Proofs.YtpbaobmegomfpabGreatDoor

/-
  Texts of the proof.
-/
import Derived.Test.YtpbaobmegomfpabGreatDoorG16
set_option linter.unusedVariables false
set_option linter.unusedSimpArgs false
set_option maxRecDepth 100000
set_option maxHeartbeats 16000000
open List renaming getElem_cons_zero→aB,getElem_cons_succ→aC,getElem?_eq_some_iff→fN,length_append→eN,length_set→fI
open Nat renaming le_refl→aI,lt_of_lt_of_le→bD,le_trans→bL,zero_add→cW
open Go.Lib renaming hid→aA
open Go.RowKit.Below renaming refl→aD,heap_setCell→bF,setCell→dT,alloc→dU
open Go.World renaming cell?_of_block→aV,setCell→cE
open And renaming intro→aJ
open Go renaming bodyPost_ret→bE,below_drewN→aZ
namespace Go.Proofs.YtpbaobmegomfpabGreatDoor
open Go.RowKit
theorem xAj {lo hi lim k:Nat}{s:ByteArray}(h: ∀j (hj:j<s.size),j<k->lo<=s[j].toNat/\s[j].toNat<=hi)(hk:s.size<=k):
  eC lo hi lim s=iJ 1 s.size lim:=by
 by_cases h1:1<=s.size/\s.size<=lim
 ·rw[yP h1.1 h1.2 (fun j hj=>h j hj (by omega)),rN (by omega)]
 ·rw[uX (by omega),uY (by omega)]
theorem xAk: ∀{l:List UInt8} {k:Nat} (hk:k<l.length),l[k]=32->(∀j (hj:j<l.length),j<k->l[j]≠32)->eV l=k
 |[],k,hk,_,_=>by simp at hk
 |c::l,0,_,h,_=>by simp only[aB]at h;unfold eV;rw[h];rfl
 |c::l,k+1,hk,h,hn=>by
  have h0:=hn 0 (by simp) (by omega);simp only[aB]at h0;unfold eV;rw[if_neg (by simpa using h0),xAk (k:=k) (by simpa using hk) (by simpa using h) (fun j hj hjk=>hn (j+1) (by simpa using hj) (by omega))]
theorem xAl: ∀{l:List UInt8},(∀j (hj:j<l.length),l[j]≠32)->eV l=l.length
 |[],_=>rfl
 |c::l,hn=>by
  have h0:=hn 0 (by simp);simp only[aB]at h0;unfold eV;rw[if_neg (by simpa using h0),xAl (fun j hj=>hn (j+1) (by simpa using hj))];rfl
theorem dA1 {s:ByteArray}{k:Nat}(hk:k<s.size)(h:s[k]=32)(hn: ∀j (hj:j<s.size),j<k->s[j]≠32):fD s=k:=
 xAk (by simpa using hk) h (fun j hj=>hn j (by simpa using hj))
theorem dA2 {s:ByteArray}(hn: ∀j (hj:j<s.size),s[j]≠32):fD s=s.size:=by
 unfold fD;rw[xAl (fun j hj=>hn j (by simpa using hj))];simp
def lN (k:Nat)(s:ByteArray):Nat:=if aU s<k then aU s else 0
theorem dA3 {k:Nat}{s:ByteArray}(h:aU s=k):lN (k+1) s=k:=by unfold lN;rw[if_pos (by omega),h]
theorem dA4 {k:Nat}{s:ByteArray}(h:aU s≠k):lN (k+1) s=lN k s:=by
 unfold lN
 by_cases h1:aU s<k
 ·rw[if_pos h1,if_pos (by omega)]
 ·rw[if_neg h1,if_neg (by omega)]
theorem dA5 (s:ByteArray):lN 1 s=0:=by
 unfold lN;split<;>omega
theorem dA6 (s:ByteArray):lN 12 s=aU s:=by
 unfold lN;rw[if_pos (by have:=rQ s;omega)]
theorem xAm {s:ByteArray}{k:Nat}(h1:1<=k)(h2:k<=11):aU s=k ↔ gD k=s.data.toList:=
 ⟨fun h=>by rw[<-h];exact qA (by omega),fun h=>yR h1 h2 h⟩
section
variable {w w':World}{g t n B:Nat}{xs:List Value}
end
theorem Lst.flat_cells {w:World}{B n c:Nat}{ad:Addr}{l:PL}(h:Lst w B (.slice (some ad) n c) l): ∀j u,(bO l)[j]? =some u->w.cell? (ad.add j)=some u:=by
 intro j u hj;have hlt:j<(bO l).length:=(fN.1 hj).1;rw[fE]at hlt;obtain⟨b,off,e,_,c0,c1⟩:=h.pt (k:=j/2) (by omega);injection e with e;subst e;rw[Addr.add_lit];rcases Nat.mod_two_eq_zero_or_one j with h2|h2
 ·have h3:j/2*2=j:=by omega
  have h4:=rX l (j/2) (by omega);rw[h3]at h4 c0;rw[c0,<-h4,hj]
 ·have h3:j/2*2+1=j:=by omega
  have h4:=rY l (j/2) (by omega);rw[Nat.add_assoc,h3]at c1;rw[h3]at h4;rw[c1,<-h4,hj]
theorem xAn {w:World}{base base' e size n:Nat}{v:Value}{xs:List Value}(h:w.ownsRow base e size v n xs)(hb:base'<=base):w.ownsRow base' e size v n xs:=by
 obtain⟨h1,h2|⟨g,cap,cur,hv,hg,r⟩⟩:=h
 ·exact⟨h1,.inl h2⟩
 ·exact⟨h1,.inr ⟨g,cap,cur,hv,bL hb hg,r⟩⟩
theorem kP {w:World}{base t:Nat}{v:Value}{l:PL}(h:w.ownsRow base t 2 v l.length (bO l))(hby:l.length*32<=140737488351232)(hs: ∀p∈l,p.1.size<=140737488351232/\p.2.size<=140737488351232):Lst w w.heap.size v l:=by
 obtain⟨hl,h1|⟨g,cap,cur,hv,hg,hh,hc,hm,hz,hx⟩⟩:=h
 ·obtain⟨hv,hn⟩:=h1;subst hv;exact⟨⟨none,0,by rw[hn],by omega⟩,hby,hs,fun h=>by omega,fun n c h=>by injection h with _ _ h;exact h.symm⟩
 ·subst hv;have hr:RowTo w g t (cap*2) (bO l):=⟨cur,hh,hz,by rw[fE];exact hx⟩;exact hr.lst hc hr.lt hby hs
theorem pN (w:World)(a b:ByteArray)(t:TypeId): ∀j u,([.string a,.string b]:List Value)[j]? =some u->(w.alloc (.cells #[.string a,.string b] t)).cell? ((⟨w.heap.size,0,none⟩:Addr).add j)=some u:=by
 intro j u h;rw[Addr.add_lit,cW,World.cell?_alloc_at _ _ _ _ rfl]
 simpa using h
theorem pO {B:Nat}{w wr w1:World}{o:Obj}{e:TypeId}{s n:Nat}{v:Value}{xs:List Value}(hb:Below B w wr)(hg:(wr.alloc o).grownBy w1 v.ownBlock)(hw:wr.ownsRow B e s v n xs)(hB:B<=w.heap.size:=by exact aI _):Below B w w1:=by
 have h1:=hb.alloc (bL hB hb.size) o;refine h1.grown hg (by have:=h1.size;omega) (fun k hk=>(hw.lt k hk).1)
section
variable {l out:PL}{key val:ByteArray}{k:Nat}{p:ByteArray×ByteArray}{r:PL}
theorem dA7 (h:out++eG key val false (l.drop k)=bI l key val)(hd:l.drop k=p::r)(hq:bP p.1 key=false)(he:bN p.1 key=false):out++[(key,val)]++[p]++eG key val true r=bI l key val:=by
 rw[<-h,hd,eG,hq,he];simp
theorem dA8 (h:out++eG key val false (l.drop k)=bI l key val)(hd:l.drop k=p::r)(hq:bP p.1 key=false)(he:bN p.1 key=true):out++[(key,val)]++eG key val true r=bI l key val:=by
 rw[<-h,hd,eG,hq,he];simp
theorem dA9 (h:out++eG key val false (l.drop k)=bI l key val)(hd:l.drop k=p::r)(hq:bP p.1 key=true):out++[p]++eG key val false r=bI l key val:=by
 rw[<-h,hd,eG,hq,fF.2 (hU hq)];simp
theorem dAa (h:out++eG key val true (l.drop k)=bI l key val)(hd:l.drop k=p::r)(he:bN p.1 key=false):out++[p]++eG key val true r=bI l key val:=by
 rw[<-h,hd,eG,he];simp
theorem dAb (h:out++eG key val true (l.drop k)=bI l key val)(hd:l.drop k=p::r)(he:bN p.1 key=true):out++eG key val true r=bI l key val:=by
 rw[<-h,hd,eG,he];simp
theorem dAc (h:out++eG key val false (l.drop k)=bI l key val)(hd:l.drop k=[]):out++[(key,val)]=bI l key val:=by
 rw[<-h,hd,eG];rfl
theorem dAd (h:out++eG key val true (l.drop k)=bI l key val)(hd:l.drop k=[]):out=bI l key val:=by
 rw[<-h,hd,eG];simp
end
def dAe (w:World)(l:PL)(key val:ByteArray)(n:Nat)(v:Value)(d:Bool)(wr:World):Prop:=
 ∃out,out++eG key val d (l.drop n)=bI l key val/\out.length<=n+d.toNat/\wr.ownsRow w.heap.size 60 2 v out.length (bO out)/\Below w.heap.size w wr
theorem pP (v:Value)(l:PL)(key val:ByteArray)(w:World)(hl:Lst w w.heap.size v l):
  Calls Tryz.prog 124 #[v,.string key,.string val] w fun e w'=> ∃v',e= .returned v'/\w'.ownsRow w.heap.size 60 2 v' (bI l key val).length (bO (bI l key val))/\Below w.heap.size w w':=by
 obtain⟨A,c,rfl,hc⟩:=hl.form;have hby:=hl.bytes;have HL:=aA hl;clear hl;obtain⟨i0,hi,hz0,hz1,hz2⟩:=info_parts qI;have HI:=aA (aJ hi (aJ hz0 (aJ hz1 hz2)));clear hi hz0 hz1 hz2;go_enter Tryz.func124,Tryz.ntmps124;go_wp2
 go_loopw [7,8,9] (fun o d i wr=> ∃(k:Nat) (b:Bool),k<=l.length/\i= .int .i64 k/\d= .bool b/\dAe w l key val k o b wr) (fun _ _ i _=>l.length-(intOf i).toNat)
 case atStart=>exact⟨0,false,by omega,rfl,rfl,[],rfl,by simp,World.ownsRow_nil _ _ _ _,aD _ _⟩
 case round=>
  obtain⟨k,d,hk,rfl,rfl,out,hout,hol,hown,bel⟩:=hrel
  by_cases hlt:k<l.length
  ·obtain⟨b,off,rfl,hb,c0,c1⟩:=HL.out.pt hlt;have d0:=(bel.cell (p:=⟨b,off+k*2,none⟩) hb).trans c0;have d1:=(bel.cell (p:=⟨b,off+k*2+1,none⟩) hb).trans c1;have hbw:b<wr.heap.size:=bD hb bel.size;have HO:=aA hout;have HW:=aA hown;have HB:=aA bel;clear hout hown bel;have HD:=aA (List.drop_eq_getElem_cons hlt);have hsz:=HB.out.size
   cases d<;>simp only[Bool.toNat_false,Bool.toNat_true]at hol
   ·cases hq:bP l[k].1 key
    ·have hge:binOp .geq 9 (.string l[k].1) (.string key)=pure (.bool true):=by unfold bP at hq;simp[binOp,Op.stringOp,hq]
     cases he:bN l[k].1 key
     ·have HP:=aA (dA7 HO.out HD.out hq he);unfold bN at he;clear hq;go_wp2_with (first|(at_builtin;refine wpList_append_own_at _ rfl _ _ 27 rfl w.heap.size 60 i0 _ 2 32 Tryz.underlying27 HI.out.1 HI.out.2.1 HI.out.2.2.1 HI.out.2.2.2 rfl (by decide) _ _ _ rfl (HW1.out.alloc _) ⟨w1.heap.size,0,none⟩ 1 1 [.string l[k].1,.string l[k].2] rfl rfl (pN _ _ _ _) (lY _ _) (by unfold maxLen;omega) (by omega) (by simp;omega) ?_;intro v2 w2 ho2 hg2 _ _)|(at_builtin;refine wpList_append_own_at _ rfl _ _ 27 rfl w.heap.size 60 i0 _ 2 32 Tryz.underlying27 HI.out.1 HI.out.2.1 HI.out.2.2.1 HI.out.2.2.2 rfl (by decide) _ _ _ rfl (HW.out.alloc _) ⟨wr.heap.size,0,none⟩ 1 1 [.string key,.string val] rfl rfl (pN _ _ _ _) (lY _ _) (by unfold maxLen;omega) (by omega) (by simp;omega) ?_;intro v1 w1 ho1 hg1 _ _;have HW1:=aA ho1;have HB1:=aA (pO HB.out hg1 HW.out);have hsz1:=HB1.out.size;have e0:=(HB1.out.cell (p:=⟨b,off+k*2,none⟩) hb).trans c0;have e1:=(HB1.out.cell (p:=⟨b,off+k*2+1,none⟩) hb).trans c1;have hbw1:b<w1.heap.size:=bD hb hsz1))
      go_roundw
      case rel=>exact⟨k+1,true,by omega,by go_num,rfl,out++[(key,val)]++[l[k]],HP.out,by simp[Bool.toNat];omega,by have:=ho2;rw[kW,kW,eN,eN];exact this,pO HB1.out hg2 HW1.out⟩
      case measure=>simp[intOf];omega
     ·have HP:=aA (dA8 HO.out HD.out hq he);unfold bN at he;clear hq;go_wp2_with (at_builtin;refine wpList_append_own_at _ rfl _ _ 27 rfl w.heap.size 60 i0 _ 2 32 Tryz.underlying27 HI.out.1 HI.out.2.1 HI.out.2.2.1 HI.out.2.2.2 rfl (by decide) _ _ _ rfl (HW.out.alloc _) ⟨wr.heap.size,0,none⟩ 1 1 [.string key,.string val] rfl rfl (pN _ _ _ _) (lY _ _) (by unfold maxLen;omega) (by omega) (by simp;omega) ?_;intro v1 w1 ho1 hg1 _ _;have HW1:=aA ho1;have HB1:=aA (pO HB.out hg1 HW.out);have hsz1:=HB1.out.size;have e0:=(HB1.out.cell (p:=⟨b,off+k*2,none⟩) hb).trans c0;have e1:=(HB1.out.cell (p:=⟨b,off+k*2+1,none⟩) hb).trans c1;have hbw1:b<w1.heap.size:=bD hb hsz1);go_roundw
      case rel=>exact⟨k+1,true,by omega,by go_num,rfl,out++[(key,val)],HP.out,by simp[Bool.toNat];omega,by have:=ho1;rw[kW,eN];exact this,HB1.out⟩
      case measure=>simp[intOf];omega
    ·have hge:binOp .geq 9 (.string l[k].1) (.string key)=pure (.bool false):=(by unfold bP at hq;simp[binOp,Op.stringOp,hq]);have he:bN l[k].1 key=false:=fF.2 (hU hq);have HP:=aA (dA9 HO.out HD.out hq);unfold bN at he;clear hq;go_wp2_with (at_builtin;refine wpList_append_own_at _ rfl _ _ 27 rfl w.heap.size 60 i0 _ 2 32 Tryz.underlying27 HI.out.1 HI.out.2.1 HI.out.2.2.1 HI.out.2.2.2 rfl (by decide) _ _ _ rfl (HW.out.alloc _) ⟨wr.heap.size,0,none⟩ 1 1 [.string l[k].1,.string l[k].2] rfl rfl (pN _ _ _ _) (lY _ _) (by unfold maxLen;omega) (by omega) (by simp;omega) ?_;intro v2 w2 ho2 hg2 _ _);go_roundw
     case rel=>exact⟨k+1,false,by omega,by go_num,rfl,out++[l[k]],HP.out,by simp[Bool.toNat];omega,by have:=ho2;rw[kW,eN];exact this,pO HB.out hg2 HW.out⟩
     case measure=>simp[intOf];omega
   ·cases he:bN l[k].1 key
    ·have HP:=aA (dAa HO.out HD.out he);unfold bN at he;go_wp2_with (at_builtin;refine wpList_append_own_at _ rfl _ _ 27 rfl w.heap.size 60 i0 _ 2 32 Tryz.underlying27 HI.out.1 HI.out.2.1 HI.out.2.2.1 HI.out.2.2.2 rfl (by decide) _ _ _ rfl (HW.out.alloc _) ⟨wr.heap.size,0,none⟩ 1 1 [.string l[k].1,.string l[k].2] rfl rfl (pN _ _ _ _) (lY _ _) (by unfold maxLen;omega) (by omega) (by simp;omega) ?_;intro v2 w2 ho2 hg2 _ _);go_roundw
     case rel=>exact⟨k+1,true,by omega,by go_num,rfl,out++[l[k]],HP.out,by simp[Bool.toNat];omega,by have:=ho2;rw[kW,eN];exact this,pO HB.out hg2 HW.out⟩
     case measure=>simp[intOf];omega
    ·have HP:=aA (dAb HO.out HD.out he);unfold bN at he;go_wp2;go_roundw
     case rel=>exact⟨k+1,true,by omega,by go_num,rfl,out,HP.out,by simp only[Bool.toNat_true];omega,HW.out,HB.out⟩
     case measure=>simp[intOf];omega
  ·have hnil:l.drop k=[]:=List.drop_eq_nil_of_le (by omega);have HN:=aA hnil;have HO:=aA hout;have HW:=aA hown;have HB:=aA bel;have hsz:=bel.size;clear hout hown bel hnil
   cases d<;>simp only[Bool.toNat_false,Bool.toNat_true]at hol
   ·have HE:=aA (dAc HO.out HN.out);go_wp2_with (at_builtin;refine wpList_append_own_at _ rfl _ _ 27 rfl w.heap.size 60 i0 _ 2 32 Tryz.underlying27 HI.out.1 HI.out.2.1 HI.out.2.2.1 HI.out.2.2.2 rfl (by decide) _ _ _ rfl (HW.out.alloc _) ⟨wr.heap.size,0,none⟩ 1 1 [.string key,.string val] rfl rfl (pN _ _ _ _) (lY _ _) (by unfold maxLen;omega) (by omega) (by simp;omega) ?_;intro v1 w1 ho1 hg1 _ _);go_ret;refine⟨_,rfl,?_,pO HB.out hg1 HW.out⟩;rw[<-HE.out,kW,eN];exact ho1
   ·have HE:=aA (dAd HO.out HN.out);go_wp2;go_ret;refine⟨_,rfl,?_,HB.out⟩;rw[<-HE.out];exact HW.out
theorem xV (v:Value)(l:PL)(w:World)(hl:Lst w w.heap.size v l):
  Calls Tryz.prog 33 #[v] w fun e w'=> ∃v',e= .returned v'/\w'.ownsRow w.heap.size 60 2 v' l.length (bO l)/\Below w.heap.size w w':=by
 obtain⟨A,c,rfl,hc⟩:=hl.form;have hby:=hl.bytes;obtain⟨i0,hi,hz0,hz1,hz2⟩:=info_parts qI;have HI:=aA (aJ hi (aJ hz0 (aJ hz1 hz2)));clear hi hz0 hz1 hz2;have hn:Hid (w.ownsRow w.heap.size 60 2 (.slice none 0 0) 0 []):=World.ownsRow_nil _ _ _ _
 cases A with
 |none=>
  have h0:l.length=0:=by
   by_cases h:0<l.length
   ·obtain⟨b,off,c',e,_⟩:=hl.cells h
    cases e
   ·omega
  have hl0:l=[]:=List.length_eq_zero_iff.1 h0;obtain rfl:c=0:=hl.nil _ _ rfl;subst hl0;clear hl h0;go_enter Tryz.func33,Tryz.ntmps33;go_wp2_with (at_builtin;refine wpList_append_own_none rfl _ _ 27 rfl w.heap.size 60 i0 2 Tryz.underlying27 HI.out.1 _ _ _ rfl hn.out rfl ?_);go_ret;exact⟨_,rfl,World.ownsRow_nil _ _ _ _,aD _ _⟩
 |some ad=>
  have HL:=aA hl;have HF:=aA (fE l);clear hl;go_enter Tryz.func33,Tryz.ntmps33;go_wp2_with (at_builtin;refine wpList_append_own_at _ rfl _ _ 27 rfl w.heap.size 60 i0 _ 2 32 Tryz.underlying27 HI.out.1 HI.out.2.1 HI.out.2.2.1 HI.out.2.2.2 rfl (by decide) _ _ _ rfl hn.out ad l.length c (bO l) rfl HF.out HL.out.flat_cells (vL l) (by unfold maxLen;omega) (by omega) (aI _) ?_;intro v1 w1 ho1 hg1 _ _);go_ret;rw[cW,List.nil_append]at ho1;exact⟨_,rfl,ho1,(aD _ _).grown hg1 (aI _) (fun k hk=>by cases hk)⟩
def uA (o:Option ByteArray):Value:=match o with|some v=> .tuple #[.string v,.bool true]|none=> .tuple #[.string ⟨#[]⟩,.bool false]
theorem dAf {l:PL}{k:ByteArray}{i:Nat}(hi:i<l.length)(h:bN l[i].1 k=true)(hn: ∀j (hj:j<l.length),j<i->bN l[j].1 k=false):aX l k=some l[i].2:=by
 induction l generalizing i with
 |nil=>simp at hi
 |cons p l ih=>
  cases i with
  |zero=>simp only[aB]at h ⊢;unfold aX;rw[if_pos h]
  |succ i=>
   have h0:=hn 0 (by simp) (by omega);simp only[aB]at h0;unfold aX;rw[h0,if_neg (by simp)];exact ih (by simpa using hi) (by simpa using h) (fun j hj hji=>hn (j+1) (by simpa using hj) (by omega))
theorem dAg {l:PL}{k:ByteArray}(hn: ∀j (hj:j<l.length),bN l[j].1 k=false):aX l k=none:=by
 induction l with
 |nil=>rfl
 |cons p l ih=>
  have h0:=hn 0 (by simp);simp only[aB]at h0;unfold aX;rw[h0,if_neg (by simp)];exact ih (fun j hj=>hn (j+1) (by simpa using hj))
theorem jG (v:Value)(l:PL)(key:ByteArray)(w:World)(B:Nat)(hl:Lst w B v l):
  Calls Tryz.prog 125 #[v,.string key] w fun e w'=>e= .returned (uA (aX l key))/\w=w':=by
 obtain⟨A,c,rfl,hc⟩:=hl.form;have hby:=hl.bytes;have HL:=aA hl;clear hl;go_enter Tryz.func125,Tryz.ntmps125;go_wp2
 go_loop [6] (fun i=> ∃k:Nat,k<=l.length/\i= .int .i64 k/\Hid (∀j (hj:j<l.length),j<k->bN l[j].1 key=false)) (fun i=>l.length-(intOf i).toNat)
 case atStart=>exact⟨0,by omega,rfl,fun j hj h=>by omega⟩
 case round=>
  obtain⟨k,hk,rfl,hall⟩:=hrel
  by_cases hlt:k<l.length
  ·obtain⟨b,off,rfl,hb,c0,c1⟩:=HL.out.pt hlt;go_wp2
   ·have h:(l[k].1.toList==key.toList)=true:=(by assumption);have hf:=dAf hlt h (fun j hj hjk=>hall.out j hj hjk)
    go_ret2
    exact⟨by rw[hf];rfl,rfl⟩
   ·have h:(l[k].1.toList==key.toList)=false:=by assumption
    go_round
    case rel=>
     refine⟨k+1,by omega,by go_num,fun j hj hjk=>?_⟩
     by_cases e:j=k
     ·subst e;exact h
     ·exact hall.out j hj (by omega)
    case measure=>simp[intOf];omega
  ·have hk:=aA (dAg (fun j hj=>hall.out j hj (by omega)));go_wp2
   go_ret2
   exact⟨by rw[hk.out];rfl,rfl⟩
theorem uB (r s:Value)(W:Wd)(me:Int)(key:ByteArray)(w:World)(hW:Wld w w.heap.size r s W):
  Calls Tryz.prog 127 #[.agg #[r,s],.int .i64 me,.string key] w fun e w'=>e= .returned (.bool (eI W.ss me key))/\Below w.heap.size w w':=by
 obtain⟨hr,hs⟩:=hW;obtain⟨A,c,rfl,hc⟩:=hs.form;obtain⟨D,d,rfl,hd⟩:=hr.form;have hby:=hs.bytes;have HS:=aA hs;clear hs hr;have b0:Below w.heap.size w (w.alloc (.cells #[.slice D W.rows.length d,.slice A W.ss.length c] 39)):=(aD _ _).alloc (aI _) _;go_enter Tryz.func127,Tryz.ntmps127;go_wp2
 go_loop [7] (fun i=> ∃k:Nat,k<=W.ss.length/\i= .int .i64 k/\Hid (∀j (hj:j<W.ss.length),j<k->(aX W.ss[j].wr key).isSome=true->(j:Int)=me)) (fun i=>W.ss.length-(intOf i).toNat)
 case atStart=>exact⟨0,by omega,rfl,fun j hj h=>by omega⟩
 case round=>
  obtain⟨k,hk,rfl,hall⟩:=hrel
  by_cases hlt:k<W.ss.length
  ·obtain⟨b,off,v1,v2,v3,v4,rfl,hb,hses⟩:=HS.out.pt hlt;have l4:=hses.l4;obtain⟨A4,c4,rfl,_⟩:=l4.form;have c4':=hses.c4;have HL:=aA l4;clear l4 hses;go_wp2_with fail;refine(jG _ _ key _ _ (HL.out.step b0)).mono ?_
   cases ha:aX W.ss[k].wr key with
   |none=>
    rintro e w1 ⟨rfl,rfl⟩;unfold uA;have HA:=aA ha;clear ha;go_wp2
    go_round
    case rel=>
     refine⟨k+1,by omega,by go_num,fun j hj hjk hs=>?_⟩
     by_cases e:j=k
     ·subst e;rw[HA.out]at hs;cases hs
     ·exact hall.out j hj (by omega) hs
    case measure=>simp[intOf];omega
   |some x=>
    rintro e w1 ⟨rfl,rfl⟩;unfold uA;have HA:=aA ha;clear ha
    by_cases hme:(k:Int)=me
    ·have h1:((k:Int) !=me)=false:=(by simp[hme]);have HM:=aA hme;clear hme;go_wp2
     go_round
     case rel=>
      refine⟨k+1,by omega,by go_num,fun j hj hjk hs=>?_⟩
      by_cases e:j=k
      ·subst e;exact HM.out
      ·exact hall.out j hj (by omega) hs
     case measure=>simp[intOf];omega
    ·have h1:((k:Int) !=me)=true:=eP.2 hme;have HP:=aA (kX (me:=me) (key:=key) hlt (by rw[HA.out];rfl) hme);clear hme;go_wp2;go_ret;exact⟨by rw[HP.out];rfl,b0⟩
  ·have HP:=aA (sI (fun j hj=>hall.out j hj (by omega)));go_wp2;go_ret;exact⟨by rw[HP.out];rfl,b0⟩
def xAo (w:World)(W:Wd)(rest:PL)(cnt:Nat)(v:Value)(wr:World):Prop:=
 ∃out,iN out rest=aW W/\out.length<=100+cnt/\(∀p∈out,p.1.size<=140737488351232/\p.2.size<=140737488351232)/\wr.ownsRow w.heap.size 60 2 v out.length (bO out)/\Below w.heap.size w wr
theorem pQ (r s:Value)(W:Wd)(w:World)(hW:Wld w w.heap.size r s W)(hr100:W.rows.length<=100)(h8:W.ss.length<=8)(hw100: ∀i (hi:i<W.ss.length),W.ss[i].wr.length<=100):
  Calls Tryz.prog 128 #[.agg #[r,s]] w fun e w'=> ∃v',e= .returned v'/\w'.ownsRow w.heap.size 60 2 v' (aW W).length (bO (aW W))/\Below w.heap.size w w':=by
 obtain⟨hr,hs⟩:=hW;obtain⟨A,c,rfl,hc⟩:=hs.form;obtain⟨D,d,rfl,hd⟩:=hr.form;have hby:=hs.bytes;have HS:=aA hs;have HR:=aA hr;have HN:=aA hw100;clear hs hr hw100;have b0:Below w.heap.size w (w.alloc (.cells #[.slice D W.rows.length d,.slice A W.ss.length c] 39)):=(aD _ _).alloc (aI _) _;have HX:=aA (RowTo.whole w #[.slice D W.rows.length d,.slice A W.ss.length c] 39);go_enter Tryz.func128,Tryz.ntmps128;go_wp2_with fail;refine(xV _ W.rows _ (HR.out.step b0)).mono ?_;rintro e w1 ⟨v1,rfl,ho1,hb1⟩;have HX1:=aA (HX.out.below hb1 HX.out.lt);have hown0:Hid (w1.ownsRow w.heap.size 60 2 v1 W.rows.length (bO W.rows)):=xAn ho1 (by simp);have bel1:=aA (aR b0 hb1 b0.size);clear ho1 hb1;go_wp2
 go_loopw [3,4] (fun o i wr=> ∃k:Nat,k<=W.ss.length/\i= .int .i64 k/\nP w (.slice D W.rows.length d) (.slice A W.ss.length c) wr/\xAo w W (jC W.ss k) (k*100) o wr) (fun _ i _=>W.ss.length-(intOf i).toNat)
 case atStart=>exact⟨0,by omega,rfl,HX1.out,W.rows,rfl,by omega,HR.out.sizes,hown0.out,bel1.out⟩
 case round=>
  clear hown0 bel1 HX1 HX b0;obtain⟨i,hi,rfl,hbox,out,hout,hol,hosz,hown,bel⟩:=hrel;have x0:=hbox.cell (j:=0) (by simp);have x1:=hbox.cell (j:=1) (by simp);simp only[aB,aC]at x0 x1;have hxl:=hbox.lt
  by_cases hlt:i<W.ss.length
  ·obtain⟨b,off,v1,v2,v3,v4,rfl,hb,hses⟩:=HS.out.pt hlt;have l4:=hses.l4;obtain⟨A4,c4,rfl,_⟩:=l4.form;have c4':=hses.c4;have h100:=HN.out i hlt;have hb4:=l4.bytes;have HL:=aA l4;have HO:=aA (show iN out (W.ss[i].wr.drop 0++jC W.ss (i+1))=aW W by rw[List.drop_zero,<-wH hlt];exact hout);have HZ:=aA hosz;have HW:=aA hown;have HB:=aA bel;have HX:=aA hbox;clear l4 hses hout hosz hown bel hbox;generalize hsk:W.ss[i].wr=l at*;have HK:=aA hsk;clear hsk;go_wp2
   go_loopw [3,5] (fun o j wr=> ∃k:Nat,k<=l.length/\j= .int .i64 k/\nP w (.slice D W.rows.length d) (.slice (some ⟨b,off,none⟩) W.ss.length c) wr/\xAo w W (l.drop k++jC W.ss (i+1)) (i*100+k) o wr) (fun _ j _=>l.length-(intOf j).toNat)
   case atStart=>exact⟨0,by omega,rfl,HX.out,out,HO.out,by omega,HZ.out,HW.out,HB.out⟩
   case round=>
    clear HX HW HB HO HZ x0 x1 hxl hol;obtain⟨k,hk,rfl,hbox,out,hout,hol,hosz,hown,bel⟩:=hrel;have x0:=hbox.cell (j:=0) (by simp);have x1:=hbox.cell (j:=1) (by simp);simp only[aB,aC]at x0 x1;have hxl:=hbox.lt;have y4:=(bel.cell (p:=⟨b,off+i*5+4,none⟩) hb).trans c4'
    by_cases hlk:k<l.length
    ·obtain⟨b',off',rfl,hb',d0,d1⟩:=HL.out.pt hlk;have z0:=(bel.cell (p:=⟨b',off'+k*2,none⟩) hb').trans d0;obtain⟨zk,_⟩:=HL.out.key hlk;have HD:=aA (show iN (bI out l[k].1 ⟨#[]⟩) (l.drop (k+1)++jC W.ss (i+1))=aW W by rw[<-hout,List.drop_eq_getElem_cons hlk];rfl);have hpl:=kY out l[k].1 ⟨#[]⟩;have HM:=aA (fun q (hq:q∈bI out l[k].1 ⟨#[]⟩)=>mP hq);have HZ:=aA hosz;have HX:=aA hbox;have HB:=aA bel;have HW:=aA (kP hown (by omega) hosz);clear hout hosz hown bel hbox;go_wp2_with fail;refine(pP _ out l[k].1 _ _ HW.out).mono ?_;rintro e w2 ⟨v2,rfl,ho2,hb2⟩;have HW2:=aA (xAn ho2 HB.out.size);have HB2:=aA (aR HB.out hb2 HB.out.size);have HX2:=aA (HX.out.below hb2 HX.out.lt);clear ho2 hb2;go_wp2;go_roundw
     case rel=>
      refine⟨k+1,by omega,by go_num,HX2.out,bI out l[k].1 ⟨#[]⟩,HD.out,by omega,fun q hq=>?_,HW2.out,HB2.out⟩;rcases HM.out q hq with rfl|hq
      ·exact⟨zk,Nat.zero_le _⟩
      ·exact HZ.out q hq
     case measure=>simp[intOf];omega
    ·have HD:=aA (show iN out (jC W.ss (i+1))=aW W by rw[<-hout,List.drop_eq_nil_of_le (by omega)];rfl);have HZ:=aA hosz;have HX:=aA hbox;have HB:=aA bel;have HW:=aA hown;clear hout hosz hown bel hbox;go_wp2;go_roundw
     case rel=>exact⟨i+1,by omega,by go_num,HX.out,out,HD.out,by omega,HZ.out,HW.out,HB.out⟩
     case measure=>simp[intOf];omega
  ·have HD:=aA (show out=aW W by rw[<-hout,kAc (by omega)];rfl);have HB:=aA bel;have HW:=aA hown;clear hout hosz hown bel hbox;go_wp2;go_ret;exact⟨_,rfl,by rw[<-HD.out];exact HW.out,HB.out⟩
theorem uC (n a b:Int)(w:World):
  Calls Tryz.prog 28 #[.int .i64 n,.int .i64 a,.int .i64 b] w fun e w'=>e= .returned (.bool (iJ a n b))/\w=w':=by
 by_cases h1:a<=n
 ·go_enter Tryz.func28,Tryz.ntmps28;go_wp2;go_ret;exact⟨by simp[iJ,h1],rfl⟩
 ·go_enter Tryz.func28,Tryz.ntmps28;go_wp2;go_ret;exact⟨by simp[iJ];omega,rfl⟩
theorem dO (n a b:Int)(w:World)(h:a<=n/\n<=b):
  Calls Tryz.prog 28 #[.int .i64 n,.int .i64 a,.int .i64 b] w fun e w'=>e= .returned (.bool true)/\w=w':=
 (uC n a b w).mono fun _ _ ⟨he,hw⟩=>⟨by rw[he,rN h],hw⟩
theorem qZ (n a b:Int)(w:World)(h: ¬(a<=n/\n<=b)):
  Calls Tryz.prog 28 #[.int .i64 n,.int .i64 a,.int .i64 b] w fun e w'=>e= .returned (.bool false)/\w=w':=
 (uC n a b w).mono fun _ _ ⟨he,hw⟩=>⟨by rw[he,uY h],hw⟩
theorem nE (s:ByteArray)(w:World)(hs:s.size<=maxLen):
  Calls Tryz.prog 82 #[.string s] w fun e w'=>e= .returned (.bool (eC 97 122 8 s))/\w=w':=by
 unfold maxLen at hs;go_enter Tryz.func82,Tryz.ntmps82;go_wp2
 go_loop [3] (fun c=> ∃k:Nat,k<=s.size/\c= .int .i64 k/\Hid (∀j (hj:j<s.size),j<k->97<=s[j].toNat/\s[j].toNat<=122)) (fun c=>s.size-(intOf c).toNat)
 case atStart=>exact⟨0,Nat.zero_le _,rfl,fun _ _ h=>absurd h (Nat.not_lt_zero _)⟩
 case round=>
  obtain⟨k,hk,rfl,hall⟩:=hrel
  by_cases hlt:k<s.size
  ·have hby:s[k].toNat<256:=s[k].toNat_lt
   by_cases g:97<=s[k].toNat/\s[k].toNat<=122
   ·obtain⟨g1,g2⟩:=g;go_wp2_with (go_at_call 28;refine(dO _ _ _ _ (by omega)).mono ?_;rintro e w' ⟨rfl,rfl⟩)
    go_round
    case rel=>
     refine⟨k+1,by omega,by go_num,fun j hj hjk=>?_⟩
     by_cases e:j=k
     ·subst e;omega
     ·exact hall.out j hj (by omega)
    case measure=>simp[intOf];omega
   ·have hb:=aA (rM (lo:=97) (hi:=122) (lim:=8) hlt (by omega));have hg:=aA g;clear g;go_wp2_with (go_at_call 28;refine(qZ _ _ _ _ (by have:=hg.out;omega)).mono ?_;rintro e w' ⟨rfl,rfl⟩);go_ret;exact⟨by rw[hb.out];rfl,rfl⟩
  ·have hb:Hid (eC 97 122 8 s=iJ 1 s.size 8):=xAj hall.out (by omega);go_wp2_with (go_at_call 28;refine(uC _ _ _ _).mono ?_;rintro e w' ⟨rfl,rfl⟩);go_ret;exact⟨by rw[hb.out];rfl,rfl⟩
theorem dAh (s:ByteArray)(w:World)(hs:s.size<=maxLen):
  Calls Tryz.prog 83 #[.string s] w fun e w'=>e= .returned (.bool (eC 33 126 20 s))/\w=w':=by
 unfold maxLen at hs;go_enter Tryz.func83,Tryz.ntmps83;go_wp2
 go_loop [3] (fun c=> ∃k:Nat,k<=s.size/\c= .int .i64 k/\Hid (∀j (hj:j<s.size),j<k->33<=s[j].toNat/\s[j].toNat<=126)) (fun c=>s.size-(intOf c).toNat)
 case atStart=>exact⟨0,Nat.zero_le _,rfl,fun _ _ h=>absurd h (Nat.not_lt_zero _)⟩
 case round=>
  obtain⟨k,hk,rfl,hall⟩:=hrel
  by_cases hlt:k<s.size
  ·have hby:s[k].toNat<256:=s[k].toNat_lt
   by_cases g:33<=s[k].toNat/\s[k].toNat<=126
   ·obtain⟨g1,g2⟩:=g;go_wp2_with (go_at_call 28;refine(dO _ _ _ _ (by omega)).mono ?_;rintro e w' ⟨rfl,rfl⟩)
    go_round
    case rel=>
     refine⟨k+1,by omega,by go_num,fun j hj hjk=>?_⟩
     by_cases e:j=k
     ·subst e;omega
     ·exact hall.out j hj (by omega)
    case measure=>simp[intOf];omega
   ·have hb:=aA (rM (lo:=33) (hi:=126) (lim:=20) hlt (by omega));have hg:=aA g;clear g;go_wp2_with (go_at_call 28;refine(qZ _ _ _ _ (by have:=hg.out;omega)).mono ?_;rintro e w' ⟨rfl,rfl⟩);go_ret;exact⟨by rw[hb.out];rfl,rfl⟩
  ·have hb:Hid (eC 33 126 20 s=iJ 1 s.size 20):=xAj hall.out (by omega);go_wp2_with (go_at_call 28;refine(uC _ _ _ _).mono ?_;rintro e w' ⟨rfl,rfl⟩);go_ret;exact⟨by rw[hb.out];rfl,rfl⟩
theorem rC (s:ByteArray)(w:World)(hs:s.size<=maxLen):
  Calls Tryz.prog 55 #[.string s] w fun e w'=>e= .returned (.tuple #[.string (aK s),.string (cutB s),.bool (dK s)])/\ ∃n,w'=w.drewN n:=by
 unfold maxLen at hs;go_enter Tryz.func55,Tryz.ntmps55;go_wp2
 go_loop [5] (fun c=> ∃k:Nat,k<=s.size/\c= .int .i64 k/\Hid (∀j (hj:j<s.size),j<k->s[j]≠32)) (fun c=>s.size-(intOf c).toNat)
 case atStart=>exact⟨0,Nat.zero_le _,rfl,fun _ _ h=>absurd h (Nat.not_lt_zero _)⟩
 case round=>
  obtain⟨k,hk,rfl,hall⟩:=hrel
  by_cases hlt:k<s.size
  ·have hby:s[k].toNat<256:=s[k].toNat_lt
   by_cases g:s[k]=32
   ·have hI:=dA1 hlt g hall.out;have hA:=aA (show aK s=s.extract 0 k by unfold aK;rw[hI]);have hB:=aA (show cutB s=s.extract (k+1) s.size by unfold cutB;rw[hI]);have hF:=aA (show dK s=true by unfold dK;rw[hI];exact cF hlt);have hg:((s[k].toNat:Int)==32)=true:=(by rw[g];rfl);clear hI g;have c1:(0:Int)<=(k:Int):=(by omega);have c2:(k:Int)<=(s.size:Int):=(by omega);have c3:(0:Int)<=(k:Int)+1:=(by omega);have c4:(k:Int)+1<=(s.size:Int):=(by omega);have c5:IntKind.i64.wrap ((k:Int)+1)=(k:Int)+1:=IntWalk.i64_in _ (by omega);have c6:((k:Int)+1).toNat=k+1:=(by omega);go_wp2
    go_quiet (fail)
    go_wp2
    go_ret3
    exact⟨by rw[hA.out,hB.out,hF.out];rfl,nq,rfl⟩
   ·have hg:((s[k].toNat:Int)==32)=false:=by
     rw[beq_eq_false_iff_ne];intro e;apply g;apply UInt8.toNat_inj.1;show s[k].toNat=32;omega
    have hG:=aA g;clear g;go_wp2
    go_round
    case rel=>
     refine⟨k+1,by omega,by go_num,fun j hj hjk=>?_⟩
     by_cases e:j=k
     ·subst e;exact hG.out
     ·exact hall.out j hj (by omega)
    case measure=>simp[intOf];omega
  ·have he:fD s=s.size:=dA2 (fun j hj=>hall.out j hj (by omega));have hA:=aA (uZ he);have hB:=aA (rP he);have hF:=aA (show dK s=false by unfold dK;rw[he];simp);clear he;go_wp2
   go_ret3
   exact⟨by rw[hA.out,hB.out,hF.out];rfl,0,rfl⟩
theorem Stm.set0 {w:World}{b:Nat}{k k':Int}{x y:ByteArray}(h:Stm w b k x y):Stm (w.setCell ⟨b,0,none⟩ (.int .i64 k')) b k' x y:=by
 obtain⟨lt,c0,c1,c2,fz⟩:=h;refine⟨by simpa using lt,?_,?_,?_,fun i=>?_⟩
 ·simp[go_sem,c0]
 ·simp[go_sem,c1]
 ·simp[go_sem,c2]
 ·simp[go_sem,fz]
theorem Stm.set12 {w:World}{b:Nat}{k:Int}{x y x' y':ByteArray}(h:Stm w b k x y):Stm ((w.setCell ⟨b,1,none⟩ (.string x')).setCell ⟨b,2,none⟩ (.string y')) b k x' y':=by
 obtain⟨lt,c0,c1,c2,fz⟩:=h;refine⟨by simpa using lt,?_,?_,?_,fun i=>?_⟩
 ·simp[go_sem,c0]
 ·simp[go_sem,c1]
 ·simp[go_sem,c2]
 ·simp[go_sem,fz]
theorem xAp (k:Nat)(w:World)(h1:1<=k)(h2:k<=11):
  Calls Tryz.prog 56 #[.int .i64 k] w fun e w'=>e= .returned (.string (gS k))/\Below w.heap.size w w':=by
 obtain rfl|rfl|rfl|rfl|rfl|rfl|rfl|rfl|rfl|rfl|rfl:k=1\/k=2\/k=3\/k=4\/k=5\/k=6\/k=7\/k=8\/k=9\/k=10\/k=11:=by omega
 all_goals
  go_enter Tryz.func56,Tryz.ntmps56;go_wp2;go_ret;exact⟨rfl,(aD _ _).alloc (aI _) _⟩
structure xW (t:ByteArray):Prop where
 ok:dI t=0-> ∀w:World,Calls Tryz.prog 31 #[.string t] w fun e w'=>e= .returned (.tuple #[.agg #[.int .i64 (aU (aK t)),.string (aK (cutB t)),.string (cutB (cutB t))],.int .i64 0])/\Below w.heap.size w w'
 no:dI t≠0-> ∀w:World,Calls Tryz.prog 31 #[.string t] w fun e w'=>e= .returned (.tuple #[.agg #[.int .i64 0,.string ⟨#[]⟩,.string ⟨#[]⟩],.int .i64 (dI t)])/\Below w.heap.size w w'
def nF (k:Int)(key v:ByteArray):Prop:= ∀w:World,Calls Tryz.prog 57 #[.agg #[.int .i64 k,.string key,.string v]] w fun e w'=>e= .returned (.int .i64 (bZ k key v))/\Below w.heap.size w w'
theorem dAi (k:Int)(key v:ByteArray)(h:k<1\/11<k):nF k key v:=by
 intro w;rw[vG h];go_enter Tryz.func57,Tryz.ntmps57;go_wp2_with fail;refine(qZ _ _ _ _ (by omega)).mono ?_;rintro e w1 ⟨rfl,rfl⟩;go_wp2;go_ret;exact⟨rfl,(aD _ _).alloc (aI _) _⟩
theorem dAj (k:Int)(key v:ByteArray)(h1:1<=k)(h2:k<6):nF k key v:=by
 intro w;have hkb:iT k key=key.toList.isEmpty:=rT (by omega);have hvb:fP k v=v.toList.isEmpty:=by unfold fP;rw[if_neg (by omega)];exact qB (by omega)
 have hk: ¬(k<1\/11<k):=by omega
 cases e1:key.toList.isEmpty
 ·rw[qC hk (hkb.trans e1)];clear hkb hvb hk;go_enter Tryz.func57,Tryz.ntmps57;go_wp2_with fail;refine(dO _ _ _ _ (by omega)).mono ?_;rintro e w1 ⟨rfl,rfl⟩;go_wp2;go_ret;exact⟨rfl,(aD _ _).alloc (aI _) _⟩
 ·cases e2:v.toList.isEmpty
  all_goals
   first|rw[lT hk (hvb.trans e2)]|rw[mL hk (hkb.trans e1) (hvb.trans e2)]
   clear hkb hvb hk;go_enter Tryz.func57,Tryz.ntmps57;go_wp2_with fail;refine(dO _ _ _ _ (by omega)).mono ?_;rintro e w1 ⟨rfl,rfl⟩;go_wp2;go_ret;exact⟨rfl,(aD _ _).alloc (aI _) _⟩
theorem dAk (k:Int)(key v:ByteArray)(hs:key.size<=maxLen)(h1:6<=k)(h2:k<=11)(h:eC 97 122 8 key=false):nF k key v:=by
 intro w;rw[qC (by omega) ((mK ⟨h1,h2⟩).trans h)];have H:=aA h;clear h;go_enter Tryz.func57,Tryz.ntmps57;go_wp2_with fail;refine(dO _ _ _ _ (by omega)).mono ?_;rintro e w1 ⟨rfl,rfl⟩;go_wp2_with fail;refine(nE key _ hs).mono ?_;rw[H.out];rintro e w2 ⟨rfl,rfl⟩;go_wp2;go_ret;exact⟨rfl,(aD _ _).alloc (aI _) _⟩
theorem dAl (k:Int)(key v:ByteArray)(hs:key.size<=maxLen)(hk:k=6\/k=7\/k=8)(h:eC 97 122 8 key=true):nF k key v:=by
 intro w;have hkb:iT k key=true:=(mK (by omega)).trans h;have hvb:fP k v=v.toList.isEmpty:=by unfold fP;rw[if_neg (by omega)];exact qB (by omega)
 have hn: ¬(k<1\/11<k):=by omega
 have H:=aA h;clear h
 cases e2:v.toList.isEmpty
 all_goals
  first|rw[lT hn (hvb.trans e2)]|rw[mL hn hkb (hvb.trans e2)]
  clear hkb hvb hn;rcases hk with rfl|rfl|rfl
  all_goals
   go_enter Tryz.func57,Tryz.ntmps57;go_wp2_with fail;refine(dO _ _ _ _ (by omega)).mono ?_;rintro e w1 ⟨rfl,rfl⟩;go_wp2_with fail;refine(nE key _ hs).mono ?_;rw[H.out];rintro e w2 ⟨rfl,rfl⟩;go_wp2;go_ret;exact⟨rfl,(aD _ _).alloc (aI _) _⟩
theorem dAm (k:Int)(key v:ByteArray)(hs:key.size<=maxLen)(hv:v.size<=maxLen)(hk:k=9\/k=10)(h:eC 97 122 8 key=true):nF k key v:=by
 intro w;have hkb:iT k key=true:=(mK (by omega)).trans h;have hvb:fP k v=eC 33 126 20 v:=by unfold fP;rw[if_neg (by omega)];exact vF hk
 have hn: ¬(k<1\/11<k):=by omega
 have H:=aA h;clear h
 cases e2:eC 33 126 20 v
 all_goals
  first|rw[lT hn (hvb.trans e2)]|rw[mL hn hkb (hvb.trans e2)]
  clear hkb hvb hn;have E2:=aA e2;clear e2;rcases hk with rfl|rfl
  all_goals
   go_enter Tryz.func57,Tryz.ntmps57;go_wp2_with fail;refine(dO _ _ _ _ (by omega)).mono ?_;rintro e w1 ⟨rfl,rfl⟩;go_wp2_with fail;refine(nE key _ hs).mono ?_;rw[H.out];rintro e w2 ⟨rfl,rfl⟩;go_wp2_with fail;refine(dAh v _ hv).mono ?_;rw[E2.out];rintro e w3 ⟨rfl,rfl⟩;go_wp2;go_ret;exact⟨rfl,(aD _ _).alloc (aI _) _⟩
theorem dAn (key v:ByteArray)(hs:key.size<=maxLen)(hO:xW v)(h:eC 97 122 8 key=true):nF 11 key v:=by
 intro w;have hkb:iT 11 key=true:=(mK (by omega)).trans h;have hvb:fP 11 v=gY v:=rfl;have hn: ¬((11:Int)<1\/11<(11:Int)):=by omega
 have H:=aA h;clear h;rw[vI]at hvb
 by_cases hr:dI v=0
 ·have hO1:=aA (hO.ok hr);clear hO;rw[cF hr,Bool.true_and]at hvb;generalize aK (cutB v)=key2 at*;generalize cutB (cutB v)=v2 at*;generalize aU (aK v)=k2 at*
  by_cases hk:k2=6\/k2=7\/k2=10
  ·rw[mL hn hkb (by rw[hvb];exact cF hk)];clear hkb hvb hn hr;rcases hk with rfl|rfl|rfl
   ·go_enter Tryz.func57,Tryz.ntmps57;go_wp2_with fail;refine(dO _ _ _ _ (by omega)).mono ?_;rintro e w1 ⟨rfl,rfl⟩;go_wp2_with fail;refine(nE key _ hs).mono ?_;rw[H.out];rintro e w2 ⟨rfl,rfl⟩;go_wp2_with fail;refine(hO1.out _).mono ?_;rintro e w3 ⟨rfl,hb⟩;go_wp2_with fail;refine(dO _ _ _ _ (by omega)).mono ?_;rintro e w4 ⟨rfl,rfl⟩;go_wp2;go_ret;exact⟨rfl,(bU ((aD _ _).alloc (aI _) _) hb).alloc (bU ((aD _ _).alloc (aI _) _) hb).size _⟩
   ·go_enter Tryz.func57,Tryz.ntmps57;go_wp2_with fail;refine(dO _ _ _ _ (by omega)).mono ?_;rintro e w1 ⟨rfl,rfl⟩;go_wp2_with fail;refine(nE key _ hs).mono ?_;rw[H.out];rintro e w2 ⟨rfl,rfl⟩;go_wp2_with fail;refine(hO1.out _).mono ?_;rintro e w3 ⟨rfl,hb⟩;go_wp2_with fail;refine(dO _ _ _ _ (by omega)).mono ?_;rintro e w4 ⟨rfl,rfl⟩;go_wp2;go_ret;exact⟨rfl,(bU ((aD _ _).alloc (aI _) _) hb).alloc (bU ((aD _ _).alloc (aI _) _) hb).size _⟩
   ·go_enter Tryz.func57,Tryz.ntmps57;go_wp2_with fail;refine(dO _ _ _ _ (by omega)).mono ?_;rintro e w1 ⟨rfl,rfl⟩;go_wp2_with fail;refine(nE key _ hs).mono ?_;rw[H.out];rintro e w2 ⟨rfl,rfl⟩;go_wp2_with fail;refine(hO1.out _).mono ?_;rintro e w3 ⟨rfl,hb⟩;go_wp2_with fail;refine(qZ _ _ _ _ (by omega)).mono ?_;rintro e w4 ⟨rfl,rfl⟩;go_wp2;go_ret;exact⟨rfl,(bU ((aD _ _).alloc (aI _) _) hb).alloc (bU ((aD _ _).alloc (aI _) _) hb).size _⟩
  ·rw[lT hn (by rw[hvb];exact aY hk)];clear hkb hvb hn hr;have h10:((k2:Int) !=10)=true:=eP.2 (by omega);have HK:=aA hk;clear hk
   ·go_enter Tryz.func57,Tryz.ntmps57;go_wp2_with fail;refine(dO _ _ _ _ (by omega)).mono ?_;rintro e w1 ⟨rfl,rfl⟩;go_wp2_with fail;refine(nE key _ hs).mono ?_;rw[H.out];rintro e w2 ⟨rfl,rfl⟩;go_wp2_with fail;refine(hO1.out _).mono ?_;rintro e w3 ⟨rfl,hb⟩;go_wp2_with fail;refine(qZ _ _ _ _ (by have:=HK.out;omega)).mono ?_;rintro e w4 ⟨rfl,rfl⟩;go_wp2;go_ret;exact⟨rfl,(bU ((aD _ _).alloc (aI _) _) hb).alloc (bU ((aD _ _).alloc (aI _) _) hb).size _⟩
 ·have hO1:=aA (hO.no hr);clear hO;rw[aY hr,Bool.false_and]at hvb;rw[lT hn hvb];clear hkb hvb hn;have hne:(dI v !=0)=true:=eP.2 hr;generalize dI v=e0 at*;clear hr
  ·go_enter Tryz.func57,Tryz.ntmps57;go_wp2_with fail;refine(dO _ _ _ _ (by omega)).mono ?_;rintro e w1 ⟨rfl,rfl⟩;go_wp2_with fail;refine(nE key _ hs).mono ?_;rw[H.out];rintro e w2 ⟨rfl,rfl⟩;go_wp2_with fail;refine(hO1.out _).mono ?_;rintro e w3 ⟨rfl,hb⟩;go_wp2;go_ret;exact⟨rfl,(bU ((aD _ _).alloc (aI _) _) hb).alloc (bU ((aD _ _).alloc (aI _) _) hb).size _⟩
theorem dAo (k:Int)(key v:ByteArray)(hs:key.size<=maxLen)(hv:v.size<=maxLen)(hO:xW v):nF k key v:=by
 by_cases h:k<1\/11<k
 ·exact dAi k key v h
 ·by_cases h6:k<6
  ·exact dAj k key v (by omega) h6
  ·cases hn:eC 97 122 8 key
   ·exact dAk k key v hs (by omega) (by omega) hn
   ·by_cases h8:k<=8
    ·exact dAl k key v hs (by omega) hn
    ·by_cases h10:k<=10
     ·exact dAm k key v hs hv (by omega) hn
     ·obtain rfl:k=11:=(by omega);exact dAn key v hs hO hn
theorem dAp (t:ByteArray)(h:60<t.size)(w:World):
  Calls Tryz.prog 31 #[.string t] w fun e w'=>e= .returned (.tuple #[.agg #[.int .i64 0,.string ⟨#[]⟩,.string ⟨#[]⟩],.int .i64 1])/\Below w.heap.size w w':=by
 have hd:decide (60<(t.size:Int))=true:=cF (by omega);go_enter Tryz.func31,Tryz.ntmps31;go_wp2;refine bE (v:= .tuple #[.agg #[.int .i64 0,.string ⟨#[]⟩,.string ⟨#[]⟩],.int .i64 1]) (by simp[results,Tryz.results31,go_sem]) rfl ⟨rfl,?_⟩
 repeat' (first|exact aD _ _|assumption|with_reducible refine aZ ?_ _|with_reducible refine Below.drew ?_|with_reducible refine dT ?_ ?_ _|with_reducible refine dU ?_ ?_ _|(simp;done)|(simp;omega))
structure dAq (w wr:World)(word:ByteArray)(k:Nat):Prop where
 bel:Below w.heap.size w wr
 res:Stm wr w.heap.size 0 ⟨#[]⟩ ⟨#[]⟩
 st:Stm wr (w.heap.size+1) (lN k word) ⟨#[]⟩ ⟨#[]⟩
def nG (t:ByteArray):Value:=if dI t=0 then .tuple #[.agg #[.int .i64 (aU (aK t)),.string (aK (cutB t)),.string (cutB (cutB t))],.int .i64 0]else .tuple #[.agg #[.int .i64 0,.string ⟨#[]⟩,.string ⟨#[]⟩],.int .i64 (dI t)]
theorem rD {t:ByteArray}(h:dI t=0):nG t= .tuple #[.agg #[.int .i64 (aU (aK t)),.string (aK (cutB t)),.string (cutB (cutB t))],.int .i64 0]:=by unfold nG;rw[if_pos h]
theorem pR {t:ByteArray}(h:dI t≠0):nG t= .tuple #[.agg #[.int .i64 0,.string ⟨#[]⟩,.string ⟨#[]⟩],.int .i64 (dI t)]:=by unfold nG;rw[if_neg h]
theorem xAq {t:ByteArray}(h: ¬60<t.size)(hk:aU (aK t)≠0)(hb:gL t=true):nG t= .tuple #[.agg #[.int .i64 0,.string ⟨#[]⟩,.string ⟨#[]⟩],.int .i64 4]:=by
 have e:dI t=4:=by rw[oI h (by rw[vC hk hb];decide),vC hk hb]
 rw[pR (by rw[e];decide),e]
theorem xAr (t:ByteArray)(h:t.size<=60)(hF:dV t=0->nF (aU (aK t)) (aK (cutB t)) (cutB (cutB t)))(w:World):
  Calls Tryz.prog 31 #[.string t] w fun e w'=>e= .returned (nG t)/\Below w.heap.size w w':=by
 have hd:decide (60<(t.size:Int))=false:=aY (by omega);have hs2:(cutB t).size<=maxLen:=by rw[iO];unfold maxLen;omega
 have HF:=aA hF;clear hF;go_enter Tryz.func31,Tryz.ntmps31;go_wp2_with fail;refine(rC t _ (by unfold maxLen;omega)).mono ?_;rintro e w1 ⟨rfl,n,rfl⟩;go_wp2
 go_loopw [8] (fun c wr=> ∃k:Nat,1<=k/\k<=12/\c= .int .i64 k/\dAq w wr (aK t) k) (fun c _=>12-(intOf c).toNat)
 case atStart=>
  refine⟨1,by omega,by omega,rfl,?_,?_,?_⟩
  ·repeat' (first|exact aD _ _|assumption|with_reducible refine aZ ?_ _|with_reducible refine Below.drew ?_|with_reducible refine dT ?_ ?_ _|with_reducible refine dU ?_ ?_ _|(simp;done)|(simp;omega))
  ·exact((Stm.new w 0 _ _ _).below (aZ (aD _ _) n)).below ((aD _ _).alloc (aI _) _)
  ·rw[dA5];have:=Stm.new ((w.alloc (Obj.cells #[.int .i64 0,.string ⟨#[]⟩,.string ⟨#[]⟩] 41)).drewN n) 0 ⟨#[]⟩ ⟨#[]⟩ 41
   simpa using this
 case round=>
  obtain⟨k,hk1,hk2,rfl,hS⟩:=hrel
  by_cases hlt:k<=11
  ·have HS:=aA hS;clear hS;have hwl:=aA (vA k)
   by_cases hit:aU (aK t)=k
   ·have hb:((gS k).toList==(aK t).toList)=true:=by
     rw[Lib.toList_data,Lib.toList_data,hwl.out,beq_iff_eq];exact(xAm hk1 hlt).1 hit
    have Hit:=aA hit;clear hit;go_wp2_with fail;refine(xAp k _ hk1 hlt).mono ?_;rintro e w2 ⟨rfl,hb2⟩;have hs2:=HS.out.st.below hb2;have c0:=hs2.c0;have f0:=hs2.fz 0;have HS2:=aA hs2;clear hs2;go_wp2;go_roundw
    case rel=>
     refine⟨k+1,by omega,by omega,by go_num,?_,?_,?_⟩
     ·exact(bU HS.out.bel hb2).setCell (by simp) _
     ·exact(HS.out.res.below hb2).other (by omega)
     ·rw[dA3 Hit.out];exact HS2.out.set0
    case measure=>simp[intOf];omega
   ·have hb:((gS k).toList==(aK t).toList)=false:=by
     rw[Lib.toList_data,Lib.toList_data,hwl.out,beq_eq_false_iff_ne];exact fun e=>hit ((xAm hk1 hlt).2 e)
    have Hit:=aA hit;clear hit;go_wp2_with fail;refine(xAp k _ hk1 hlt).mono ?_;rintro e w2 ⟨rfl,hb2⟩;go_wp2;go_roundw
    case rel=>
     refine⟨k+1,by omega,by omega,by go_num,?_,?_,?_⟩
     ·exact bU HS.out.bel hb2
     ·exact HS.out.res.below hb2
     ·rw[dA4 Hit.out];exact HS.out.st.below hb2
    case measure=>simp[intOf];omega
  ·obtain rfl:k=12:=by omega
   obtain⟨bel,res,st⟩:=hS;rw[dA6]at st;have HR:=aA res;have HT:=aA st;have r0:=res.c0;have r1:=res.c1;have r2:=res.c2;have rf:=res.fz;have s0:=st.c0;have s1:=st.c1;have s2:=st.c2;have sf:=st.fz;have sz:=st.lt;clear res st
   by_cases hk0:aU (aK t)=0
   ·have hv := aA (show nG t = .tuple #[.agg #[.int .i64 0, .string ⟨#[]⟩, .string ⟨#[]⟩], .int .i64 3] by
     unfold nG;have:dI t=3:=by rw[oI (by omega) (by rw[vB hk0];decide),vB hk0]
     rw [this, if_neg (by decide)])
    rw[hk0]at s0;go_wp2;refine bE (v:= .tuple #[.agg #[.int .i64 0,.string ⟨#[]⟩,.string ⟨#[]⟩],.int .i64 3]) (by simp[results,Tryz.results31,go_sem,r0,r1,r2]) rfl ⟨by rw[hv.out],?_⟩
    repeat' (first|exact aD _ _|assumption|with_reducible refine aZ ?_ _|with_reducible refine Below.drew ?_|with_reducible refine dT ?_ ?_ _|with_reducible refine dU ?_ ?_ _|(simp;done)|(simp;omega))
   ·have hk0':((aU (aK t):Int)==0)=false:=bJ.2 (by omega);have HK0:=aA hk0;clear hk0
    cases h1:dK t
    ·have hkey:=aA (yW h1);have hE:=vJ HK0.out (zA0 h1);have HRd:=aA (kU (t:=t) (by omega) hE);have HFa:=aA (HF.out hE);rw[hkey.out.1,hkey.out.2]at HRd HFa;clear hE HF;go_wp2_with fail;refine(HFa.out _).mono ?_;rintro e w4 ⟨rfl,hb4⟩;have st4:=(HT.out).below hb4;have re4:=(HR.out).below hb4;obtain⟨b4,z0,z1,z2,zf⟩:=st4;obtain⟨b5,q0,q1,q2,qf⟩:=re4;have bel4:Below w.heap.size w w4:=Below.trans (bel) (hb4.mono (by omega));clear hb4 r0 r1 r2 rf s0 s1 s2 sf
     by_cases hc:bZ (aU (aK t)) ⟨#[]⟩ ⟨#[]⟩=0
     ·have hv:=aA (rD (show dI t=0 by rw[HRd.out];exact hc));rw[hc];clear hc;go_wp2;refine bE (v:= .tuple #[.agg #[.int .i64 (aU (aK t)),.string ⟨#[]⟩,.string ⟨#[]⟩],.int .i64 0]) (by simp[results,Tryz.results31,go_sem,q0,q1,q2]) rfl ⟨by rw[hv.out,hkey.out.1,hkey.out.2],?_⟩
      repeat' (first|exact aD _ _|assumption|with_reducible refine aZ ?_ _|with_reducible refine Below.drew ?_|with_reducible refine dT ?_ ?_ _|with_reducible refine dU ?_ ?_ _|(simp;done)|(simp;omega))
     ·have hv:=aA (pR (show dI t≠0 by rw[HRd.out];exact hc));have hv2:=aA HRd.out;have hne:(bZ (aU (aK t)) ⟨#[]⟩ ⟨#[]⟩ !=0)=true:=eP.2 hc;generalize bZ (aU (aK t)) ⟨#[]⟩ ⟨#[]⟩=c at*;clear hc;go_wp2;refine bE (v:= .tuple #[.agg #[.int .i64 0,.string ⟨#[]⟩,.string ⟨#[]⟩],.int .i64 c]) (by simp[results,Tryz.results31,go_sem,q0,q1,q2]) rfl ⟨by rw[hv.out,hv2.out],?_⟩
      repeat' (first|exact aD _ _|assumption|with_reducible refine aZ ?_ _|with_reducible refine Below.drew ?_|with_reducible refine dT ?_ ?_ _|with_reducible refine dU ?_ ?_ _|(simp;done)|(simp;omega))

    ·cases h2:(aK (cutB t)).toList.isEmpty
     ·cases h3:dK (cutB t)
      ·have hE:=vJ HK0.out (show gL t=false by unfold gL;rw[h1,h2,h3];rfl);have HRd:=aA (kU (t:=t) (by omega) hE);have HFa:=aA (HF.out hE);clear hE HF;go_wp2_with fail;refine(rC (cutB t) _ hs2).mono ?_;rw[h3];rintro e w3 ⟨rfl,m,rfl⟩;go_wp2_with fail;refine(HFa.out _).mono ?_;rintro e w4 ⟨rfl,hb4⟩;have st4:=((HT.out.below (aZ (aD _ _) m)).set12).below hb4;have re4:=(((HR.out.below (aZ (aD _ _) m)).other (by omega)).other (by omega)).below hb4;obtain⟨b4,z0,z1,z2,zf⟩:=st4;obtain⟨b5,q0,q1,q2,qf⟩:=re4;have bel4:Below w.heap.size w w4:=Below.trans (((aZ bel m).setCell (by simp) _).setCell (by simp) _) (hb4.mono (by simp;omega));clear hb4 r0 r1 r2 rf s0 s1 s2 sf
       by_cases hc:bZ (aU (aK t)) (aK (cutB t)) (cutB (cutB t))=0
       ·have hv:=aA (rD (show dI t=0 by rw[HRd.out];exact hc));rw[hc];clear hc;go_wp2;refine bE (v:= .tuple #[.agg #[.int .i64 (aU (aK t)),.string (aK (cutB t)),.string (cutB (cutB t))],.int .i64 0]) (by simp[results,Tryz.results31,go_sem,q0,q1,q2]) rfl ⟨by rw[hv.out],?_⟩
        repeat' (first|exact aD _ _|assumption|with_reducible refine aZ ?_ _|with_reducible refine Below.drew ?_|with_reducible refine dT ?_ ?_ _|with_reducible refine dU ?_ ?_ _|(simp;done)|(simp;omega))
       ·have hv:=aA (pR (show dI t≠0 by rw[HRd.out];exact hc));have hv2:=aA HRd.out;have hne:(bZ (aU (aK t)) (aK (cutB t)) (cutB (cutB t)) !=0)=true:=eP.2 hc;generalize bZ (aU (aK t)) (aK (cutB t)) (cutB (cutB t))=c at*;clear hc;go_wp2;refine bE (v:= .tuple #[.agg #[.int .i64 0,.string ⟨#[]⟩,.string ⟨#[]⟩],.int .i64 c]) (by simp[results,Tryz.results31,go_sem,q0,q1,q2]) rfl ⟨by rw[hv.out,hv2.out],?_⟩
        repeat' (first|exact aD _ _|assumption|with_reducible refine aZ ?_ _|with_reducible refine Below.drew ?_|with_reducible refine dT ?_ ?_ _|with_reducible refine dU ?_ ?_ _|(simp;done)|(simp;omega))

      ·cases h4:(cutB (cutB t)).toList.isEmpty
       ·have hE:=vJ HK0.out (show gL t=false by unfold gL;rw[h1,h2,h3,h4];rfl);have HRd:=aA (kU (t:=t) (by omega) hE);have HFa:=aA (HF.out hE);clear hE HF;go_wp2_with fail;refine(rC (cutB t) _ hs2).mono ?_;rw[h3];rintro e w3 ⟨rfl,m,rfl⟩;go_wp2_with fail;refine(HFa.out _).mono ?_;rintro e w4 ⟨rfl,hb4⟩;have st4:=((HT.out.below (aZ (aD _ _) m)).set12).below hb4;have re4:=(((HR.out.below (aZ (aD _ _) m)).other (by omega)).other (by omega)).below hb4;obtain⟨b4,z0,z1,z2,zf⟩:=st4;obtain⟨b5,q0,q1,q2,qf⟩:=re4;have bel4:Below w.heap.size w w4:=Below.trans (((aZ bel m).setCell (by simp) _).setCell (by simp) _) (hb4.mono (by simp;omega));clear hb4 r0 r1 r2 rf s0 s1 s2 sf
        by_cases hc:bZ (aU (aK t)) (aK (cutB t)) (cutB (cutB t))=0
        ·have hv:=aA (rD (show dI t=0 by rw[HRd.out];exact hc));rw[hc];clear hc;go_wp2;refine bE (v:= .tuple #[.agg #[.int .i64 (aU (aK t)),.string (aK (cutB t)),.string (cutB (cutB t))],.int .i64 0]) (by simp[results,Tryz.results31,go_sem,q0,q1,q2]) rfl ⟨by rw[hv.out],?_⟩
         repeat' (first|exact aD _ _|assumption|with_reducible refine aZ ?_ _|with_reducible refine Below.drew ?_|with_reducible refine dT ?_ ?_ _|with_reducible refine dU ?_ ?_ _|(simp;done)|(simp;omega))
        ·have hv:=aA (pR (show dI t≠0 by rw[HRd.out];exact hc));have hv2:=aA HRd.out;have hne:(bZ (aU (aK t)) (aK (cutB t)) (cutB (cutB t)) !=0)=true:=eP.2 hc;generalize bZ (aU (aK t)) (aK (cutB t)) (cutB (cutB t))=c at*;clear hc;go_wp2;refine bE (v:= .tuple #[.agg #[.int .i64 0,.string ⟨#[]⟩,.string ⟨#[]⟩],.int .i64 c]) (by simp[results,Tryz.results31,go_sem,q0,q1,q2]) rfl ⟨by rw[hv.out,hv2.out],?_⟩
         repeat' (first|exact aD _ _|assumption|with_reducible refine aZ ?_ _|with_reducible refine Below.drew ?_|with_reducible refine dT ?_ ?_ _|with_reducible refine dU ?_ ?_ _|(simp;done)|(simp;omega))

       ·have hv:=aA (xAq (by omega) HK0.out (show gL t=true by unfold gL;rw[h1,h2,h3,h4];rfl));go_wp2_with fail;refine(rC (cutB t) _ hs2).mono ?_;rw[h3];rintro e w3 ⟨rfl,m,rfl⟩;go_wp2;refine bE (v:= .tuple #[.agg #[.int .i64 0,.string ⟨#[]⟩,.string ⟨#[]⟩],.int .i64 4]) (by simp[results,Tryz.results31,go_sem,r0,r1,r2]) rfl ⟨by rw[hv.out],?_⟩
        repeat' (first|exact aD _ _|assumption|with_reducible refine aZ ?_ _|with_reducible refine Below.drew ?_|with_reducible refine dT ?_ ?_ _|with_reducible refine dU ?_ ?_ _|(simp;done)|(simp;omega))

     ·have hv:=aA (xAq (by omega) HK0.out (show gL t=true by unfold gL;rw[h1,h2];rfl));go_wp2_with fail;refine(rC (cutB t) _ hs2).mono ?_;rintro e w3 ⟨rfl,m,rfl⟩;go_wp2;refine bE (v:= .tuple #[.agg #[.int .i64 0,.string ⟨#[]⟩,.string ⟨#[]⟩],.int .i64 4]) (by simp[results,Tryz.results31,go_sem,r0,r1,r2]) rfl ⟨by rw[hv.out],?_⟩
      repeat' (first|exact aD _ _|assumption|with_reducible refine aZ ?_ _|with_reducible refine Below.drew ?_|with_reducible refine dT ?_ ?_ _|with_reducible refine dU ?_ ?_ _|(simp;done)|(simp;omega))

theorem dAr: ∀k,k<=11->1<=k->1<=(gD k).length:=by decide
theorem xAs {t:ByteArray}(h:aU (aK t)≠0):1<=t.size:=by
 have h1:=qA (s:=aK t) (by omega);have h2:=dAr (aU (aK t)) (rQ _) (by omega);rw[h1]at h2;have h3:(aK t).data.toList.length=(aK t).size:=by simp
 have:=oH t;have:=kT t;omega
theorem xAt (n:Nat): ∀t:ByteArray,t.size<=n->xW t:=by
 induction n with
 |zero=>
  intro t ht;have h:=xAr t (by omega) (fun hE=>absurd (xAs (rR hE).1) (by omega));exact⟨fun hr w=>(h w).mono fun _ _ ⟨he,hb⟩=>⟨by rw[he,rD hr],hb⟩,fun hr w=>(h w).mono fun _ _ ⟨he,hb⟩=>⟨by rw[he,pR hr],hb⟩⟩
 |succ n ih=>
  intro t ht
  by_cases hl:60<t.size
  ·refine⟨fun hr=>?_,fun hr w=>?_⟩
   ·rw[lU hl]at hr;cases hr
   ·rw[lU hl];exact dAp t hl w
  ·have h := xAr t (by omega) (fun hE => by
    have h1:=xAs (rR hE).1;have h2:=iO t;have h3:=iO (cutB t);have h4:=oH (cutB t);have h5:=kT (cutB t)
    exact dAo _ _ _ (by unfold maxLen; omega) (by unfold maxLen; omega) (ih _ (by omega)))
   exact⟨fun hr w=>(h w).mono fun _ _ ⟨he,hb⟩=>⟨by rw[he,rD hr],hb⟩,fun hr w=>(h w).mono fun _ _ ⟨he,hb⟩=>⟨by rw[he,pR hr],hb⟩⟩
theorem xAu {w:World}{base t:Nat}{v:Value}{l:PL}(h:w.ownsRow base t 2 v l.length (bO l)):InP (fun b=>base<=b/\b<w.heap.size) v l:=fun hn b off n c e=>by
 obtain⟨hl,h1|⟨g,cap,cur,hv,hg,hh,_⟩⟩:=h
 ·rw[h1.1]at e;injection e with e;cases e
 ·rw[hv]at e;injection e with e;injection e with e;injection e with e;rw[<-e];exact⟨hg,(Array.getElem?_eq_some_iff.1 hh).1⟩
theorem pS {a x:ByteArray}(h:x.toList.isEmpty=true):a++x=a:=by
 rw[Lib.toList_data,List.isEmpty_iff]at h
 apply kS
 rw[ByteArray.data_append,Array.toList_append,h,List.append_nil]
end Go.Proofs.YtpbaobmegomfpabGreatDoor
namespace Go.Proofs.YtpbaobmegomfpabGreatDoor
open Go.RowKit Go.ChangeShapes Go.WideShapes Go.Deep Go.Joins
theorem xAv {H:Type}{P:Program}{e:TypeId}{d:DataW H}{n:Nat}: ∀{l:List (DataW H)},d∈l->n∈d.weights P e->n∈DataW.weightsAll P e l
 |x::l,hd,hn=>by
  simp only[DataW.weightsAll,List.mem_append];rcases List.mem_cons.1 hd with rfl|h
  ·exact .inl hn
  ·exact .inr (xAv h hn)
section
variable {H:Type}{enc:TypeId×Value->H}{w:World}{base:Nat}{spare:Nat->Bool}{held:Bool}
end
section
variable {H:Type}{enc:TypeId×Value->H}{w:World}{base:Nat}{spare:Nat->Bool}{held:Bool}
end
end Go.Proofs.YtpbaobmegomfpabGreatDoor
namespace Go.Proofs.YtpbaobmegomfpabGreatDoor
open Go Go.RowKit
theorem xAw {lo:Nat}{t u S n:Nat}{zc:Array Value}{x:Option Nat}{w w':World}{xs:List Value}(h:zs lo t zc x w)(hS:RowTo w S u n xs)(hu:u≠t)(hk: ∀b,b<w.heap.size->b≠S->w'.heap[b]? =w.heap[b]?):zs lo t zc x w':=fun b e=>by
 have:=h b e;refine⟨this.1,(hk b (Array.getElem?_eq_some_iff.1 this.2).1 fun hbS=>?_).trans this.2⟩;obtain⟨cur,hh,_⟩:=hS;rw[hbS,hh]at this;have e:=this.2;injection e with e;injection e with _ e _;exact hu e
section
variable {P:Program}{ops:Array Oper}{Q:Exit->Go.Act->World->Prop}{md:Region.Mode}{S:World->Prop}{z:Nat}
variable {C:Nat}{cop dst:Nat->Nat}{p q dp dq:Nat}{tp tq:TypeId}{zp zq:Array Value}{Lst:Nat->Bool->Bool->Array Bool}{Lst':Bool->Bool->Array Bool}
end
end Go.Proofs.YtpbaobmegomfpabGreatDoor
namespace Go.Proofs.YtpbaobmegomfpabGreatDoor
open Go.RowKit
theorem jH (n a b:Int)(w:World):Calls Tryz.prog 28 #[.int .i64 n,.int .i64 a,.int .i64 b] w fun e w'=>e= .returned (.bool (decide (a<=n)&&decide (n<=b)))/\w=w':=by
 by_cases h:a<=n
 ·have h1:decide (a<=n)=true:=cF h;go_enter Tryz.func28,Tryz.ntmps28;go_wp2;go_ret;exact⟨by rw[h1];simp,rfl⟩
 ·have h1:decide (a<=n)=false:=aY h;go_enter Tryz.func28,Tryz.ntmps28;go_wp2;go_ret;exact⟨rfl,rfl⟩
theorem xAx (m s:Int)(w:World):Calls Tryz.prog 27 #[.agg #[.int .i64 m,.int .i64 s]] w fun e w'=>e= .returned (.int .i64 (dY m s))/\Below w.heap.size w w':=by
 by_cases h1:1<=m/\m<=3
 ·have t1:(decide (1<=m)&&decide (m<=3))=true:=by simp[h1]
  by_cases h2:1<=s/\s<=4
  ·have t2:(decide (1<=s)&&decide (s<=4))=true:=by simp[h2]
   have HE:=aA (show dY m s=0 by unfold dY;rw[if_neg (by omega),if_neg (by omega)]);go_enter Tryz.func27,Tryz.ntmps27;go_wp2_with fail;refine(jH m 1 3 _).mono ?_;rw[t1];rintro e w1 ⟨rfl,rfl⟩;go_wp2_with fail;refine(jH s 1 4 _).mono ?_;rw[t2];rintro e w1 ⟨rfl,rfl⟩;go_wp2;go_ret;refine⟨by rw[HE.out];rfl,?_⟩
   repeat' (first|exact aD _ _|assumption|with_reducible refine aZ ?_ _|with_reducible refine Below.drew ?_|with_reducible refine dT ?_ ?_ _|with_reducible refine dU ?_ ?_ _|(simp;done)|(simp;omega))
  ·have t2:(decide (1<=s)&&decide (s<=4))=false:=by rw[Bool.and_eq_false_iff,decide_eq_false_iff_not,decide_eq_false_iff_not];omega
   have HE:=aA (show dY m s=2 by unfold dY;rw[if_neg (by omega),if_pos (by omega)]);go_enter Tryz.func27,Tryz.ntmps27;go_wp2_with fail;refine(jH m 1 3 _).mono ?_;rw[t1];rintro e w1 ⟨rfl,rfl⟩;go_wp2_with fail;refine(jH s 1 4 _).mono ?_;rw[t2];rintro e w1 ⟨rfl,rfl⟩;go_wp2;go_ret;refine⟨by rw[HE.out];rfl,?_⟩
   repeat' (first|exact aD _ _|assumption|with_reducible refine aZ ?_ _|with_reducible refine Below.drew ?_|with_reducible refine dT ?_ ?_ _|with_reducible refine dU ?_ ?_ _|(simp;done)|(simp;omega))
 ·have t1:(decide (1<=m)&&decide (m<=3))=false:=by rw[Bool.and_eq_false_iff,decide_eq_false_iff_not,decide_eq_false_iff_not];omega
  have HE:=aA (show dY m s=3 by unfold dY;rw[if_pos (by omega)]);go_enter Tryz.func27,Tryz.ntmps27;go_wp2_with fail;refine(jH m 1 3 _).mono ?_;rw[t1];rintro e w1 ⟨rfl,rfl⟩;go_wp2;go_ret;refine⟨by rw[HE.out];rfl,?_⟩
  repeat' (first|exact aD _ _|assumption|with_reducible refine aZ ?_ _|with_reducible refine Below.drew ?_|with_reducible refine dT ?_ ?_ _|with_reducible refine dU ?_ ?_ _|(simp;done)|(simp;omega))
theorem mH {w:World}{base t n:Nat}{v:Value}{xs:List Value}(h:w.ownsRow base t 2 v n xs): ∃A c,v= .slice A n c:=by
 obtain⟨_,⟨hv,hn⟩|⟨g,cap,cur,hv,_⟩⟩:=h
 ·exact⟨none,0,by rw[hv,hn]⟩
 ·exact⟨_,_,hv⟩
structure xAy (w:World)(P:Nat->Prop)(B b o:Nat)(s:Sess)(v1 v2 v3 v4:Value):Prop where
 core:Ses w B b o s v1 v2 v3 v4
 p1:InP P v1 s.set
 p2:InP P v2 s.prep
 p3:InP P v3 s.sav
 p4:InP P v4 s.wr
theorem kQ (t:ByteArray)(w:World):
  Calls Tryz.prog 123 #[.string t] w fun e w'=>e= .returned (bQ 4 t)/\Below w.heap.size w w':=by
 go_enter Tryz.func123,Tryz.ntmps123;go_wp2;refine bE (v:=bQ 4 t) (by simp[results,Tryz.results123,go_sem,bQ]) rfl ⟨rfl,?_⟩
 repeat' (first|exact aD _ _|assumption|with_reducible refine aZ ?_ _|with_reducible refine Below.drew ?_|with_reducible refine dT ?_ ?_ _|with_reducible refine dU ?_ ?_ _|(simp;done)|(simp;omega))
theorem xX (o:Option ByteArray)(w:World):
  Calls Tryz.prog 126 #[.string (o.getD ⟨#[]⟩),.bool o.isSome] w fun e w'=>e= .returned (bQ (eT o).kind (eT o).text)/\Below w.heap.size w w':=by
 cases o with
 |none=>
  go_enter Tryz.func126,Tryz.ntmps126;go_wp2;refine bE (v:=bQ 3 ⟨#[]⟩) (by simp[results,Tryz.results126,go_sem,bQ]) rfl ⟨rfl,?_⟩
  repeat' (first|exact aD _ _|assumption|with_reducible refine aZ ?_ _|with_reducible refine Below.drew ?_|with_reducible refine dT ?_ ?_ _|with_reducible refine dU ?_ ?_ _|(simp;done)|(simp;omega))
 |some v=>
  go_enter Tryz.func126,Tryz.ntmps126;go_wp2;refine bE (v:=bQ 2 v) (by simp[results,Tryz.results126,go_sem,bQ]) rfl ⟨rfl,?_⟩
  repeat' (first|exact aD _ _|assumption|with_reducible refine aZ ?_ _|with_reducible refine Below.drew ?_|with_reducible refine dT ?_ ?_ _|with_reducible refine dU ?_ ?_ _|(simp;done)|(simp;omega))
structure DidAt (w w1:World)(r s:Value)(k:Int)(key val:ByteArray)(st:Int)(v1 v2 v3 v4:Value):Prop where
 X:RowTo w1 w.heap.size 39 2 [r,s]
 Y:RowTo w1 (w.heap.size+1) 41 3 [.int .i64 k,.string key,.string val]
 R:RowTo w1 (w.heap.size+1+1) 39 2 [.slice none 0 0,.slice none 0 0]
 A:RowTo w1 (w.heap.size+1+1+1) 46 3 [.int .i64 0,.string ⟨#[]⟩,.int .i64 0]
 Z:RowTo w1 (w.heap.size+1+1+1+1) 115 5 [.int .i64 st,v1,v2,v3,v4]
 O:RowTo w1 (w.heap.size+1+1+1+1+1) 46 3 [.int .i64 1,.string ⟨#[]⟩,.int .i64 0]
 bel:Below w.heap.size w w1
 size:w.heap.size+1+1+1+1+1+1<=w1.heap.size
theorem DidAt.below {w w1 w2:World}{r s:Value}{k:Int}{key val:ByteArray}{st:Int}{v1 v2 v3 v4:Value}(h:DidAt w w1 r s k key val st v1 v2 v3 v4)(hb:Below w1.heap.size w1 w2):DidAt w w2 r s k key val st v1 v2 v3 v4:=
 ⟨h.X.below hb h.X.lt,h.Y.below hb h.Y.lt,h.R.below hb h.R.lt,h.A.below hb h.A.lt,h.Z.below hb h.Z.lt,h.O.below hb h.O.lt,aR h.bel hb h.bel.size,bL h.size hb.size⟩
def gC (w:World)(r s:Value)(k:Int)(key val:ByteArray)(st:Int)(v1 v2 v3 v4:Value):World:=
 ((gE w r s k key val).alloc (.cells #[.int .i64 st,v1,v2,v3,v4] 115)).alloc (.cells #[.int .i64 1,.string ⟨#[]⟩,.int .i64 0] 46)
theorem dAs (w:World)(r s:Value)(k:Int)(key val:ByteArray):(gE w r s k key val).heap.size=w.heap.size+1+1+1+1:=by simp[gE]
theorem pT (w:World)(r s:Value)(k:Int)(key val:ByteArray)(st:Int)(v1 v2 v3 v4:Value):DidAt w (gC w r s k key val st v1 v2 v3 v4) r s k key val st v1 v2 v3 v4:=by
 have h0:=sZ w r s k key val;have hz:=dAs w r s k key val;have e1:((gE w r s k key val).alloc (.cells #[.int .i64 st,v1,v2,v3,v4] 115)).heap.size=w.heap.size+1+1+1+1+1:=by rw[World.size_alloc,hz]
 unfold gC;have hZ:=(RowTo.whole (gE w r s k key val) #[.int .i64 st,v1,v2,v3,v4] 115).alloc (.cells #[.int .i64 1,.string ⟨#[]⟩,.int .i64 0] 46);have hO:=RowTo.whole ((gE w r s k key val).alloc (.cells #[.int .i64 st,v1,v2,v3,v4] 115)) #[.int .i64 1,.string ⟨#[]⟩,.int .i64 0] 46;rw[hz]at hZ;rw[e1]at hO;refine⟨(h0.X.alloc _).alloc _,(h0.Y.alloc _).alloc _,(h0.R.alloc _).alloc _,(h0.A.alloc _).alloc _,hZ,hO,(h0.bel.alloc (by rw[hz];omega) _).alloc (by rw[e1];omega) _,by rw[World.size_alloc,e1];exact aI _⟩
structure RefP (Q:Nat->Prop)(w:World)(S cap:Nat)(r:Value)(W:Wd):Prop where
 rows:Lst w w.heap.size r W.rows
 rin:InP Q r W.rows
 blk:RowTo w S 115 (cap*5) []
 len:W.ss.length<=cap
 bytes:W.ss.length*104<=140737488351232
 ses: ∀i (h:i<W.ss.length),∃v1 v2 v3 v4,xAy w Q w.heap.size S (i*5) W.ss[i] v1 v2 v3 v4
section
variable {Q:Nat->Prop}{w w':World}{S cap:Nat}{r:Value}{W:Wd}
theorem RefP.wld (h:RefP Q w S cap r W):Wld w w.heap.size r (slc S W.ss.length cap) W:=by
 refine⟨h.rows,⟨_,_,rfl,h.len⟩,h.bytes,fun _=>⟨S,0,cap,rfl,h.blk.lt,fun i hi=>?_⟩⟩;obtain⟨v1,v2,v3,v4,hs⟩:=h.ses i hi;rw[cW];exact⟨v1,v2,v3,v4,hs.core⟩
theorem RefP.mono {Q':Nat->Prop}(h:RefP Q w S cap r W)(hq: ∀b,Q b->Q' b):RefP Q' w S cap r W:=by
 refine⟨h.rows,h.rin.mono hq,h.blk,h.len,h.bytes,fun i hi=>?_⟩;obtain⟨v1,v2,v3,v4,q⟩:=h.ses i hi;exact⟨v1,v2,v3,v4,q.core,q.p1.mono hq,q.p2.mono hq,q.p3.mono hq,q.p4.mono hq⟩
theorem RefP.keep (h:RefP Q w S cap r W)(hs:w.heap.size<=w'.heap.size)(hS:w'.heap[S]? =w.heap[S]?)(hk: ∀b,Q b->b<w.heap.size->w'.heap[b]? =w.heap[b]?):RefP Q w' S cap r W:=by
 have ll: ∀{v:Value} {l:PL},Lst w w.heap.size v l->InP Q v l->Lst w' w'.heap.size v l:=fun a b=>a.keepP (gM a b) (fun x hx=>hk x hx.1 hx.2) (fun x hx=>bD hx.2 hs)
 have cs: ∀j,w'.cell? ⟨S,j,none⟩=w.cell? ⟨S,j,none⟩:=fun j=>aV hS
 refine⟨ll h.rows h.rin,h.rin,h.blk.same hS,h.len,h.bytes,fun i hi=>?_⟩;obtain⟨v1,v2,v3,v4,q⟩:=h.ses i hi;exact⟨v1,v2,v3,v4,⟨(cs _).trans q.core.c0,(cs _).trans q.core.c1,(cs _).trans q.core.c2,(cs _).trans q.core.c3,(cs _).trans q.core.c4,ll q.core.l1 q.p1,ll q.core.l2 q.p2,ll q.core.l3 q.p3,ll q.core.l4 q.p4⟩,q.p1,q.p2,q.p3,q.p4⟩
theorem RefP.below (h:RefP Q w S cap r W)(hb:Below w.heap.size w w'):RefP Q w' S cap r W:=h.keep hb.size (hb.block S h.blk.lt) fun b _ hlt=>hb.block b hlt
theorem RefP.small (h:RefP Q w S cap r W):RefP (fun b=>Q b/\b<w.heap.size) w S cap r W:=by
 refine⟨h.rows,gM h.rows h.rin,h.blk,h.len,h.bytes,fun i hi=>?_⟩;obtain⟨v1,v2,v3,v4,q⟩:=h.ses i hi;exact⟨v1,v2,v3,v4,q.core,gM q.core.l1 q.p1,gM q.core.l2 q.p2,gM q.core.l3 q.p3,gM q.core.l4 q.p4⟩
theorem RefP.offN {R:Nat}(h:RefP Q w S cap r W)(hS:R≠S)(hR:lI w R)(hs:w'.heap.size=w.heap.size)(hk: ∀b,b≠R->w'.heap[b]? =w.heap[b]?):RefP Q w' S cap r W:=by
 refine⟨by rw[hs];exact h.rows.offN hR hk,h.rin,h.blk.same (hk S (fun e=>hS e.symm)),h.len,h.bytes,fun i hi=>?_⟩;obtain⟨v1,v2,v3,v4,q⟩:=h.ses i hi;have cs: ∀j,w'.cell? ⟨S,j,none⟩=w.cell? ⟨S,j,none⟩:=fun j=>aV (hk S (fun e=>hS e.symm))
 rw[hs];exact⟨v1,v2,v3,v4,⟨(cs _).trans q.core.c0,(cs _).trans q.core.c1,(cs _).trans q.core.c2,(cs _).trans q.core.c3,(cs _).trans q.core.c4,q.core.l1.offN hR hk,q.core.l2.offN hR hk,q.core.l3.offN hR hk,q.core.l4.offN hR hk⟩,q.p1,q.p2,q.p3,q.p4⟩
theorem RefP.put {w6:World}{r':Value}{rows':PL}{s':Sess}{v1 v2 v3 v4:Value}{i:Nat}(h:RefP Q w S cap r W)(hi:i<W.ss.length)(hQ: ∀b,Q b->b≠S){T:Nat->Prop}(hz:w'.heap.size=w6.heap.size)(hold: ∀b,Q b->b<w.heap.size->w'.heap[b]? =w.heap[b]?)(hk: ∀b,T b->w'.heap[b]? =w6.heap[b]?)(b6:Below w.heap.size w w6)
  (hS:w'.heap[S]? =(cJ w6 S (i*5) (.int .i64 s'.st) v1 v2 v3 v4).heap[S]?)
  (l0:Lst w6 w6.heap.size r' rows') (l1:Lst w6 w6.heap.size v1 s'.set) (l2:Lst w6 w6.heap.size v2 s'.prep) (l3:Lst w6 w6.heap.size v3 s'.sav) (l4:Lst w6 w6.heap.size v4 s'.wr)
  (q0:InP (fun b=>Q b/\T b) r' rows') (q1:InP (fun b=>Q b/\T b) v1 s'.set) (q2:InP (fun b=>Q b/\T b) v2 s'.prep) (q3:InP (fun b=>Q b/\T b) v3 s'.sav) (q4:InP (fun b=>Q b/\T b) v4 s'.wr):RefP Q w' S cap r' ⟨rows',W.ss.set i s'⟩:=by
 have hl:(W.ss.set i s').length=W.ss.length:=fI;have hSw:=h.blk.lt;have hblk:=h.blk.below b6 hSw;have hlen:=h.len;have cS: ∀j,w'.cell? ⟨S,j,none⟩=(cJ w6 S (i*5) (.int .i64 s'.st) v1 v2 v3 v4).cell? ⟨S,j,none⟩:=fun j=>aV hS
 have h5:=zE (a0:= .int .i64 s'.st) (a1:=v1) (a2:=v2) (a3:=v3) (a4:=v4) hblk (o:=i*5) (by omega);have hsz:w.heap.size<=w'.heap.size:=by rw[hz];exact b6.size
 have ll: ∀{v:Value} {l:PL},Lst w6 w6.heap.size v l->InP (fun b=>Q b/\T b) v l->Lst w' w'.heap.size v l:=fun x y=>x.keepP (gM x y) (fun c hc=>hk c hc.1.2) (fun c hc=>by rw[hz];exact hc.2)
 have lo: ∀{v:Value} {l:PL},Lst w w.heap.size v l->InP Q v l->Lst w' w'.heap.size v l:=fun a b=>a.keepP (gM a b) (fun x hx=>hold x hx.1 hx.2) (fun x hx=>bD hx.2 hsz)
 have f1: ∀{v:Value} {l:PL},InP (fun b=>Q b/\T b) v l->InP Q v l:=fun x=>x.mono fun _ hx=>hx.1
 refine⟨ll l0 q0,f1 q0,(zD hblk).same hS,by rw[hl];exact h.len,by rw[hl];exact h.bytes,fun k hk'=>?_⟩;rw[hl]at hk'
 by_cases e:i=k
 ·subst e;simp only[List.getElem_set_self];exact⟨v1,v2,v3,v4,⟨(cS _).trans h5.1,(cS _).trans h5.2.1,(cS _).trans h5.2.2.1,(cS _).trans h5.2.2.2.1,(cS _).trans h5.2.2.2.2,ll l1 q1,ll l2 q2,ll l3 q3,ll l4 q4⟩,f1 q1,f1 q2,f1 q3,f1 q4⟩
 ·simp only[List.getElem_set_ne e];obtain⟨u1,u2,u3,u4,z⟩:=h.ses k hk';have c: ∀j,j<5->w'.cell? ⟨S,k*5+j,none⟩=w.cell? ⟨S,k*5+j,none⟩:=fun j hj=>(cS _).trans ((vM (by omega)).trans (b6.cell (p:=⟨S,k*5+j,none⟩) hSw))
  exact⟨u1,u2,u3,u4,⟨(c 0 (by omega)).trans z.core.c0,(c 1 (by omega)).trans z.core.c1,(c 2 (by omega)).trans z.core.c2,(c 3 (by omega)).trans z.core.c3,(c 4 (by omega)).trans z.core.c4,lo z.core.l1 z.p1,lo z.core.l2 z.p2,lo z.core.l3 z.p3,lo z.core.l4 z.p4⟩,z.p1,z.p2,z.p3,z.p4⟩
end
def OnlyT (S:Nat)(w w':World):Prop:=Only S w w'/\w'.os=w.os/\w'.tape=w.tape/\w'.output=w.output
section
variable {S:Nat}{w w1 w2:World}
theorem OnlyT.trans (h:OnlyT S w w1)(h2:OnlyT S w1 w2):OnlyT S w w2:=⟨h.1.trans h2.1,h2.2.1.trans h.2.1,h2.2.2.1.trans h.2.2.1,h2.2.2.2.trans h.2.2.2⟩
theorem OnlyT.of (h:Below w.heap.size w w1):OnlyT S w w1:=⟨Only.below h,h.os,h.tape,h.output⟩
theorem OnlyT.new {R:Nat}(h:OnlyT S w w1)(hR:w.heap.size<=R)(j:Nat)(v:Value):OnlyT S w (w1.setCell ⟨R,j,none⟩ v):=⟨h.1.new hR j v,h.2.1,h.2.2.1,h.2.2.2⟩
theorem OnlyT.below {B:Nat}(h:OnlyT S w w1)(hS:B<=S)(hB:B<=w.heap.size):Below B w w1:=⟨h.2.1,h.2.2.1,h.2.2.2,h.1.1,fun b hb=>h.1.2 b (by omega) (by omega)⟩
end
def DidZ (Q:Nat->Prop)(w:World)(S cap n:Nat)(R:Wd×cU)(e:Ending)(w':World):Prop:=
 ∃r',e= .returned (.tuple #[.agg #[r',slc S n cap],bQ R.2.kind R.2.text])/\RefP Q w' S cap r' R.1/\OnlyT S w w'
theorem DidZ.drew {Q:Nat->Prop}{w w':World}{S cap n:Nat}{R:Wd×cU}{e:Ending}(h:DidZ Q w S cap n R e w'):DidZ Q w S cap n R e w'.drew:=by
 obtain⟨r',e,h1,h2⟩:=h;exact⟨r',e,h1.below ((aD _ _).drew),h2.trans (.of ((aD _ _).drew))⟩
structure AtE (Q:Nat->Prop)(w w7:World)(S cap n:Nat)(rv:Value)(W':Wd):Prop where
 X:RowTo w7 w.heap.size 39 2 [rv,slc S n cap]
 R:RowTo w7 (w.heap.size+1+1) 39 2 [.slice none 0 0,.slice none 0 0]
 A:RowTo w7 (w.heap.size+1+1+1) 46 3 [.int .i64 0,.string ⟨#[]⟩,.int .i64 0]
 ref:RefP Q w7 S cap rv W'
 only:OnlyT S w w7
 Sw:S<w.heap.size
section
variable {Q:Nat->Prop}{w w7 w8:World}{S cap n:Nat}{rv:Value}{W':Wd}
theorem AtE.below (h:AtE Q w w7 S cap n rv W')(hb:Below w7.heap.size w7 w8):AtE Q w w8 S cap n rv W':=
 ⟨h.X.below hb h.X.lt,h.R.below hb h.R.lt,h.A.below hb h.A.lt,h.ref.below hb,h.only.trans (.of hb),h.Sw⟩
theorem xY {R:Wd×cU}(hR:RowTo w7 (w.heap.size+1+1) 39 2 [.slice none 0 0,.slice none 0 0])(hA:RowTo w7 (w.heap.size+1+1+1) 46 3 [.int .i64 0,.string ⟨#[]⟩,.int .i64 0])(hr:RefP Q w7 S cap rv R.1)(ho:OnlyT S w w7)(hSw:S<w.heap.size)(x1 x2 x3 x4 x5:Value):
  DidZ Q w S cap n R (.returned (.tuple #[.agg #[rv,slc S n cap],bQ R.2.kind R.2.text])) (((((w7.setCell ⟨w.heap.size+1+1,0,none⟩ x1).setCell ⟨w.heap.size+1+1,1,none⟩ x2).setCell ⟨w.heap.size+1+1+1,0,none⟩ x3).setCell ⟨w.heap.size+1+1+1,1,none⟩ x4).setCell ⟨w.heap.size+1+1+1,2,none⟩ x5):=by
 have e1:=hr.offN (R:=w.heap.size+1+1) (by omega) (nU hR) (w':=(w7.setCell ⟨w.heap.size+1+1,0,none⟩ x1).setCell ⟨w.heap.size+1+1,1,none⟩ x2) (by simp[cE]) (fun b hb=>by rw[bF _ _ _ _ hb,bF _ _ _ _ hb]);have A1:=(hA.other (p:=⟨w.heap.size+1+1,0,none⟩) (by show w.heap.size+1+1≠_;omega) x1).other (p:=⟨w.heap.size+1+1,1,none⟩) (by show w.heap.size+1+1≠_;omega) x2;have e2:=e1.offN (R:=w.heap.size+1+1+1) (by omega) (mT A1) (w':=((((w7.setCell ⟨w.heap.size+1+1,0,none⟩ x1).setCell ⟨w.heap.size+1+1,1,none⟩ x2).setCell ⟨w.heap.size+1+1+1,0,none⟩ x3).setCell ⟨w.heap.size+1+1+1,1,none⟩ x4).setCell ⟨w.heap.size+1+1+1,2,none⟩ x5) (by simp[cE]) (fun b hb=>by rw[bF _ _ _ _ hb,bF _ _ _ _ hb,bF _ _ _ _ hb]);exact⟨_,rfl,e2,((((ho.new (by omega) 0 x1).new (by omega) 1 x2).new (by omega) 0 x3).new (by omega) 1 x4).new (by omega) 2 x5⟩
theorem AtE.fin (h:AtE Q w w7 S cap n rv W')(a:cU)(x1 x2 x3 x4 x5:Value):
  DidZ Q w S cap n (W',a) (.returned (.tuple #[.agg #[rv,slc S n cap],bQ a.kind a.text])) (((((w7.setCell ⟨w.heap.size+1+1,0,none⟩ x1).setCell ⟨w.heap.size+1+1,1,none⟩ x2).setCell ⟨w.heap.size+1+1+1,0,none⟩ x3).setCell ⟨w.heap.size+1+1+1,1,none⟩ x4).setCell ⟨w.heap.size+1+1+1,2,none⟩ x5):=xY (n:=n) (R:=(W',a)) h.R h.A h.ref h.only h.Sw x1 x2 x3 x4 x5
end
section
variable {Q:Nat->Prop}{w w6 wz:World}{S cap n:Nat}{r rv sv:Value}{W:Wd}{k:Int}{key val:ByteArray}{st:Int}{v1 v2 v3 v4:Value}
theorem jQ (o:Option ByteArray):uA o= .tuple #[.string (o.getD ⟨#[]⟩),.bool o.isSome]:=by cases o<;>rfl
theorem DidAt.atE (h:DidAt w w6 rv (slc S n cap) k key val st v1 v2 v3 v4)(hr:RefP Q w S cap rv W):AtE Q w w6 S cap n rv W:=⟨h.X,h.R,h.A,hr.below h.bel,.of h.bel,hr.blk.lt⟩
theorem gI {g t m:Nat}{a b c d e:Value}(h:RowTo w g t m [a,b,c,d,e]):w.cell? ⟨g,0,none⟩=some a/\w.cell? ⟨g,1,none⟩=some b/\w.cell? ⟨g,2,none⟩=some c/\w.cell? ⟨g,3,none⟩=some d/\w.cell? ⟨g,4,none⟩=some e:=
 ⟨h.cell (j:=0) (by simp),h.cell (j:=1) (by simp),h.cell (j:=2) (by simp),h.cell (j:=3) (by simp),h.cell (j:=4) (by simp)⟩
theorem cV {g t m:Nat}{xs:List Value}(h:RowTo w g t m xs)(o:Nat):w.frozen? ⟨g,o,none⟩=false/\w.frozen? ⟨g,o+1,none⟩=false/\w.frozen? ⟨g,o+2,none⟩=false/\w.frozen? ⟨g,o+3,none⟩=false/\w.frozen? ⟨g,o+4,none⟩=false:=
 ⟨h.frozen _,h.frozen _,h.frozen _,h.frozen _,h.frozen _⟩
theorem lO {g t m o:Nat}{xs:List Value}(h:RowTo w g t m xs)(ho:o+4<m): ∃a b c d e,w.cell? ⟨g,o,none⟩=some a/\w.cell? ⟨g,o+1,none⟩=some b/\w.cell? ⟨g,o+2,none⟩=some c/\w.cell? ⟨g,o+3,none⟩=some d/\w.cell? ⟨g,o+4,none⟩=some e:=by
 obtain⟨a,ha⟩:=h.any (j:=o) (by omega);obtain⟨b,hb⟩:=h.any (j:=o+1) (by omega);obtain⟨c,hc⟩:=h.any (j:=o+2) (by omega);obtain⟨d,hd⟩:=h.any (j:=o+3) (by omega);obtain⟨e,he⟩:=h.any (j:=o+4) (by omega);exact⟨a,b,c,d,e,ha,hb,hc,hd,he⟩
theorem uD {l:PL}(h:Sz60 l)(hv:key.size<=8/\val.size<=60):(bI l key val).length*32<=140737488351232/\ ∀p∈bI l key val,p.1.size<=140737488351232/\p.2.size<=140737488351232:=by
 refine⟨by have:=kY l key val;have:=h.1;omega,fun p hp=>?_⟩;rcases mP hp with rfl|hp
 ·exact⟨by show key.size<=_;omega,by show val.size<=_;omega⟩
 ·have:=h.2 p hp;omega
def nH (Q:Nat->Prop)(w:World)(S:Nat)(b:Nat):Prop:=Q b/\b≠S/\(b<w.heap.size\/w.heap.size+1+1+1+1+1+1<=b)
theorem dW {v:Value}{l:PL}(hQ: ∀b,Q b->b≠S)(h:Lst w w.heap.size v l)(hp:InP Q v l):InP (nH Q w S) v l:=(hp.and h.inP).mono fun b hb=>⟨hb.1,hQ b hb.1,.inl hb.2⟩
theorem pU {w7 w8:World}{t:Nat}{v:Value}{l:PL}(hN: ∀b,w.heap.size<=b->Q b)(hS:S<w.heap.size)(hz:w.heap.size+1+1+1+1+1+1<=w7.heap.size)(h:w8.ownsRow w7.heap.size t 2 v l.length (bO l)):InP (nH Q w S) v l:=(xAu h).mono fun b hb=>⟨hN b (by have:=hb.1;omega),by have:=hb.1;omega,.inr (by have:=hb.1;omega)⟩
theorem dAt {a b:World}{o:Nat}{a0 a1 a2 a3 a4:Value}(h:a.heap[S]? =b.heap[S]?):(cJ a S o a0 a1 a2 a3 a4).heap[S]? =(cJ b S o a0 a1 a2 a3 a4).heap[S]? :=by
 unfold cJ;exact mO (p:=⟨S,o+4,none⟩) (mO (p:=⟨S,o+3,none⟩) (mO (p:=⟨S,o+2,none⟩) (mO (p:=⟨S,o+1,none⟩) (mO (p:=⟨S,o,none⟩) h))))
theorem DidAt.put {i:Nat}{rows':PL}{s':Sess}{u1 u2 u3 u4:Value}(h:DidAt w w6 r sv k key val st v1 v2 v3 v4)(hr:RefP Q w S cap rv W)(hQ: ∀b,Q b->b≠S)(hi:i<W.ss.length){rz:Value}
  (hX:RowTo wz w.heap.size 39 2 [rz,slc S n cap]) (hz: ∀b,b≠w.heap.size->b≠w.heap.size+1+1+1+1->wz.heap[b]? =w6.heap[b]?) (hs:wz.heap.size=w6.heap.size) (ht:wz.os=w6.os/\wz.tape=w6.tape/\wz.output=w6.output)
  (l0:Lst w6 w6.heap.size rz rows') (l1:Lst w6 w6.heap.size u1 s'.set) (l2:Lst w6 w6.heap.size u2 s'.prep) (l3:Lst w6 w6.heap.size u3 s'.sav) (l4:Lst w6 w6.heap.size u4 s'.wr)
  (q0:InP (nH Q w S) rz rows') (q1:InP (nH Q w S) u1 s'.set) (q2:InP (nH Q w S) u2 s'.prep) (q3:InP (nH Q w S) u3 s'.sav) (q4:InP (nH Q w S) u4 s'.wr):
  AtE Q w (cJ wz S (i*5) (.int .i64 s'.st) u1 u2 u3 u4) S cap n rz ⟨rows',W.ss.set i s'⟩/\RowTo (cJ wz S (i*5) (.int .i64 s'.st) u1 u2 u3 u4) (w.heap.size+1+1+1+1+1) 46 3 [.int .i64 1,.string ⟨#[]⟩,.int .i64 0]:=by
 have hSw:=hr.blk.lt
 have hk: ∀b,b≠S->(cJ wz S (i*5) (.int .i64 s'.st) u1 u2 u3 u4).heap[b]? =wz.heap[b]? :=fun b hb=>by
  unfold cJ;rw[bF _ _ _ _ hb,bF _ _ _ _ hb,bF _ _ _ _ hb,bF _ _ _ _ hb,bF _ _ _ _ hb]
 have hS5:(cJ wz S (i*5) (.int .i64 s'.st) u1 u2 u3 u4).heap[S]? =(cJ w6 S (i*5) (.int .i64 s'.st) u1 u2 u3 u4).heap[S]? :=dAt (hz S (by omega) (by omega));have hs5:(cJ wz S (i*5) (.int .i64 s'.st) u1 u2 u3 u4).heap.size=w6.heap.size:=by rw[<-hs];unfold cJ;simp[cE]
 have e1:(cJ wz S (i*5) (.int .i64 s'.st) u1 u2 u3 u4).os=wz.os/\(cJ wz S (i*5) (.int .i64 s'.st) u1 u2 u3 u4).tape=wz.tape/\(cJ wz S (i*5) (.int .i64 s'.st) u1 u2 u3 u4).output=wz.output:=by unfold cJ;simp only[cE,and_self]
 generalize cJ wz S (i*5) (.int .i64 s'.st) u1 u2 u3 u4=w7 at*;have q2':=(hk (w.heap.size+1+1) (by omega)).trans (hz _ (by omega) (by omega));have q3':=(hk (w.heap.size+1+1+1) (by omega)).trans (hz _ (by omega) (by omega));have q5':=(hk (w.heap.size+1+1+1+1+1) (by omega)).trans (hz _ (by omega) (by omega));have hold: ∀b,b≠S->b<w.heap.size->w7.heap[b]? =w.heap[b]? :=fun b h1 h2=>(hk b h1).trans ((hz b (by omega) (by omega)).trans (h.bel.block b h2))
 refine⟨⟨hX.same (hk _ (by omega)),h.R.same q2',h.A.same q3',hr.put hi hQ (T:=fun b=>b≠S/\(b<w.heap.size\/w.heap.size+1+1+1+1+1+1<=b)) hs5 (fun b hb h2=>hold b (hQ b hb) h2) (fun b hb=>(hk b hb.1).trans (hz b (by omega) (by omega))) h.bel hS5 l0 l1 l2 l3 l4 q0 q1 q2 q3 q4,⟨⟨by rw[hs5];exact h.bel.size,fun b h1 h2=>hold b h2 h1⟩,e1.1.trans (ht.1.trans h.bel.os),e1.2.1.trans (ht.2.1.trans h.bel.tape),e1.2.2.trans (ht.2.2.trans h.bel.output)⟩,hSw⟩,h.O.same q5'⟩
end
def FRow (w:World)(P t n:Nat)(f:Nat->Value):Prop:= ∃cur:Array Value,w.heap[P]? =some (.cells cur t (0,0))/\cur.size=n/\ ∀j,j<n->cur[j]? =some (f j)
section
variable {w w':World}{P t n:Nat}{f:Nat->Value}
theorem FRow.cell (h:FRow w P t n f){j:Nat}(hj:j<n):w.cell? ⟨P,j,none⟩=some (f j):=by
 obtain⟨cur,hh,hs,hc⟩:=h;unfold World.cell?;simp only[hh];exact hc j hj
theorem FRow.frozen (h:FRow w P t n f)(j:Nat):w.frozen? ⟨P,j,none⟩=false:=by
 obtain⟨cur,hh,_⟩:=h;unfold World.frozen?;simp[hh]
theorem FRow.lt (h:FRow w P t n f):P<w.heap.size:=by
 obtain⟨cur,hh,_⟩:=h;exact(Array.getElem?_eq_some_iff.1 hh).1
theorem FRow.same (h:FRow w P t n f)(e:w'.heap[P]? =w.heap[P]?):FRow w' P t n f:=by
 obtain⟨cur,hh,r⟩:=h;exact⟨cur,e.trans hh,r⟩
theorem FRow.set (h:FRow w P t n f)(j:Nat)(u:Value):FRow (w.setCell ⟨P,j,none⟩ u) P t n (aL f j u):=by
 obtain⟨cur,hh,hs,hc⟩:=h;refine⟨cur.setIfInBounds j u,?_,by simpa using hs,fun i hi=>?_⟩
 ·simp[cE,Array.getElem?_modify,hh]
 ·rw[Array.getElem?_setIfInBounds];unfold aL
  by_cases e:j=i
  ·subst e;rw[if_pos rfl,if_pos (by omega),if_pos rfl]
  ·rw[if_neg e,if_neg (fun h=>e h.symm)];exact hc i hi
theorem FRow.new (w:World)(cs:Array Value)(t:Nat)(hs:cs.size=n)(f:Nat->Value)(hf: ∀j,j<n->cs[j]? =some (f j)):FRow (w.alloc (.cells cs t)) w.heap.size t n f:=
 ⟨cs,heap_alloc_new w _,hs,hf⟩
end
structure Ask where
 r:Req
 ok:Bool
def Ask.req (a:Ask):Req:=if a.ok=true then a.r else Req.none_
def fT (a:Ask):List Value:=[.int .i64 a.r.k,.string a.r.key,.string a.r.val,.bool a.ok]
def hT (k:Nat):Nat:=if k<9 then 100 else if k<11 then 3 else 70
def hZ (k:Nat):Nat:=if k<9 then 4 else if k<11 then 1 else 7
def hV (f g:Nat->Value)(k:Nat):Value:=if k<9 then g ((k-3)*4+1)else f (k-4)
def hI (m:Mach Wd)(q:Nat->List Ask)(ow:List Int)(k:Nat):List (List Value):=if k<9 then(q (k-3)).map fT else if k=9 then ow.map (fun n=>[.int .i64 n])else if k=10 then m.line.map (fun(n:Nat)=>[Value.int .i64 (n:Int)])else m.deeds.map gW
def lP (o:Option Nat):Int:=match o with
 |none=> -1
 |some s=>s
structure HMem (X:Nat)(w:World)(base H A S:Nat)(f g:Nat->Value)(G:Nat->Option Nat)(mode:Int)(m:Mach Wd)(q:Nat->List Ask)(ow:List Int):Prop where
 h:FRow w H 91 8 f
 a:FRow w A 94 24 g
 ref:RefP (cX G) w S 6 (f 2) m.e
 g0:G 0=some H
 g1:G 1=some A
 g2:G 2=some S
 lo: ∀i b,G i=some b->base<=b/\b<w.heap.size
 inj: ∀i j b,G i=some b->G j=some b->i=j
 sl: ∀k,3<=k->k<=11->k≠X->Sl w (hT k) (hZ k) (hV f g k) (G k) (hI m q ow k).length (hI m q ow k).flatten
 md:f 0= .int .i64 mode
 f3:f 3= .slice (some ⟨S,0,none⟩) 6 6
 f4:f 4= .slice (some ⟨A,0,none⟩) 6 6
 bytes: ∀c,c<6->g (c*4)= .string (m.get c).bytes
 srv: ∀c,c<6->g (c*4+2)= .int .i64 (lP (m.get c).srv)
 sent: ∀c,c<6->g (c*4+3)= .string (m.sent.getD c ⟨#[]⟩)
section
variable {X:Nat}{w w':World}{base H A S:Nat}{f g:Nat->Value}{G:Nat->Option Nat}{mode:Int}{m m':Mach Wd}{q q':Nat->List Ask}{ow ow':List Int}
theorem HMem.ne {i j:Nat}{b c:Nat}(h:HMem X w base H A S f g G mode m q ow)(hi:G i=some b)(hj:G j=some c)(hij:i≠j):b≠c:=fun e=>hij (h.inj i j b hi (by rw[hj,e]))
theorem HMem.keep (h:HMem X w base H A S f g G mode m q ow)(hX:3<=X)(hs:w.heap.size<=w'.heap.size)(hk: ∀b,b<w.heap.size->G X≠some b->w'.heap[b]? =w.heap[b]?):HMem X w' base H A S f g G mode m q ow:=by
 have hb: ∀i b,G i=some b->i≠X->w'.heap[b]? =w.heap[b]? :=fun i b hi hne=>hk b (h.lo i b hi).2 (fun e=>hne (h.inj i X b hi e))
 refine⟨h.h.same (hb 0 H h.g0 (by omega)),h.a.same (hb 1 A h.g1 (by omega)),h.ref.keep hs (hb 2 S h.g2 (by omega)) (fun b hf hlt=>hk b hlt (hf X)),h.g0,h.g1,h.g2,fun i b hi=>⟨(h.lo i b hi).1,bD (h.lo i b hi).2 hs⟩,h.inj,fun k h1 h2 h3=>(h.sl k h1 h2 h3).keep fun b hb'=>hb k b hb' h3,h.md,h.f3,h.f4,h.bytes,h.srv,h.sent⟩
theorem HMem.below (h:HMem X w base H A S f g G mode m q ow)(hb:Below w.heap.size w w'):HMem X w' base H A S f g G mode m q ow:=
 ⟨h.h.same (hb.block H h.h.lt),h.a.same (hb.block A h.a.lt),h.ref.below hb,h.g0,h.g1,h.g2,fun i b hi=>⟨(h.lo i b hi).1,bD (h.lo i b hi).2 hb.size⟩,h.inj,fun k h1 h2 h3=>(h.sl k h1 h2 h3).below hb,h.md,h.f3,h.f4,h.bytes,h.srv,h.sent⟩
theorem HMem.but (h:HMem 0 w base H A S f g G mode m q ow)(X:Nat):HMem X w base H A S f g G mode m q ow:=⟨h.h,h.a,h.ref,h.g0,h.g1,h.g2,h.lo,h.inj,fun k h1 h2 _=>h.sl k h1 h2 (by omega),h.md,h.f3,h.f4,h.bytes,h.srv,h.sent⟩
theorem HMem.move (h:HMem X w base H A S f g G mode m q ow)(hX:3<=X)(hs:w.heap.size<=w'.heap.size)(hk: ∀b,b<w.heap.size->G X≠some b->w'.heap[b]? =w.heap[b]?){b:Nat}(hb:w.heap.size<=b)(hb':b<w'.heap.size)(hbase:base<=w.heap.size):HMem X w' base H A S f g (aL G X (some b)) mode m q ow:=by
 have h2:=h.keep hX hs hk;have hlt: ∀i x,G i=some x->x<w.heap.size:=fun i x hx=>(h.lo i x hx).2
 have up: ∀i,i≠X->aL G X (some b) i=G i:=fun i hi=>by unfold aL;rw[if_neg hi]
 have upX:aL G X (some b) X=some b:=by unfold aL;rw[if_pos rfl]
 have hr:=(h.ref.small.keep hs (hk S h.ref.blk.lt (fun e=>by have:=h.inj X 2 S e h.g2;omega)) (fun x hx hlt'=>hk x hlt' (hx.1 X))).mono (Q':=cX (aL G X (some b))) fun x hx=>pA hx.1 (by have:=hx.2;omega)
 refine⟨h2.h,h2.a,hr,(up 0 (by omega)).trans h.g0,(up 1 (by omega)).trans h.g1,(up 2 (by omega)).trans h.g2,fun i x hx=>?_,fun i j x hi hj=>?_,fun k h1 h3 h4=>by rw[up k h4];exact h2.sl k h1 h3 h4,h.md,h.f3,h.f4,h.bytes,h.srv,h.sent⟩
 ·by_cases e:i=X
  ·subst e;rw[upX]at hx;injection hx with hx;omega
  ·rw[up i e]at hx;exact h2.lo i x hx
 ·by_cases ei:i=X<;>by_cases ej:j=X
  ·omega
  ·subst ei;rw[upX]at hi;rw[up j ej]at hj;injection hi with hi;have:=hlt j x hj;omega
  ·subst ej;rw[upX]at hj;rw[up i ei]at hi;injection hj with hj;have:=hlt i x hi;omega
  ·rw[up i ei]at hi;rw[up j ej]at hj;exact h.inj i j x hi hj
theorem HMem.world (h:HMem X w base H A S f g G mode m q ow)(ho:Only S w w'){r:Value}{W:Wd}(hr:RefP (cX G) w' S 6 r W):
  HMem X ((w'.setCell ⟨H,2,none⟩ r).setCell ⟨H,3,none⟩ (.slice (some ⟨S,0,none⟩) 6 6)) base H A S (aL (aL f 2 r) 3 (.slice (some ⟨S,0,none⟩) 6 6)) g G mode {m with e:=W} q ow:=by
 have hHS:=h.ne h.g0 h.g2 (by omega);have hAS:=h.ne h.g1 h.g2 (by omega);have hHA:=h.ne h.g0 h.g1 (by omega);have hk: ∀b,b≠H->((w'.setCell ⟨H,2,none⟩ r).setCell ⟨H,3,none⟩ (.slice (some ⟨S,0,none⟩) 6 6)).heap[b]? =w'.heap[b]? :=fun b hb=>(cM _ H 3 _ b hb).trans (cM _ H 2 _ b hb)
 have hz:((w'.setCell ⟨H,2,none⟩ r).setCell ⟨H,3,none⟩ (.slice (some ⟨S,0,none⟩) 6 6)).heap.size=w'.heap.size:=by rw[cT,cT]
 have hV': ∀k,3<=k->hV (aL (aL f 2 r) 3 (.slice (some ⟨S,0,none⟩) 6 6)) g k=hV f g k:=fun k hk=>by
  unfold hV
  split
  ·rfl
  ·rw[aP (by omega),aP (by omega)]
 refine⟨((h.h.same (ho.2 H h.h.lt hHS)).set _ _).set _ _,h.a.same ((hk A hHA.symm).trans (ho.2 A h.a.lt hAS)),?_,h.g0,h.g1,h.g2,fun i b hi=>⟨(h.lo i b hi).1,by rw[hz];exact bD (h.lo i b hi).2 ho.1⟩,h.inj,fun k h1 h2 h3=>?_,?_,?_,?_,h.bytes,h.srv,h.sent⟩
 ·rw[aP (by omega),dQ];exact hr.keep (by omega) (hk S hHS.symm) (fun b hb _=>hk b (fun e=>hb 0 (by rw[e];exact h.g0)))
 ·rw[hV' k h1];exact(h.sl k h1 h2 h3).keep fun b hb=>(hk b (h.ne hb h.g0 (by omega))).trans (ho.2 b (h.lo k b hb).2 (h.ne hb h.g2 (by omega)))
 ·rw[aP (by omega),aP (by omega)];exact h.md
 ·rw[dQ]
 ·rw[aP (by omega),aP (by omega)];exact h.f4
theorem HMem.cellA (h:HMem X w base H A S f g G mode m q ow)(j:Nat)(u:Value)(hj: ∀k,3<=k->k<=8->k≠X->(k-3)*4+1≠j)(hm:m'.e=m.e)(hI': ∀k,3<=k->k<=11->k≠X->hI m' q' ow' k=hI m q ow k)
  (hb: ∀c,c<6->aL g j u (c*4)= .string (m'.get c).bytes) (hv: ∀c,c<6->aL g j u (c*4+2)= .int .i64 (lP (m'.get c).srv)) (hs: ∀c,c<6->aL g j u (c*4+3)= .string (m'.sent.getD c ⟨#[]⟩)):
  HMem X (w.setCell ⟨A,j,none⟩ u) base H A S f (aL g j u) G mode m' q' ow':=by
 have hHA:=h.ne h.g0 h.g1 (by omega);have hSA:=h.ne h.g2 h.g1 (by omega);have hk:=cM w A j u;have hz:=cT w ⟨A,j,none⟩ u;refine⟨h.h.same (hk H hHA),h.a.set _ _,by rw[hm];exact h.ref.keep (by omega) (hk S hSA) (fun b hb' _=>hk b (fun e=>hb' 1 (by rw[e];exact h.g1))),h.g0,h.g1,h.g2,fun i b hi=>by rw[hz];exact h.lo i b hi,h.inj,fun k h1 h2 h3=>?_,h.md,h.f3,h.f4,hb,hv,hs⟩
 have e:hV f (aL g j u) k=hV f g k:=by
  unfold hV
  split
  ·rw[aP (hj k h1 (by omega) h3)]
  ·rfl
 rw[e,hI' k h1 h2 h3];exact(h.sl k h1 h2 h3).keep fun b hb'=>hk b (h.ne hb' h.g1 (by omega))
theorem HMem.cellH (h:HMem X w base H A S f g G mode m q ow)(hX:9<=X)(hX':X<=11)(u:Value):HMem X (w.setCell ⟨H,X-4,none⟩ u) base H A S (aL f (X-4) u) g G mode m q ow:=by
 have hHA:=h.ne h.g0 h.g1 (by omega);have hHS:=h.ne h.g0 h.g2 (by omega);have hk:=cM w H (X-4) u;have hz:=cT w ⟨H,X-4,none⟩ u;refine⟨h.h.set _ _,h.a.same (hk A hHA.symm),by rw[aP (by omega)];exact h.ref.keep (by omega) (hk S hHS.symm) (fun b hb' _=>hk b (fun e=>hb' 0 (by rw[e];exact h.g0))),h.g0,h.g1,h.g2,fun i b hi=>by rw[hz];exact h.lo i b hi,h.inj,fun k h1 h2 h3=>?_,by rw[aP (by omega)];exact h.md,by rw[aP (by omega)];exact h.f3,by rw[aP (by omega)];exact h.f4,h.bytes,h.srv,h.sent⟩
 have e:hV (aL f (X-4) u) g k=hV f g k:=by
  unfold hV
  split
  ·rfl
  ·rw[aP (by omega)]
 rw[e];exact(h.sl k h1 h2 h3).keep fun b hb'=>hk b (h.ne hb' h.g0 (by omega))
theorem HMem.fill (h:HMem X w base H A S f g G mode m q ow)(hs:Sl w (hT X) (hZ X) (hV f g X) (G X) (hI m' q' ow' X).length (hI m' q' ow' X).flatten)(ho: ∀k,3<=k->k<=11->k≠X->hI m' q' ow' k=hI m q ow k)(he:m'.e=m.e)
  (hb: ∀c,c<6->(m'.get c).bytes=(m.get c).bytes) (hv: ∀c,c<6->(m'.get c).srv=(m.get c).srv) (hn: ∀c,c<6->m'.sent.getD c ⟨#[]⟩=m.sent.getD c ⟨#[]⟩):HMem 0 w base H A S f g G mode m' q' ow':=by
 refine⟨h.h,h.a,by rw[he];exact h.ref,h.g0,h.g1,h.g2,h.lo,h.inj,fun k h1 h2 _=>?_,h.md,h.f3,h.f4,fun c hc=>by rw[hb c hc];exact h.bytes c hc,fun c hc=>by rw[hv c hc];exact h.srv c hc,fun c hc=>by rw[hn c hc];exact h.sent c hc⟩
 by_cases e:k=X
 ·subst e;exact hs
 ·rw[ho k h1 h2 e];exact h.sl k h1 h2 e
theorem HMem.grown {w1:World}{b:Nat}(h:HMem X w base H A S f g G mode m q ow)(hX:3<=X)(hbase:base<=w.heap.size)(hg:w.grownBy w1 (G X))(hb:G X=some b\/(w.heap.size<=b/\b<w1.heap.size)):HMem X w1 base H A S f g (aL G X (some b)) mode m q ow:=by
 have hk: ∀b,b<w.heap.size->G X≠some b->w1.heap[b]? =w.heap[b]? :=fun b hlt hne=>hg.block b hlt (fun e=>hne e.symm)
 rcases hb with hb|⟨hb,hb'⟩
 ·have:aL G X (some b)=G:=by
   funext i;unfold aL;split
   ·rename_i e;rw[e,hb]
   ·rfl
  rw[this];exact h.keep hX hg.size hk
 ·exact h.move hX hg.size hk hb hb' hbase
end
end Go.Proofs.YtpbaobmegomfpabGreatDoor

/-
  Texts of the proof.
-/
import Derived.Test.YtpbaobmegomfpabGreatDoorG3
import Derived.Test.YtpbaobmegomfpabGreatDoorG4
import Derived.Maps.OwnSet
import Derived.Maps.Views
import Derived.Laws.MakeOwn
import Derived.Laws.Entries
import Derived.Maps.Own
import Derived.Maps.OwnOps
import Derived.WalkArith
set_option linter.unusedVariables false
set_option linter.unusedSimpArgs false
set_option maxRecDepth 100000
set_option maxHeartbeats 16000000
open List renaming getElem_toArray→aE,getElem_cons_zero→aB,getElem_cons_succ→aC,getElem?_eq_getElem→dP,getD_eq_getElem?_getD→eU,take_succ_eq_append_getElem→gO,length_append→eN,length_set→fI,length_cons→fC,length_take→gK,take_of_length_le→jR
open Nat renaming le_refl→aI,lt_of_lt_of_le→bD,le_trans→bL,zero_add→cW
open Go.Lib renaming hid→aA
open Go.RowKit.Below renaming refl→aD,heap_setCell→bF,setCell→dT,alloc→dU
open Go.World renaming cell?_of_block→aV,frozen?_of_block→iR,setCell→cE
open And renaming intro→aJ
open Classical renaming byContradiction→gP
open Bool renaming and_eq_true→eB
open Go renaming bodyPost_ret→bE,below_drewN→aZ
namespace Go.Proofs.YtpbaobmegomfpabGreatDoor
open Go.RowKit
def eK (s:Sess):Bool:=
 iJ 0 s.st 2&&(cD s.set 6 9&&(cD s.prep 6 11&&(cD s.sav 6 9&&(cD s.wr 100 10&&(!((s.st==0)&&decide (0<s.sav.length))&&!((s.st !=1)&&decide (0<s.wr.length)))))))
def eI (ss:List Sess)(me:Int)(key:ByteArray):Bool:=(List.range ss.length).any fun i=>decide ((i:Int)≠me)&&((ss[i]?).any fun s=>(aX s.wr key).isSome)
def qJ (ss:List Sess):Bool:=(List.range ss.length).all fun(i:Nat)=>(ss[i]?).all fun s=>s.wr.all fun p=>!eI ss i p.1
def iN (out:PL)(l:PL):PL:=l.foldl (fun a p=>bI a p.1 ⟨#[]⟩) out
def aW (W:Wd):PL:=iN W.rows (W.ss.flatMap (·.wr))
def iA (W:Wd):Bool:=(cD W.rows 100 10&&decide (W.ss.length<=8))&&(W.ss.all eK&&(qJ W.ss&&decide ((aW W).length<=100)))
theorem kX {ss:List Sess}{me:Int}{key:ByteArray}{k:Nat}(hk:k<ss.length)(h:(aX ss[k].wr key).isSome=true)(hne:(k:Int)≠me):eI ss me key=true:=by
 unfold eI;rw[List.any_eq_true];refine⟨k,List.mem_range.2 hk,?_⟩;rw[dP hk,cF hne,Bool.true_and];exact h
theorem sI {ss:List Sess}{me:Int}{key:ByteArray}(h: ∀k (hk:k<ss.length),(aX ss[k].wr key).isSome=true->(k:Int)=me):eI ss me key=false:=by
 unfold eI;rw[List.any_eq_false];intro k hk;have hk:=List.mem_range.1 hk;rw[dP hk];simp only[eB,decide_eq_true_eq,not_and];intro hne hs;exact hne (h k hk hs)
theorem sJ {ss:List Sess}{me:Int}{key:ByteArray}:eI ss me key=true ↔ ∃k,∃hk:k<ss.length,(aX ss[k].wr key).isSome=true/\(k:Int)≠me:=by
 constructor
 ·intro h
  apply gP
  intro hn;have:eI ss me key=false:=sI (fun k hk hs=>gP fun hne=>hn ⟨k,hk,hs,hne⟩);rw[h]at this;cases this
 ·rintro⟨k,hk,hs,hne⟩;exact kX hk hs hne
theorem sK {ss:List Sess}:qJ ss=true ↔ ∀i (hi:i<ss.length),∀p∈ss[i].wr,eI ss i p.1=false:=by
 unfold qJ;rw[List.all_eq_true]
 constructor
 ·intro h i hi p hp;have:=h i (List.mem_range.2 hi);rw[dP hi]at this;have:=List.all_eq_true.1 this p hp
  simpa using this
 ·intro h i hi;have hi:=List.mem_range.1 hi;rw[dP hi];show(ss[i].wr.all _)=true;rw[List.all_eq_true];intro p hp;rw[h i hi p hp];rfl
theorem zU {s:Sess}(h:iJ 0 s.st 2=false):eK s=false:=by unfold eK;rw[h];rfl
theorem sL {s:Sess}(h:cD s.set 6 9=false):eK s=false:=by unfold eK;rw[h];simp
theorem sM {s:Sess}(h:cD s.prep 6 11=false):eK s=false:=by unfold eK;rw[h];simp
theorem sN {s:Sess}(h:cD s.sav 6 9=false):eK s=false:=by unfold eK;rw[h];simp
theorem sO {s:Sess}(h:cD s.wr 100 10=false):eK s=false:=by unfold eK;rw[h];simp
theorem zV {s:Sess}(h1:s.st=0)(h2:0<s.sav.length):eK s=false:=by
 have e1:(s.st==0)=true:=beq_iff_eq.2 h1;unfold eK;rw[e1,cF h2];simp
theorem zW {s:Sess}(h1:s.st≠1)(h2:0<s.wr.length):eK s=false:=by
 have e1:(s.st !=1)=true:=eP.2 h1;unfold eK;rw[e1,cF h2];simp
theorem zX {s:Sess}(h0:iJ 0 s.st 2=true)(h1:cD s.set 6 9=true)(h2:cD s.prep 6 11=true)(h3:cD s.sav 6 9=true)(h4:cD s.wr 100 10=true)(h5: ¬(s.st=0/\0<s.sav.length))(h6: ¬(s.st≠1/\0<s.wr.length)):eK s=true:=by
 unfold eK;rw[h0,h1,h2,h3,h4];simp only[Bool.true_and,eB,Bool.not_eq_true',Bool.and_eq_false_iff,beq_eq_false_iff_ne,bne_eq_false_iff_eq,decide_eq_false_iff_not];refine⟨?_,?_⟩
 ·by_cases e:s.st=0
  ·exact .inr (fun h=>h5 ⟨e,h⟩)
  ·exact .inl e
 ·by_cases e:s.st=1
  ·exact .inl e
  ·exact .inr (fun h=>h6 ⟨e,h⟩)
structure nN (s:Sess):Prop where
 lo:0<=s.st
 hi:s.st<=2
 set:cD s.set 6 9=true
 prep:cD s.prep 6 11=true
 sav:cD s.sav 6 9=true
 wr:cD s.wr 100 10=true
 idle:s.st=0->s.sav=[]
 tx:s.st≠1->s.wr=[]
theorem sP {s:Sess}:eK s=true ↔ nN s:=by
 constructor
 ·intro h;have h0:iJ 0 s.st 2=true:=by cases e:iJ 0 s.st 2 with|true=>rfl|false=>rw[zU e]at h;cases h
  have h1:cD s.set 6 9=true:=by cases e:cD s.set 6 9 with|true=>rfl|false=>rw[sL e]at h;cases h
  have h2:cD s.prep 6 11=true:=by cases e:cD s.prep 6 11 with|true=>rfl|false=>rw[sM e]at h;cases h
  have h3:cD s.sav 6 9=true:=by cases e:cD s.sav 6 9 with|true=>rfl|false=>rw[sN e]at h;cases h
  have h4:cD s.wr 100 10=true:=by cases e:cD s.wr 100 10 with|true=>rfl|false=>rw[sO e]at h;cases h
  have hi:0<=s.st/\s.st<=2:=by
   unfold iJ at h0;simpa using h0
  refine⟨hi.1,hi.2,h1,h2,h3,h4,fun e=>?_,fun e=>?_⟩
  ·by_cases hl:0<s.sav.length
   ·rw[zV e hl]at h;cases h
   ·exact List.length_eq_zero_iff.1 (by omega)
  ·by_cases hl:0<s.wr.length
   ·rw[zW e hl]at h;cases h
   ·exact List.length_eq_zero_iff.1 (by omega)
 ·intro h;refine zX (rN ⟨h.lo,h.hi⟩) h.set h.prep h.sav h.wr (fun e=>?_) (fun e=>?_)
  ·rw[h.idle e.1]at e;simp at e
  ·rw[h.tx e.1]at e;simp at e
theorem zY: ∀(l:PL) (k v:ByteArray) (d:Bool),(eG k v d l).length<=l.length+(!d).toNat
 |[],k,v,d=>by cases d<;>simp[eG]
 |p::l,k,v,d=>by
  have ih:=zY l k v (d||!bP p.1 k)
  unfold eG
  cases d<;>cases h1:bP p.1 k<;>cases h2:bN p.1 k<;>simp[h1]at ih ⊢ <;>omega
theorem kY (l:PL)(k v:ByteArray):(bI l k v).length<=l.length+1:=zY l k v false
theorem zZ: ∀{l:PL} {k v:ByteArray} {d:Bool} {q:ByteArray×ByteArray},q∈eG k v d l->q=(k,v)\/q∈l
 |[],k,v,d,q,h=>by cases d<;>simp[eG]at h ⊢;exact h
 |p::l,k,v,d,q,h=>by
  unfold eG at h;rw[List.mem_append,List.mem_append]at h;rcases h with h|h|h
  ·split at h
   ·exact .inl (by simpa using h)
   ·cases h
  ·split at h
   ·cases h
   ·exact .inr (by simp at h;simp[h])
  ·rcases zZ h with h|h
   ·exact .inl h
   ·exact .inr (by simp[h])
theorem mP {l:PL}{k v:ByteArray}{q:ByteArray×ByteArray}(h:q∈bI l k v):q=(k,v)\/q∈l:=zZ h
theorem zAv {W:Wd}(h:cD W.rows 100 10=false):iA W=false:=by unfold iA;rw[h];rfl
theorem zAw {W:Wd}(h: ¬W.ss.length<=8):iA W=false:=by unfold iA;rw[aY h];simp
theorem zAx {W:Wd}{i:Nat}(hi:i<W.ss.length)(h:eK W.ss[i]=false):iA W=false:=by
 have:W.ss.all eK=false:=by
  rw[List.all_eq_false];exact⟨W.ss[i],List.getElem_mem hi,by simp[h]⟩
 unfold iA;rw[this];simp
theorem zAy {W:Wd}(h1:cD W.rows 100 10=true)(h2:W.ss.length<=8)(h3: ∀i (hi:i<W.ss.length),eK W.ss[i]=true)(h4: ∀i (hi:i<W.ss.length),∀p∈W.ss[i].wr,eI W.ss i p.1=false):iA W=decide ((aW W).length<=100):=by
 have:W.ss.all eK=true:=by
  rw[List.all_eq_true];intro s hs;obtain⟨i,hi,rfl⟩:=List.getElem_of_mem hs;exact h3 i hi
 unfold iA;rw[h1,cF h2,this,sK.2 h4];rfl
structure bX (W:Wd):Prop where
 rows:cD W.rows 100 10=true
 many:W.ss.length<=8
 sess: ∀i (hi:i<W.ss.length),nN W.ss[i]
 apart: ∀i (hi:i<W.ss.length),∀p∈W.ss[i].wr,eI W.ss i p.1=false
 all:(aW W).length<=100
theorem kA0 {W:Wd}:iA W=true ↔ bX W:=by
 constructor
 ·intro h;have h':=h;unfold iA at h';simp only[eB,decide_eq_true_eq]at h';obtain⟨⟨h1,h2⟩,h3,h4,h5⟩:=h';exact⟨h1,h2,fun i hi=>sP.1 (List.all_eq_true.1 h3 _ (List.getElem_mem hi)),sK.1 h4,h5⟩
 ·intro h;rw[zAy h.rows h.many (fun i hi=>sP.2 (h.sess i hi)) h.apart,cF h.all]
end Go.Proofs.YtpbaobmegomfpabGreatDoor
namespace Go.Proofs.YtpbaobmegomfpabGreatDoor
open Go.RowKit Go.Maps
def kl (s:ByteArray):Lit:= .string s.data.toList
theorem vU {a b : ByteArray} (h : a ≠ b) : kl a ≠ kl b := fun e => h (by
 unfold kl at e;injection e with e
 exact kS e)
def bK (l:PL)(key:ByteArray):Nat:=(l.filter fun p=>bN p.1 key).length
theorem vV (p:ByteArray×ByteArray)(l:PL)(key:ByteArray):bK (p::l) key=(if bN p.1 key then 1 else 0)+bK l key:=by
 unfold bK;rw[List.filter_cons]
 split
 ·rw[fC];omega
 ·omega
theorem zAz (l m:PL)(key:ByteArray):bK (l++m) key=bK l key+bK m key:=by unfold bK;rw[List.filter_append,eN]
theorem vA0 (key:ByteArray):bK [] key=0:=rfl
structure MapOk (D:DataW Unit)(R:PL)(cnt:ByteArray->Nat):Prop where
 size:Maps.size D=R.length
 has: ∀key,Maps.has D (kl key)=(aX R key).isSome
 at_: ∀key,D.atKey (kl key) (.lit (.int .i64 0))= .lit (.int .i64 (cnt key))
theorem vA1:MapOk (.map []) [] (fun _=>0):=⟨rfl,fun _=>rfl,fun _=>rfl⟩
theorem kA1 {D:DataW Unit}{R:PL}{cnt:ByteArray->Nat}{k v:ByteArray}{c:Nat}(h:MapOk D R cnt)(ht:Tidy D)(hr:bG R=true)(hk:WideAt.IsKeyLit (kl k)):
  MapOk (D.put (kl k) (.lit (.int .i64 c))) (cI R k v) (fun key=>if bN k key then c else cnt key):=by
 refine⟨?_,fun key=>?_,fun key=>?_⟩
 ·rw[size_put ht,h.has,qG hr,h.size]
 ·rw[rZ hr]
  cases e:bN k key
  ·rw[has_put_other (fun e'=>vU (fF.1 e) e'.symm),h.has];rfl
  ·rw[<-iK.1 e,has_put_same ht.isMap hk];rfl
 ·cases e:bN k key
  ·rw[atKey_put_other (fun e'=>vU (fF.1 e) e'.symm),h.at_];rfl
  ·rw[<-iK.1 e,atKey_put_same ht.isMap hk];rfl
theorem MapOk.cnt {D:DataW Unit}{R:PL}{cnt cnt':ByteArray->Nat}(h:MapOk D R cnt)(e: ∀key,cnt key=cnt' key):MapOk D R cnt':=⟨h.size,h.has,fun key=>by rw[h.at_,e]⟩
theorem vA2 {l:PL}{k v:ByteArray}(h: ∀q∈l,bP q.1 k=true):cI l k v=l++[(k,v)]:=by
 induction l with
 |nil=>rfl
 |cons p l ih=>rw[qE (h p (by simp)),ih (fun q hq=>h q (by simp[hq]))];rfl
theorem vA3 {l:PL}(h:bG l=true){k:Nat}(hk:k<l.length):cI (l.take k) l[k].1 l[k].2=l.take (k+1):=by
 rw[vA2,gO hk];intro q hq;obtain⟨j,hj,rfl⟩:=List.getElem_of_mem hq;simp only[gK]at hj;rw[List.getElem_take];exact zAb h j k (by omega) hk
theorem vA4 {l:PL}(h:bG l=true)(k:Nat):bG (l.take k)=true:=by
 rw[qD]at h ⊢;intro j hj;simp only[gK]at hj;rw[List.getElem_take,List.getElem_take];exact h j (by omega)
end Go.Proofs.YtpbaobmegomfpabGreatDoor
namespace Go.Proofs.YtpbaobmegomfpabGreatDoor
open Go.RowKit
theorem vW: ∀{l:PL} {key:ByteArray},bG l=true->bK l key=if(aX l key).isSome then 1 else 0
 |[],_,_=>rfl
 |p::l,key,h=>by
  rw[vV,vW (iL h)]
  cases e:bN p.1 key
  ·rw[fJ e];simp
  ·have:aX l key=none:=qF (fun q hq=>fF.2 (fun e'=>hU (iM h q hq) (by rw[iK.1 e,e'])));rw[gT e,this];rfl
theorem oR (s:Sess)(ss:List Sess)(key:ByteArray):bK ((s::ss).flatMap (·.wr)) key=bK s.wr key+bK (ss.flatMap (·.wr)) key:=by
 rw[List.flatMap_cons,zAz]
theorem qK: ∀{ss:List Sess} {key:ByteArray} {i:Nat} (hi:i<ss.length),bK ss[i].wr key<=bK (ss.flatMap (·.wr)) key
 |s::ss,key,0,_=>by rw[oR];simp
 |s::ss,key,i+1,hi=>by
  have:=qK (key:=key) (ss:=ss) (i:=i) (by simpa using hi);rw[oR];simp only[aC];omega
theorem vX: ∀{ss:List Sess} {key:ByteArray} {i j:Nat} (hi:i<j) (hj:j<ss.length),bK (ss[i]'(by omega)).wr key+bK ss[j].wr key<=bK (ss.flatMap (·.wr)) key
 |s::ss,key,0,j+1,_,hj=>by
  have:=qK (key:=key) (ss:=ss) (i:=j) (by simpa using hj);rw[oR];simp only[aC,aB];omega
 |s::ss,key,i+1,j+1,hi,hj=>by
  have:=vX (key:=key) (ss:=ss) (i:=i) (j:=j) (by omega) (by simpa using hj);rw[oR];simp only[aC];omega
theorem vY: ∀{ss:List Sess} {key:ByteArray},1<=bK (ss.flatMap (·.wr)) key-> ∃i,∃hi:i<ss.length,1<=bK ss[i].wr key
 |[],key,h=>by simp[bK]at h
 |s::ss,key,h=>by
  rw[oR]at h
  by_cases h0:1<=bK s.wr key
  ·exact⟨0,by simp,h0⟩
  ·obtain⟨i,hi,h1⟩:=vY (ss:=ss) (key:=key) (by omega);exact⟨i+1,by simpa using hi,h1⟩
theorem kA2: ∀{ss:List Sess} {key:ByteArray},(∀i (hi:i<ss.length),bK ss[i].wr key<=1)->2<=bK (ss.flatMap (·.wr)) key-> ∃i j,∃(hi:i<ss.length) (hj:j<ss.length),i≠j/\1<=bK ss[i].wr key/\1<=bK ss[j].wr key
 |[],key,_,h=>by simp[bK]at h
 |s::ss,key,h1,h=>by
  rw[oR]at h;have h0:=h1 0 (by simp);simp only[aB]at h0
  by_cases hs:1<=bK s.wr key
  ·obtain⟨j,hj,h2⟩:=vY (ss:=ss) (key:=key) (by omega);exact⟨0,j+1,by simp,by simpa using hj,by omega,hs,h2⟩
  ·obtain⟨i,j,hi,hj,hne,h2,h3⟩:=kA2 (ss:=ss) (key:=key) (fun i hi=>h1 (i+1) (by simpa using hi)) (by omega);exact⟨i+1,j+1,by simpa using hi,by simpa using hj,by omega,h2,h3⟩
def kZ (W:Wd):Bool:=(W.ss.flatMap (·.wr)).all fun p=>decide (bK (W.ss.flatMap (·.wr)) p.1<=1)
theorem kA3 {W:Wd}{key:ByteArray}(h:1<bK (W.ss.flatMap (·.wr)) key):kZ W=false:=by
 unfold kZ;rw[List.all_eq_false]
 have: ∃p∈W.ss.flatMap (·.wr),bN p.1 key=true:=by
  have h':0<((W.ss.flatMap (·.wr)).filter fun p=>bN p.1 key).length:=by unfold bK at h;omega
  obtain⟨p,hp⟩:=List.exists_mem_of_length_pos h';rw[List.mem_filter]at hp;exact⟨p,hp.1,hp.2⟩
 obtain⟨p,hp,he⟩:=this;refine⟨p,hp,?_⟩;rw[iK.1 he];simp;omega
theorem kA4 {W:Wd}(h: ∀key,bK (W.ss.flatMap (·.wr)) key<=1):kZ W=true:=by
 unfold kZ;rw[List.all_eq_true];intro p _;exact cF (h p.1)
theorem mQ {l:PL}{key:ByteArray}(hr:bG l=true):1<=bK l key ↔ (aX l key).isSome=true:=by
 rw[vW hr]
 cases (aX l key).isSome<;>simp
theorem vA5 {l:PL}{key:ByteArray}(hr:bG l=true):bK l key<=1:=by rw[vW hr];split<;>omega
theorem vA6 {W:Wd}(hr: ∀i (hi:i<W.ss.length),bG W.ss[i].wr=true):kZ W=qJ W.ss:=by
 cases h:qJ W.ss
 · -- two sessions
  have: ¬ ∀i (hi:i<W.ss.length),∀p∈W.ss[i].wr,eI W.ss i p.1=false:=fun hn=>by rw[sK.2 hn]at h;cases h
  apply gP
  intro hc;have hc:kZ W=true:=by cases e:kZ W with|true=>rfl|false=>exact absurd e hc
  apply this
  intro i hi p hp
  cases e:eI W.ss i p.1
  ·rfl
  ·obtain⟨k,hk,hs,hne⟩:=sJ.1 e;have h1:=(mQ (hr k hk)).2 hs;have h2:=(mQ (hr i hi)).2 (oL hp)
   have h3:2<=bK (W.ss.flatMap (·.wr)) p.1:=by
    rcases Nat.lt_or_gt_of_ne (show k≠i by omega)with hlt|hlt
    ·have:=vX (key:=p.1) hlt hi;omega
    ·have:=vX (key:=p.1) hlt hk;omega
   rw[kA3 (key:=p.1) (by omega)]at hc;cases hc
 ·have ha:=sK.1 h;refine kA4 fun key=>?_
  apply gP
  intro hc;obtain⟨i,j,hi,hj,hne,h1,h2⟩:=kA2 (key:=key) (fun i hi=>vA5 (hr i hi)) (show 2<=bK (W.ss.flatMap (·.wr)) key by omega);have s1:=(mQ (hr i hi)).1 h1;have s2:=(mQ (hr j hj)).1 h2;obtain⟨v,hv⟩:=Option.isSome_iff_exists.1 s1;have:=ha i hi _ (kF hv);rw[kX hj s2 (by omega)]at this
  cases this
theorem vA7 (l:List UInt8)(h:eV l<l.length):l=l.take (eV l)++32::l.drop (eV l+1):=by
 induction l with
 |nil=>simp at h
 |cons c l ih=>
  by_cases hc:(c==32)=true
  ·have e:eV (c::l)=0:=by rw[eV,if_pos hc]
   rw[e];have:c=32:=by simpa using hc
   simp[this]
  ·have e:eV (c::l)=eV l+1:=by rw[eV,if_neg hc]
   rw[e]at h ⊢;have h2:=ih (by simpa using h);simp only[List.take_succ_cons,List.drop_succ_cons,List.cons_append];rw[<-h2]
theorem vA8 (s:ByteArray):(aK s).data.toList=s.data.toList.take (fD s):=by
 unfold aK;rw[Lib.extract_data];simp
theorem vA9 (s:ByteArray):(cutB s).data.toList=s.data.toList.drop (fD s+1):=by
 unfold cutB;rw[Lib.extract_data,jR];simp
theorem kA5 {s:ByteArray}(h:dK s=true):s.data.toList=(aK s).data.toList++32::(cutB s).data.toList:=by
 unfold dK at h;simp only[decide_eq_true_eq]at h;rw[vA8,vA9];exact vA7 s.data.toList (by simpa [fD] using h)
theorem kA6 {s:ByteArray}(h:dK s=false):aK s=s/\cutB s=⟨#[]⟩:=by
 unfold dK at h;simp only[decide_eq_false_iff_not]at h;have e:fD s=s.size:=by have:=kT s;omega
 exact⟨uZ e,rP e⟩
theorem vAa {v:ByteArray}(h:gY v=true):v.size<=38:=by
 unfold gY at h;simp only[eB,decide_eq_true_eq]at h;have a1:=rV v;have a2:=rV (cutB v);have a3:=yV (t:=v) (by omega);have a4:=oJ h.2.2.1;have a5:=vH h.2.2.2;omega
theorem vAb (k:Nat)(key v:ByteArray):((gS k++(⟨#[32]⟩++key))++(⟨#[32]⟩++v)).data.toList=gD k++32::(key.data.toList++32::v.data.toList):=by
 simp[ByteArray.data_append,gS]
theorem vAc (k:Nat)(key:ByteArray):(gS k++(⟨#[32]⟩++key)).data.toList=gD k++32::key.data.toList:=by
 simp[ByteArray.data_append,gS]
theorem vZ {s:ByteArray}(h:dI s=0):bZ (aU (aK s)) (aK (cutB s)) (cutB (cutB s))=0/\nJ (aU (aK s)) (aK (cutB s)) (cutB (cutB s))=s:=by
 have hl: ¬60<s.size:=fun hl=>by rw[lU hl]at h;cases h
 have hsp:dV s=0:=gP fun hs=>by rw[oI hl hs]at h;exact hs h
 have hc:=kU hl hsp;rw[h]at hc;refine⟨hc.symm,?_⟩;obtain⟨g1,g2,g3,g4,g5,g6⟩:=kE hc.symm;obtain⟨h0,hb⟩:=rR hsp;have hw:=qA (s:=aK s) (by omega);have hwA:(gS (aU (aK s))).data.toList=(aK s).data.toList:=by rw[vA,hw]
 unfold gL at hb
 cases f1:dK s
 ·have hp:=yW f1;rw[hp.1]at g5
  have h6:aU (aK s)<6:=by
   rw[kV rfl]at g5;have:=of_decide_eq_true g5.symm;omega
  rw[zA5 h6]
  apply kS
  rw[hwA,(kA6 f1).1]
 ·rw[f1]at hb
  have hk:(aK (cutB s)).toList.isEmpty=false:=by
   cases e:(aK (cutB s)).toList.isEmpty
   ·rfl
   ·rw[e]at hb;simp at hb
  rw[hk]at g5
  have h6: ¬aU (aK s)<6:=by
   have:=of_decide_eq_false g5.symm;omega
  have hj:=kA5 f1
  cases f2:dK (cutB s)
  ·have hw2:=kA6 f2;rw[hw2.2]at g6
   have h9:aU (aK s)<9:=by
    rw[kV rfl]at g6;have:=of_decide_eq_true g6.symm;omega
   rw[zA6 h6 h9]
   apply kS
   rw[vAc,hw,hw2.1];exact hj.symm
  ·rw[f2,hk]at hb
   have hv:(cutB (cutB s)).toList.isEmpty=false:=by
    cases e:(cutB (cutB s)).toList.isEmpty
    ·rfl
    ·rw[e]at hb;simp at hb
   rw[hv]at g6
   have h9: ¬aU (aK s)<9:=by
    have:=of_decide_eq_false g6.symm;omega
   rw[zA7 h9]
   apply kS
   rw[vAb,hw,<-kA5 f2];exact hj.symm
def jU:ByteArray:=⟨#[102,97,105,108,101,100,32,97,108,114,101,97,100,121]⟩
def kG:ByteArray:=⟨#[98,101,103,117,110,32,97,108,114,101,97,100,121]⟩
def iP:ByteArray:=⟨#[110,111,32,116,114,97,110,115,97,99,116,105,111,110]⟩
def kH:ByteArray:=⟨#[110,111,116,32,105,110,32,97,32,116,114,97,110,115,97,99,116,105,111,110]⟩
def lB:ByteArray:=⟨#[97,115,32,97,115,107,101,100]⟩
def kI:ByteArray:=⟨#[110,111,116,32,112,114,101,112,97,114,101,100]⟩
def eQ:ByteArray:=⟨#[102,117,108,108]⟩
def kJ:ByteArray:=⟨#[104,101,108,100]⟩
structure cU where
 kind:Int
 text:ByteArray
def cY (t:ByteArray):cU:=⟨4,t⟩
def dX:cU:=⟨1,⟨#[]⟩⟩
def eT (o:Option ByteArray):cU:=match o with
 |some v=>⟨2,v⟩
 |none=>⟨3,⟨#[]⟩⟩
def Wd.at (W:Wd)(i:Nat):Sess:=W.ss.getD i ⟨0,[],[],[],[]⟩
def Wd.put (W:Wd)(i:Nat)(s:Sess):Wd:=⟨W.rows,W.ss.set i s⟩
def cL (rows l:PL):PL:=l.foldl (fun a p=>bI a p.1 p.2) rows
def did1 (W:Wd)(i:Nat)(k:Int)(key val:ByteArray):Wd×cU:=
 let s:=W.at i
 if s.st=2/\ ¬(k=2\/k=3)then(W,cY jU)
 else if k=1 then(if s.st=0 then(W.put i {s with st:=1,sav:=s.set},dX)else(W,cY kG))
 else if k=2\/k=3 then
  (if s.st = 0 then (W, cY iP)
  else if k=2/\s.st=1 then(⟨cL W.rows s.wr,W.ss.set i {s with st:=0,sav:=[],wr:=[]}⟩,dX)
  else (W.put i { s with st := 0, set := s.sav, sav := [], wr := [] }, dX))
 else if k=4 then(if s.st=0 then(W.put i {s with set:=[],prep:=[]},dX)else(W,cY kH))
 else if k=6 then(W,eT (aX s.set key))
 else if k=7 then(W,eT (match aX s.wr key with|some v=>some v|none=>aX W.rows key))
 else if k=9 then(if aM s.set key=false/\6<=s.set.length then(W,cY eQ)else(W.put i {s with set:=bI s.set key val},dX))
 else if k=10 then
  (if eI W.ss i key = true then (W, cY kJ)
  else if aM (aW W) key=false/\100<=(aW W).length then(W,cY eQ)
  else if s.st=1 then(W.put i {s with wr:=bI s.wr key val},dX)
  else (⟨bI W.rows key val, W.ss⟩, dX))
 else if k=11 then(if aM s.prep key=false/\6<=s.prep.length then(W,cY eQ)else(W.put i {s with prep:=bI s.prep key val},dX))
 else(W,cY lB)
def didM (W:Wd)(i:Nat)(k:Int)(key val:ByteArray):Wd×cU:=
 if k=8 then
  (if (W.at i).st = 2 then (W, cY jU)
  else match aX (W.at i).prep key with
   |none=>(W,cY kI)
   | some t => did1 W i (aU (aK t)) (aK (cutB t)) (cutB (cutB t)))
 else did1 W i k key val
def doM (W:Wd)(i:Nat)(k:Int)(key val:ByteArray):Wd×cU:=
 let r:=didM W i k key val
 if r.2.kind=4/\(r.1.at i).st=1 then(r.1.put i {r.1.at i with st:=2,wr:=[]},r.2)else r
def kK (W:Wd)(i:Int)(k:Int)(key val:ByteArray):Int:=
 if iA W=false then 5 else if i<0\/(W.ss.length:Int)<=i then 6 else bZ k key val
def Sz60 (l:PL):Prop:=l.length<=100/\ ∀p∈l,p.1.size<=8/\p.2.size<=60
theorem mA {l:PL}{most:Nat}{kind:Int}(hm:most<=100)(h:cD l most kind=true):Sz60 l:=by
 obtain⟨_,h2,h3⟩:=bW h;refine⟨by omega,fun p hp=>?_⟩;have hg:=kE (h3 p hp);exact⟨hg.key8,hg.v60⟩
def slc (g n c:Nat):Value:= .slice (some ⟨g,0,none⟩) n c
structure gV (W:Wd):Prop where
 rows:Sz60 W.rows
 many:W.ss.length<=8
 li: ∀i j (h:i<W.ss.length),j<4->Sz60 (W.ss[i].li j)
theorem Sz60.sz {l:PL}(h:Sz60 l):Sz l:=fun p hp=>⟨by have:=(h.2 p hp).1;omega,by have:=(h.2 p hp).2;omega⟩
theorem dN {W:Wd}(h:bX W):gV W:=by
 refine⟨mA (aI _) h.rows,h.many,fun i j hi hj=>?_⟩;have s:=h.sess i hi;rcases j4 hj with rfl|rfl|rfl|rfl
 ·exact mA (by omega) s.set
 ·exact mA (by omega) s.prep
 ·exact mA (by omega) s.sav
 ·exact mA (by omega) s.wr
structure OwnD (w:World)(X S gR cR:Nat)(G C:Nat->Nat->Nat)(W:Wd):Prop where
 box:RowTo w X 39 2 [slc gR W.rows.length cR,slc S W.ss.length W.ss.length]
 rows:OwnL w gR cR W.rows
 blk:RowTo w S 115 (W.ss.length*5) []
 st: ∀i (h:i<W.ss.length),w.cell? ⟨S,i*5,none⟩=some (.int .i64 W.ss[i].st)
 cs: ∀i j (h:i<W.ss.length),j<4->w.cell? ⟨S,i*5+(j+1),none⟩=some (slc (G i j) (W.ss[i].li j).length (C i j))
 ls: ∀i j (h:i<W.ss.length),j<4->OwnL w (G i j) (C i j) (W.ss[i].li j)
 neXS:X≠S
 neRX:gR≠X
 neRS:gR≠S
 neGX: ∀i j,i<W.ss.length->j<4->G i j≠X
 neGS: ∀i j,i<W.ss.length->j<4->G i j≠S
 neGR: ∀i j,i<W.ss.length->j<4->G i j≠gR
 inj: ∀i j i' j',i<W.ss.length->j<4->i'<W.ss.length->j'<4->G i j=G i' j'->i=i'/\j=j'
structure LoD (base X S gR:Nat)(G:Nat->Nat->Nat)(n:Nat):Prop where
 x:base<=X
 s:base<=S
 r:base<=gR
 g: ∀i j,i<n->j<4->base<=G i j
def LoV (lo:Nat)(v:Value):Prop:= ∀a n c,v= .slice (some a) n c->lo<=a.block
theorem LoV.at {lo b o n c:Nat}(h:lo<=b):LoV lo (.slice (some ⟨b,o,none⟩) n c):=fun a n' c' e=>by injection e with e;injection e with e;subst e;exact h
theorem LoV.slc {lo g n c:Nat}(h:lo<=g):LoV lo (slc g n c):=LoV.at h
theorem LoV.non (lo n c:Nat):LoV lo (.slice none n c):=fun a n' c' e=>by injection e with e;cases e
theorem LoD.v {base X S gR n:Nat}{G:Nat->Nat->Nat}(h:LoD base X S gR G n){i j:Nat}(hi:i<n)(hj:j<4){m c:Nat}:LoV base (Go.Proofs.YtpbaobmegomfpabGreatDoor.slc (G i j) m c):=LoV.at (h.g i j hi hj)
structure EndW (w:World)(base X S:Nat)(W:Wd):Prop where
 box: ∃r,RowTo w X 39 2 [r,slc S W.ss.length W.ss.length]/\Wld w w.heap.size r (slc S W.ss.length W.ss.length) W/\LoV base r
 blk:RowTo w S 115 (W.ss.length*5) []
 loX:base<=X
 loS:base<=S
 los: ∀k j v,k<W.ss.length->j<4->w.cell? ⟨S,k*5+(j+1),none⟩=some v->LoV base v
theorem OwnD.kept {w w':World}{X S gR cR:Nat}{G C:Nat->Nat->Nat}{W:Wd}(h:OwnD w X S gR cR G C W)(hb:Below w.heap.size w w'):OwnD w' X S gR cR G C W:=
 ⟨h.box.below hb h.box.lt, h.rows.below hb h.rows.row.lt, h.blk.below hb h.blk.lt, fun i hi => (hb.cell (p := ⟨S, i * 5, none⟩) h.blk.lt).trans (h.st i hi), fun i j hi hj => (hb.cell (p := ⟨S, i * 5 + (j + 1), none⟩) h.blk.lt).trans (h.cs i j hi hj),
  fun i j hi hj => (h.ls i j hi hj).below hb (h.ls i j hi hj).row.lt, h.neXS, h.neRX, h.neRS, h.neGX, h.neGS, h.neGR, h.inj⟩
theorem OwnD.list {w:World}{X S gR cR:Nat}{G C:Nat->Nat->Nat}{W:Wd}(h:OwnD w X S gR cR G C W)(hz:gV W){i j:Nat}(hi:i<W.ss.length)(hj:j<4):Lst w w.heap.size (slc (G i j) (W.ss[i].li j).length (C i j)) (W.ss[i].li j):=
 (h.ls i j hi hj).lst (by have:=(hz.li i j hi hj).1;omega) (hz.li i j hi hj).sz
theorem OwnD.left {w w':World}{X S gR cR:Nat}{G C:Nat->Nat->Nat}{W:Wd}{base:Nat}(h:OwnD w X S gR cR G C W)(lo:LoD base X S gR G W.ss.length){r v1 v2 v3 v4:Value}(lr:LoV base r)(lv:LoV base v1/\LoV base v2/\LoV base v3/\LoV base v4)(hz:gV W){i:Nat}(hi:i<W.ss.length){s':Sess}{rows':PL}(hsz:w.heap.size<=w'.heap.size)
  (hbox:RowTo w' X 39 2 [r,slc S W.ss.length W.ss.length]) (hblk:RowTo w' S 115 (W.ss.length*5) []) (hr:Lst w' w'.heap.size r rows')
  (hS: ∀k j,k≠i->j<5->w'.cell? ⟨S,k*5+j,none⟩=w.cell? ⟨S,k*5+j,none⟩)
  (hL: ∀k j,k<W.ss.length->k≠i->j<4->w'.heap[G k j]? =w.heap[G k j]?)
  (hs:Ses w' w'.heap.size S (i*5) s' v1 v2 v3 v4):EndW w' base X S ⟨rows',W.ss.set i s'⟩:=by
 have hl:(W.ss.set i s').length=W.ss.length:=fI;refine⟨⟨r,by rw[hl];exact hbox,⟨hr,⟨⟨_,_,rfl,by rw[hl];exact aI _⟩,by rw[hl];have:=hz.many;omega,fun hn=>⟨S,0,W.ss.length,by rw[hl];rfl,hblk.lt,fun k hk=>?_⟩⟩⟩,lr⟩,by rw[hl];exact hblk,lo.x,lo.s,fun k j v hk hj hv=>?_⟩
 case refine_2=>
  rw[hl]at hk
  by_cases e:k=i
  ·subst e;rcases j4 hj with rfl|rfl|rfl|rfl
   ·rw[hs.c1]at hv;injection hv with hv;rw[<-hv];exact lv.1
   ·rw[hs.c2]at hv;injection hv with hv;rw[<-hv];exact lv.2.1
   ·rw[hs.c3]at hv;injection hv with hv;rw[<-hv];exact lv.2.2.1
   ·rw[hs.c4]at hv;injection hv with hv;rw[<-hv];exact lv.2.2.2
  ·rw[hS k (j+1) e (by omega),h.cs k j hk hj]at hv;injection hv with hv;rw[<-hv];exact lo.v hk hj
 rw[hl]at hk;rw[cW]
 by_cases e:k=i
 ·subst e;simp only[List.getElem_set_self];exact⟨_,_,_,_,hs⟩
 ·simp only[List.getElem_set_ne (Ne.symm e)];have c0:=(hS k 0 e (by omega)).trans (h.st k hk);have c1:=(hS k 1 e (by omega)).trans (h.cs k 0 hk (by omega));have c2:=(hS k 2 e (by omega)).trans (h.cs k 1 hk (by omega));have c3:=(hS k 3 e (by omega)).trans (h.cs k 2 hk (by omega));have c4:=(hS k 4 e (by omega)).trans (h.cs k 3 hk (by omega))
  have ll: ∀j,j<4->Lst w' w'.heap.size (slc (G k j) (W.ss[k].li j).length (C k j)) (W.ss[k].li j):=fun j hj=>
   ((h.ls k j hk hj).same (hL k j hk e hj)).lst (by have:=(hz.li k j hk hj).1;omega) (hz.li k j hk hj).sz
  exact⟨_,_,_,_,c0,c1,c2,c3,c4,ll 0 (by omega),ll 1 (by omega),ll 2 (by omega),ll 3 (by omega)⟩
theorem Lst.none_ (w:World)(B:Nat):Lst w B (.slice none 0 0) []:=⟨⟨none,0,rfl,aI _⟩,by simp,by simp,fun h=>absurd h (by simp),fun n c h=>by injection h with _ _ h;exact h.symm⟩
theorem vAd (w:World)(p:Addr)(st:Int)(hc:w.cell? p=some (.int .i64 st))(hst:st≠0):
  Calls Tryz.prog 65 #[.pointer (some p)] w fun e w'=>e= .returned (bQ 4 kG)/\Below w.heap.size w w':=by
 have hp:=World.block_lt_of_cell? w _ hc;have h1:(st !=0)=true:=eP.2 hst;clear hst;go_enter Tryz.func65,Tryz.ntmps65;go_wp2_with fail;refine(lZ kG _).mono ?_;rintro e w9 ⟨rfl,hb9⟩;have X9:=(RowTo.whole w #[.int .i64 0,.string ⟨#[]⟩,.int .i64 0] 46).below hb9 (by simp);have r0:=X9.cell (j:=0) (by simp);have r1:=X9.cell (j:=1) (by simp);have r2:=X9.cell (j:=2) (by simp);have s0:=X9.frozen 0;have s1:=X9.frozen 1;have s2:=X9.frozen 2;simp only[aB,aC]at r0 r1 r2;have B9:=aA (aR ((aD w.heap.size w).alloc (aI _) _) hb9 (by simp));clear X9 hb9;unfold bQ;go_wp2;refine bE (v:= .agg #[.int .i64 4,.string kG,.int .i64 0]) (by simp[results,Tryz.results65,go_sem,r0,r1,r2]) rfl ⟨rfl,?_⟩;exact((B9.out.setCell (by simp) _).setCell (by simp) _).setCell (by simp) _
end Go.Proofs.YtpbaobmegomfpabGreatDoor
namespace Go.Proofs.YtpbaobmegomfpabGreatDoor
open Go.RowKit
theorem wC (cs:Array Value)(n:Nat):(madeCells cs n).size=n:=by simp[madeCells]
theorem kA7:(Tryz.prog.info? 60).map (fun i=>(i.zero,i.size,i.bytes))=some (some (.agg #[.string ⟨#[]⟩,.string ⟨#[]⟩]),2,32):=by kernel_rfl
theorem vAe (n:Nat)(h:n*32<=140737488351232)(w:World):
  (Instr.makeSlice 27 (.int .i64 (n:Int)) (.int .i64 (n:Int))).run Tryz.prog w= .ok (.slice (some ⟨w.heap.size,0,none⟩) n n) (w.alloc (.cells (madeCells (Value.agg #[.string ⟨#[]⟩,.string ⟨#[]⟩]).cells (n*2)) 60)):=by
 obtain⟨i0,hi,hz0,hz1,hz2⟩:=info_parts kA7;have hr:=run_make (P:=Tryz.prog) w 27 60 i0 _ Tryz.underlying27 hi hz0 .i64 .i64 (n:Int) (n:Int) (by omega) (Int.le_refl _) (by rw[hz2];omega) (by omega);rw[hz1]at hr
 simpa only[Int.toNat_natCast] using hr
theorem eD {w:World}{b R i j k:Nat}{u x y:Value}(h:w.cell? ⟨b,i,none⟩=some u)(hne:b≠R):
  ((w.setCell ⟨R,j,none⟩ x).setCell ⟨R,k,none⟩ y).cell? ⟨b,i,none⟩=some u:=by
 simp[go_sem,h]
theorem nO (w:World)(cs:Array Value)(t:TypeId)(i:Nat)(h:i<cs.size):(w.alloc (.cells cs t)).cell? ⟨w.heap.size,i,none⟩=some cs[i]:=by
 rw[World.cell?_alloc_at _ _ _ _ rfl,Array.getElem?_eq_getElem h]
theorem jB {B:Nat}{a b c:World}(h:Below B a b)(k:Below b.heap.size b c)(hB:B<=b.heap.size):Below B a c:=h.trans (k.mono hB)
theorem mB {B n:Nat}{a b c:World}(h:Below B a b)(k:Below (b.drewN n).heap.size (b.drewN n) c)(hB:B<=b.heap.size):Below B a c:=
 h.trans ⟨k.os,k.tape,k.output,k.size,fun i hi=>k.block i (bD hi hB)⟩
theorem oS (v:Value)(l:PL)(w:World)(hl:Lst w w.heap.size v l):
  Calls Tryz.prog 63 #[v] w fun e w'=> ∃g,e= .returned (.slice (some ⟨g,0,none⟩) l.length l.length)/\w.heap.size<=g/\RowTo w' g 60 (l.length*2) (bO l)/\Below w.heap.size w w':=by
 obtain⟨A,c,rfl,hc⟩:=hl.form;have hby:=hl.bytes;have hmk:=vAe l.length hby;have HL:=aA hl;clear hl;go_enter Tryz.func63,Tryz.ntmps63;go_wp2;clear hmk
 go_loopw [11] (fun i wr=> ∃k:Nat,k<=l.length/\i= .int .i64 k/\RowTo wr w.heap.size 60 (l.length*2) (bO (l.take k))/\Below w.heap.size w wr) (fun i _=>l.length-(intOf i).toNat)
 case atStart=>
  refine⟨0,by omega,rfl,?_,(aD _ _).alloc (aI _) _⟩;have:=RowTo.new w (madeCells #[.string ⟨#[]⟩,.string ⟨#[]⟩] (l.length*2)) 60;rw[wC]at this;exact this
 case round=>
  obtain⟨k,hk,rfl,hrow,bel⟩:=hrel
  by_cases hlt:k<l.length
  ·obtain⟨b,off,rfl,hb,c0,c1⟩:=HL.out.pt hlt;obtain⟨z0,z1⟩:=HL.out.key hlt;have hwlt:=hrow.lt;have d0:=(bel.cell (p:=⟨b,off+k*2,none⟩) hb).trans c0;have d1:=(bel.cell (p:=⟨b,off+k*2+1,none⟩) hb).trans c1;have HS:=aA (zA8 l k hlt);have hlen:=aA (show(bO (l.take k)).length=k*2 by rw[fE,gK];omega);have HR:=aA hrow;have HB:=aA bel;clear hrow bel c0 c1;go_wp2;clear d0 d1;generalize hq0:l[k].1=s0 at*;generalize hq1:l[k].2=s1 at*;have HQ:=aA (aJ hq0 hq1);clear hq0 hq1;have e0:=nO wr #[.string s0,.string s1] 60 0 (by simp);have e1:=nO wr #[.string s0,.string s1] 60 1 (by simp);simp only[aE,aB,aC]at e0 e1;have R0:=aA (HR.out.alloc (.cells #[.string s0,.string s1] 60));have B0:=aA (HB.out.alloc HB.out.size (.cells #[.string s0,.string s1] 60));have hz0:wr.heap.size<(wr.alloc (.cells #[.string s0,.string s1] 60)).heap.size:=by simp
   generalize wr.alloc (.cells #[.string s0,.string s1] 60)=W0 at*;have kb:=aD W0.heap.size W0;have hz1:w.heap.size<W0.heap.size:=by omega
   have hne:wr.heap.size≠w.heap.size:=by omega
   go_region_held3 (fun wx=>wx.cell? ⟨wr.heap.size,0,none⟩=some (.string s0)/\wx.cell? ⟨wr.heap.size,1,none⟩=some (.string s1))
    (first|exact⟨e0,e1⟩|exact⟨eD ((kb.cell (p:=⟨wr.heap.size,0,none⟩) hz0).trans e0) hne,eD ((kb.cell (p:=⟨wr.heap.size,1,none⟩) hz0).trans e1) hne⟩|exact⟨(kb.cell (p:=⟨wr.heap.size,0,none⟩) hz0).trans e0,(kb.cell (p:=⟨wr.heap.size,1,none⟩) hz0).trans e1⟩)
    (first
     | (
      go_at_call_of 46 (Value.string s0)
      refine(jT s0 _ (by omega)).mono ?_;rintro e w3 ⟨rfl,hy⟩;have kb:Below W0.heap.size W0 w3:=by first|exact jB kb hy kb.size|exact mB kb hy kb.size
      have R1:=aA (R0.out.below kb hz1);obtain⟨u0,f0⟩:=R1.out.any (j:=k*2) (by omega);obtain⟨u1,f1⟩:=R1.out.any (j:=k*2+1) (by omega);have g0:=R1.out.frozen (k*2)
      have g1 := R1.out.frozen (k * 2 + 1))
     | (
      go_at_call_of 46 (Value.string s1)
      refine(jT s1 _ (by omega)).mono ?_;rintro e w3 ⟨rfl,hy⟩;have kb:Below W0.heap.size W0 w3:=by first|exact jB kb hy kb.size|exact mB kb hy kb.size
      have R1:=aA (R0.out.below kb hz1);obtain⟨u0,f0⟩:=R1.out.any (j:=k*2) (by omega);obtain⟨u1,f1⟩:=R1.out.any (j:=k*2+1) (by omega);have g0:=R1.out.frozen (k*2)
      have g1 := R1.out.frozen (k * 2 + 1)))
   go_wp2;go_roundw
   case rel=>
    have l1:=hlen.out;refine⟨k+1,by omega,by go_num,?_,?_⟩
    ·rw[HS.out];exact(R1.out.push (by omega) _ l1.symm).push (by simp;omega) _ (by simp;omega)
    ·exact((B0.out.trans (kb.mono (by omega))).setCell (aI _) _).setCell (aI _) _
   case measure=>simp[intOf];omega
  ·go_wp2;go_ret;refine⟨w.heap.size,rfl,aI _,?_,bel⟩;rw[jR (by omega)]at hrow;exact hrow
def kA8 (w w':World)(X S gR:Nat)(G:Nat->Nat->Nat)(n:Nat):Prop:= ∀b,b<w.heap.size->b≠X->b≠S->b≠gR->(∀i j,i<n->j<4->b≠G i j)->w'.heap[b]? =w.heap[b]?
def lC (w:World)(base X S gR:Nat)(G:Nat->Nat->Nat)(n:Nat)(W:Wd)(e:Ending)(w':World):Prop:=e= .returned (bQ 1 ⟨#[]⟩)/\EndW w' base X S W/\Below base w w'/\kA8 w w' X S gR G n
theorem fY {W:Wd}{i:Nat}(h:i<W.ss.length):W.at i=W.ss[i]:=by
 unfold Wd.at;rw[eU,dP h];rfl
structure Chs (w w' wS:World)(S:Nat):Prop where
 os:w'.os=w.os
 tape:w'.tape=w.tape
 output:w'.output=w.output
 size:w.heap.size<=w'.heap.size
 other: ∀b,b<w.heap.size->b≠S->w'.heap[b]? =w.heap[b]?
 here:w'.heap[S]? =wS.heap[S]?
theorem Chs.refl (w:World)(S:Nat):Chs w w w S:=⟨rfl,rfl,rfl,aI _,fun _ _ _=>rfl,rfl⟩
theorem Chs.below {w w' w'' wS:World}{S B:Nat}(h:Chs w w' wS S)(hb:Below B w' w'')(hB:w.heap.size<=B)(hS:S<w.heap.size):Chs w w'' wS S:=
 ⟨hb.os.trans h.os,hb.tape.trans h.tape,hb.output.trans h.output,bL h.size hb.size,fun b hbl hne=>(hb.block b (by omega)).trans (h.other b hbl hne),(hb.block S (by omega)).trans h.here⟩
theorem Chs.alloc {w w' wS:World}{S:Nat}(h:Chs w w' wS S)(hS:S<w.heap.size)(o:Obj):Chs w (w'.alloc o) wS S:=
 h.below (B:=w'.heap.size) ((aD _ _).alloc (aI _) o) h.size hS
theorem Chs.setS {w w' wS:World}{S j:Nat}(h:Chs w w' wS S)(v:Value):Chs w (w'.setCell ⟨S,j,none⟩ v) (wS.setCell ⟨S,j,none⟩ v) S:=
 ⟨h.os,h.tape,h.output,by simpa [cE] using h.size,fun b hb hne=>(bF _ _ _ _ hne).trans (h.other b hb hne),mO (p:=⟨S,j,none⟩) h.here⟩
theorem Chs.setN {w w' wS:World}{S:Nat}(h:Chs w w' wS S){p:Addr}(hp:w.heap.size<=p.block)(hS:S<w.heap.size)(v:Value):Chs w (w'.setCell p v) wS S:=
 ⟨h.os,h.tape,h.output,by simpa [cE] using h.size,fun b hb hne=>(bF _ _ _ _ (by omega)).trans (h.other b hb hne),(bF _ _ _ _ (by omega)).trans h.here⟩
theorem Chs.bel {w w' wS:World}{S base:Nat}(h:Chs w w' wS S)(hb:base<=S)(hw:base<=w.heap.size):Below base w w':=
 ⟨h.os,h.tape,h.output,h.size,fun k hk=>h.other k (by omega) (by omega)⟩
theorem OwnD.turned {w w' wS:World}{X S gR cR:Nat}{G C:Nat->Nat->Nat}{W:Wd}{base:Nat}(h:OwnD w X S gR cR G C W)(lo:LoD base X S gR G W.ss.length){v1 v2 v3 v4:Value}(lv:LoV base v1/\LoV base v2/\LoV base v3/\LoV base v4)(hz:gV W){i:Nat}(hi:i<W.ss.length){s':Sess}(hc:Chs w w' wS S)
  (hblk:RowTo wS S 115 (W.ss.length*5) []) (hS: ∀k j,k≠i->j<5->wS.cell? ⟨S,k*5+j,none⟩=w.cell? ⟨S,k*5+j,none⟩)
  (c0:wS.cell? ⟨S,i*5,none⟩=some (.int .i64 s'.st)) (c1:wS.cell? ⟨S,i*5+1,none⟩=some v1) (c2:wS.cell? ⟨S,i*5+2,none⟩=some v2) (c3:wS.cell? ⟨S,i*5+3,none⟩=some v3) (c4:wS.cell? ⟨S,i*5+4,none⟩=some v4)
  (l1:Lst w' w'.heap.size v1 s'.set) (l2:Lst w' w'.heap.size v2 s'.prep) (l3:Lst w' w'.heap.size v3 s'.sav) (l4:Lst w' w'.heap.size v4 s'.wr):EndW w' base X S (W.put i s'):=by
 have cc: ∀j,w'.cell? ⟨S,j,none⟩=wS.cell? ⟨S,j,none⟩:=fun j=>aV hc.here
 refine h.left lo (LoV.slc lo.r) lv hz hi hc.size (h.box.same (hc.other X h.box.lt h.neXS)) (hblk.same hc.here) ((h.rows.same (hc.other gR h.rows.row.lt h.neRS)).lst (by have:=hz.rows.1;omega) hz.rows.sz)
  (fun k j hk hj=>(cc _).trans (hS k j hk hj)) (fun k j hk hne hj=>hc.other _ (h.ls k j hk hj).row.lt (h.neGS k j hk hj)) ⟨(cc _).trans c0,(cc _).trans c1,(cc _).trans c2,(cc _).trans c3,(cc _).trans c4,l1,l2,l3,l4⟩
theorem OwnD.li_kept {w w' wS:World}{X S gR cR:Nat}{G C:Nat->Nat->Nat}{W:Wd}(h:OwnD w X S gR cR G C W)(hz:gV W){i j:Nat}(hi:i<W.ss.length)(hj:j<4)(hc:Chs w w' wS S):Lst w' w'.heap.size (slc (G i j) (W.ss[i].li j).length (C i j)) (W.ss[i].li j):=
 ((h.ls i j hi hj).same (hc.other _ (h.ls i j hi hj).row.lt (h.neGS i j hi hj))).lst (by have:=(hz.li i j hi hj).1;omega) (hz.li i j hi hj).sz
theorem vAf (base X S gR cR:Nat)(G C:Nat->Nat->Nat)(W:Wd)(i:Nat)(w:World)(h:OwnD w X S gR cR G C W)(lo:LoD base X S gR G W.ss.length)(hz:gV W)(hb:base<=w.heap.size)(hi:i<W.ss.length)(hst:W.ss[i].st=0):
  Calls Tryz.prog 65 #[.pointer (some ⟨S,i*5,none⟩)] w (lC w base X S gR G W.ss.length (W.put i {W.ss[i]with st:=1,sav:=W.ss[i].set})):=by
 have c0:=h.st i hi;rw[hst]at c0;have c1:w.cell? ⟨S,i*5+1,none⟩=some (.slice (some ⟨G i 0,0,none⟩) W.ss[i].set.length (C i 0)):=h.cs i 0 hi (by omega);have hSw:=h.blk.lt;have hO:=h.ls i 0 hi (by omega);have hne:=h.neGS i 0 hi (by omega);have f0:=h.blk.frozen (i*5);have f3:=h.blk.frozen (i*5+3);obtain⟨u3,d3⟩:=h.blk.any (j:=i*5+3) (by omega);have hs0:=(hz.li i 0 hi (by omega));have H:=aA h;have HO:=aA hO;have HZ:=aA hz;have H60:=aA hs0;clear h hO hs0;go_enter Tryz.func65,Tryz.ntmps65;go_wp2_with fail;have ch1:=((Chs.refl w S).setS (j:=i*5) (.int .i64 1)).alloc hSw (.cells #[.int .i64 0,.string ⟨#[]⟩,.int .i64 0] 46)
 have O1:Lst ((w.setCell ⟨S,i*5,none⟩ (.int .i64 1)).alloc (.cells #[.int .i64 0,.string ⟨#[]⟩,.int .i64 0] 46)) ((w.setCell ⟨S,i*5,none⟩ (.int .i64 1)).alloc (.cells #[.int .i64 0,.string ⟨#[]⟩,.int .i64 0] 46)).heap.size (.slice (some ⟨G i 0,0,none⟩) W.ss[i].set.length (C i 0)) W.ss[i].set:=
  (HO.out.same (ch1.other _ HO.out.row.lt hne)).lst (by have:=H60.out.1;omega) H60.out.sz
 refine(oS _ W.ss[i].set _ O1).mono ?_;rintro e w2 ⟨g,rfl,q,rr,hy⟩;have ch2:=ch1.below hy ch1.size hSw
 have X0:RowTo w2 w.heap.size 46 3 [.int .i64 0,.string ⟨#[]⟩,.int .i64 0]:=by
  have:=(RowTo.whole (w.setCell ⟨S,i*5,none⟩ (.int .i64 1)) #[.int .i64 0,.string ⟨#[]⟩,.int .i64 0] 46).below hy (by simp[cE])
  simpa [cE] using this
 have cS: ∀j,w2.cell? ⟨S,j,none⟩=(w.setCell ⟨S,i*5,none⟩ (.int .i64 1)).cell? ⟨S,j,none⟩:=fun j=>aV ch2.here
 have fS: ∀j,w2.frozen? ⟨S,j,none⟩=(w.setCell ⟨S,i*5,none⟩ (.int .i64 1)).frozen? ⟨S,j,none⟩:=fun j=>iR ch2.here
 have d3':w2.cell? ⟨S,i*5+3,none⟩=some u3:=by rw[cS,bT _ (by omega)];exact d3
 have f3':w2.frozen? ⟨S,i*5+3,none⟩=false:=by rw[fS,World.frozen?_setCell];exact f3
 have hgw:w.heap.size<g:=by have:=q;simp[cE]at this;omega
 have HC:=aA ch2;have HX:=aA X0;have HR:=aA rr;clear ch1 ch2 O1 hy X0 cS fS rr d3 f3 q;go_wp2_with fail;refine(oQ _).mono ?_;rintro e w3 ⟨rfl,hy3⟩;have ch3:=(HC.out.setS (j:=i*5+3) (.slice (some ⟨g,0,none⟩) W.ss[i].set.length W.ss[i].set.length)).below hy3 (by have:=HC.out.size;simpa [cE] using this) hSw;have X3:=(HX.out.other (p:=⟨S,i*5+3,none⟩) (by show S≠_;omega) (.slice (some ⟨g,0,none⟩) W.ss[i].set.length W.ss[i].set.length)).below hy3 (by have:=HX.out.lt;simpa [cE] using this);have R3:=(HR.out.other (p:=⟨S,i*5+3,none⟩) (by show S≠g;omega) (.slice (some ⟨g,0,none⟩) W.ss[i].set.length W.ss[i].set.length)).below hy3 (by have:=HR.out.lt;simpa [cE] using this);have r0:=X3.cell (j:=0) (by simp);have r1:=X3.cell (j:=1) (by simp);have r2:=X3.cell (j:=2) (by simp);have s0:=X3.frozen 0;have s1:=X3.frozen 1;have s2:=X3.frozen 2;simp only[aB,aC]at r0 r1 r2;have HC3:=aA ch3;have HR3:=aA R3;clear ch3 X3 hy3 R3;unfold bQ;go_wp2;refine bE (v:= .agg #[.int .i64 1,.string ⟨#[]⟩,.int .i64 0]) (by simp[results,Tryz.results65,go_sem,r0,r1,r2]) rfl ?_;have ch:=((HC3.out.setN (p:=⟨w.heap.size,0,none⟩) (aI _) hSw (.int .i64 1)).setN (p:=⟨w.heap.size,1,none⟩) (aI _) hSw (.string ⟨#[]⟩)).setN (p:=⟨w.heap.size,2,none⟩) (aI _) hSw (.int .i64 0);refine⟨rfl,?_,ch.bel lo.s hb,fun b hb _ h2 _ _=>ch.other b hb h2⟩;have hh:=H.out;have hzz:=HZ.out;have hrow:=(hh.blk.hit (j:=i*5) (.int .i64 1)).hit (j:=i*5+3) (.slice (some ⟨g,0,none⟩) W.ss[i].set.length W.ss[i].set.length);refine hh.turned lo ?_ (v3:= .slice (some ⟨g,0,none⟩) W.ss[i].set.length W.ss[i].set.length) hzz hi ch hrow (fun k j hk hj=>?_) ?_ ?_ ?_ ?_ ?_ (hh.li_kept hzz hi (j:=0) (by omega) ch) (hh.li_kept hzz hi (j:=1) (by omega) ch) ?_ (hh.li_kept hzz hi (j:=3) (by omega) ch)
 ·exact⟨lo.v hi (by omega),lo.v hi (by omega),LoV.at (by omega),lo.v hi (by omega)⟩
 ·rw[bT _ (by omega),bT _ (by omega)]
 ·rw[bT _ (by omega)];exact fX hh.blk (by omega) _
 ·rw[bT _ (by omega),bT _ (by omega)];exact hh.cs i 0 hi (by omega)
 ·rw[bT _ (by omega),bT _ (by omega)];exact hh.cs i 1 hi (by omega)
 ·exact fX (hh.blk.hit _) (by omega) _
 ·rw[bT _ (by omega),bT _ (by omega)];exact hh.cs i 3 hi (by omega)
 ·have hgr:w.heap.size≠g:=by omega
  have R4:=((HR3.out.other (p:=⟨w.heap.size,0,none⟩) hgr (.int .i64 1)).other (p:=⟨w.heap.size,1,none⟩) hgr (.string ⟨#[]⟩)).other (p:=⟨w.heap.size,2,none⟩) hgr (.int .i64 0);exact R4.lst (aI _) R4.lt (by have:=H60.out.1;show W.ss[i].set.length*32<=_;have e:(W.ss[i].li 0).length=W.ss[i].set.length:=rfl;omega) H60.out.sz
theorem vAg (w:World)(p:Addr)(st:Int)(hc:w.cell? p=some (.int .i64 st))(hst:st≠0):
  Calls Tryz.prog 67 #[.pointer (some p)] w fun e w'=>e= .returned (bQ 4 kH)/\Below w.heap.size w w':=by
 have hp:=World.block_lt_of_cell? w _ hc;have h1:(st !=0)=true:=eP.2 hst;clear hst;go_enter Tryz.func67,Tryz.ntmps67;go_wp2_with fail;refine(lZ kH _).mono ?_;rintro e w9 ⟨rfl,hb9⟩;have X9:=(RowTo.whole w #[.int .i64 0,.string ⟨#[]⟩,.int .i64 0] 46).below hb9 (by simp);have r0:=X9.cell (j:=0) (by simp);have r1:=X9.cell (j:=1) (by simp);have r2:=X9.cell (j:=2) (by simp);have s0:=X9.frozen 0;have s1:=X9.frozen 1;have s2:=X9.frozen 2;simp only[aB,aC]at r0 r1 r2;have B9:=aA (aR ((aD w.heap.size w).alloc (aI _) _) hb9 (by simp));clear X9 hb9;unfold bQ;go_wp2;refine bE (v:= .agg #[.int .i64 4,.string kH,.int .i64 0]) (by simp[results,Tryz.results67,go_sem,r0,r1,r2]) rfl ⟨rfl,?_⟩;exact((B9.out.setCell (by simp) _).setCell (by simp) _).setCell (by simp) _
theorem vAh (base X S gR cR:Nat)(G C:Nat->Nat->Nat)(W:Wd)(i:Nat)(w:World)(h:OwnD w X S gR cR G C W)(lo:LoD base X S gR G W.ss.length)(hz:gV W)(hb:base<=w.heap.size)(hi:i<W.ss.length)(hst:W.ss[i].st=0):
  Calls Tryz.prog 67 #[.pointer (some ⟨S,i*5,none⟩)] w (lC w base X S gR G W.ss.length (W.put i {W.ss[i]with set:=[],prep:=[]})):=by
 have c0:=h.st i hi;rw[hst]at c0;have hSw:=h.blk.lt;have f1:=h.blk.frozen (i*5+1);have f2:=h.blk.frozen (i*5+2);obtain⟨u1,d1⟩:=h.blk.any (j:=i*5+1) (by omega);obtain⟨u2,d2⟩:=h.blk.any (j:=i*5+2) (by omega);have H:=aA h;have HZ:=aA hz;have HT:=aA hst;clear h hst;go_enter Tryz.func67,Tryz.ntmps67;go_wp2_with fail;have ch1:=(((Chs.refl w S).setS (j:=i*5+1) (.slice none 0 0)).setS (j:=i*5+2) (.slice none 0 0)).alloc hSw (.cells #[.int .i64 0,.string ⟨#[]⟩,.int .i64 0] 46)
 have X0:RowTo (((w.setCell ⟨S,i*5+1,none⟩ (.slice none 0 0)).setCell ⟨S,i*5+2,none⟩ (.slice none 0 0)).alloc (.cells #[.int .i64 0,.string ⟨#[]⟩,.int .i64 0] 46)) w.heap.size 46 3 [.int .i64 0,.string ⟨#[]⟩,.int .i64 0]:=by
  have:=RowTo.whole ((w.setCell ⟨S,i*5+1,none⟩ (.slice none 0 0)).setCell ⟨S,i*5+2,none⟩ (.slice none 0 0)) #[.int .i64 0,.string ⟨#[]⟩,.int .i64 0] 46
  simpa [cE] using this
 refine(oQ _).mono ?_;rintro e w3 ⟨rfl,hy3⟩;have ch3:=ch1.below hy3 ch1.size hSw;have X3:=X0.below hy3 X0.lt;have r0:=X3.cell (j:=0) (by simp);have r1:=X3.cell (j:=1) (by simp);have r2:=X3.cell (j:=2) (by simp);have s0:=X3.frozen 0;have s1:=X3.frozen 1;have s2:=X3.frozen 2;simp only[aB,aC]at r0 r1 r2;have HC3:=aA ch3;clear ch1 ch3 X0 X3 hy3;unfold bQ;go_wp2;refine bE (v:= .agg #[.int .i64 1,.string ⟨#[]⟩,.int .i64 0]) (by simp[results,Tryz.results67,go_sem,r0,r1,r2]) rfl ?_;have ch:=((HC3.out.setN (p:=⟨w.heap.size,0,none⟩) (aI _) hSw (.int .i64 1)).setN (p:=⟨w.heap.size,1,none⟩) (aI _) hSw (.string ⟨#[]⟩)).setN (p:=⟨w.heap.size,2,none⟩) (aI _) hSw (.int .i64 0);refine⟨rfl,?_,ch.bel lo.s hb,fun b hb _ h2 _ _=>ch.other b hb h2⟩;have hh:=H.out;have hzz:=HZ.out;have hrow:=(hh.blk.hit (j:=i*5+1) (.slice none 0 0)).hit (j:=i*5+2) (.slice none 0 0);refine hh.turned lo ?_ (v1:= .slice none 0 0) (v2:= .slice none 0 0) hzz hi ch hrow (fun k j hk hj=>?_) ?_ ?_ ?_ ?_ ?_ (Lst.none_ _ _) (Lst.none_ _ _) (hh.li_kept hzz hi (j:=2) (by omega) ch) (hh.li_kept hzz hi (j:=3) (by omega) ch)
 ·exact⟨LoV.non _ _ _,LoV.non _ _ _,lo.v hi (by omega),lo.v hi (by omega)⟩
 ·rw[bT _ (by omega),bT _ (by omega)]
 ·rw[bT _ (by omega),bT _ (by omega)];exact hh.st i hi
 ·rw[bT _ (by omega)];exact fX hh.blk (by omega) _
 ·exact fX (hh.blk.hit _) (by omega) _
 ·rw[bT _ (by omega),bT _ (by omega)];exact hh.cs i 2 hi (by omega)
 ·rw[bT _ (by omega),bT _ (by omega)];exact hh.cs i 3 hi (by omega)
theorem lD: ∀{R l:PL},bG R=true->bG l=true->(∀p∈l,aM R p.1=true)->l.length<=R.length
 |[],[],_,_,_=>aI _
 |[],p::l,_,_,h=>by have:=h p (by simp);cases this
 |q::R,[],_,_,_=>by simp
 |q::R,p::l,hR,hl,h=>by
  have tail: ∀x,bP q.1 x=true->aM (q::R) x=true->aM R x=true:=fun x hx hf=>by
   unfold aM at hf ⊢
   rwa [fJ (fF.2 (hU hx))]at hf
  have hp:=h p (by simp)
  cases e:bN q.1 p.1
  · -- the head of R is before p
   have hqp:bP q.1 p.1=true:=by
    unfold aM at hp;rw[fJ e]at hp;obtain⟨v,hv⟩:=Option.isSome_iff_exists.1 hp;exact iM hR (p.1,v) (kF hv)
   have := lD (R := R) (l := p :: l) (iL hR) hl (fun x hx => by
    refine tail x.1 ?_ (h x hx);rcases List.mem_cons.1 hx with rfl|hx
    ·exact hqp
    ·exact lV hqp (iM hl x hx))
   simp only[fC]at this ⊢;omega
  ·have heq:=iK.1 e;have:=lD (R:=R) (l:=l) (iL hR) (iL hl) (fun x hx=>tail x.1 (by rw[heq];exact iM hl x hx) (h x (by simp[hx])));simp only[fC];omega
theorem sQ {l:PL}{k v k':ByteArray}(h:bG l=true):aM (cI l k v) k'=(bN k k'||aM l k'):=by
 unfold aM;rw[rZ h]
 cases bN k k'<;>simp
theorem wD {R l:PL}{k:ByteArray}(hR:bG R=true)(hl:bG l=true)(h: ∀p∈l,aM R p.1=true)(hk:aM R k=true)(hn:aM l k=false):l.length<R.length:=by
 have h1 := lD (l := cI l k ⟨#[]⟩) hR (jL hl) (fun p hp => by
  rcases oK hp with rfl|hp
  ·exact hk
  ·exact h p hp)
 have hn': ¬(aX l k).isSome=true:=by unfold aM at hn;simp[hn]
 rw[qG hl,if_neg hn']at h1;omega
theorem wE {R:PL}(h:bG R=true): ∀l:PL,bG (iN R l)=true:=by
 intro l;unfold iN
 induction l generalizing R with
 |nil=>exact h
 |cons p l ih=>rw[List.foldl_cons];exact ih (by rw[eS h];exact jL h)
theorem sR {R:PL}{k:ByteArray}(h:bG R=true): ∀l:PL,aM (iN R l) k=(aM R k||aM l k):=by
 intro l;unfold iN
 induction l generalizing R with
 |nil=>simp[aM,aX]
 |cons p l ih=>
  rw[List.foldl_cons,ih (by rw[eS h];exact jL h),eS h,sQ h]
  have:aM (p::l) k=(bN p.1 k||aM l k):=by
   unfold aM
   cases e:bN p.1 k
   ·rw[fJ e];simp
   ·rw[gT e];simp
  rw[this]
  cases bN p.1 k<;>cases aM R k<;>simp
theorem lE {l:PL}{p:ByteArray×ByteArray}(h:p∈l):aM l p.1=true:=oL h
section
variable {W:Wd}(h:bX W)
include h
theorem jN:bG (aW W)=true:=wE (bW h.rows).1 _
theorem kA9 {p:ByteArray×ByteArray}(hp:p∈W.rows):aM (aW W) p.1=true:=by
 unfold aW;rw[sR (bW h.rows).1,lE hp];rfl
theorem kAa {i:Nat}(hi:i<W.ss.length){p:ByteArray×ByteArray}(hp:p∈W.ss[i].wr):aM (aW W) p.1=true:=by
 unfold aW;rw[sR (bW h.rows).1,lE (List.mem_flatMap.2 ⟨W.ss[i],List.getElem_mem hi,hp⟩)];simp
theorem kAb {i:Nat}(hi:i<W.ss.length)(key:ByteArray):eI W.ss i key=(decide (0<bK (W.ss.flatMap (·.wr)) key)&&!aM W.ss[i].wr key):=by
 have hr: ∀k (hk:k<W.ss.length),bG W.ss[k].wr=true:=fun k hk=>(bW (h.sess k hk).wr).1
 cases e:eI W.ss i key
 ·symm
  rw[Bool.and_eq_false_iff]
  by_cases hc:0<bK (W.ss.flatMap (·.wr)) key
  ·right
   obtain⟨k,hk,h1⟩:=vY (ss:=W.ss) (key:=key) hc;have hs:=(mQ (hr k hk)).1 h1
   by_cases hki:k=i
   ·subst hki;unfold aM;rw[hs];rfl
   ·rw[kX hk hs (by omega)]at e;cases e
  ·left;exact aY hc
 ·obtain⟨k,hk,hs,hne⟩:=sJ.1 e;have h1:=(mQ (hr k hk)).2 hs;have h2:=qK (key:=key) hk
  have h3:aM W.ss[i].wr key=false:=by
   cases e2:aM W.ss[i].wr key
   ·rfl
   ·obtain⟨v,hv⟩:=Option.isSome_iff_exists.1 e2;have:=h.apart i hi _ (kF hv);rw[e]at this;cases this
  rw[h3,cF (by omega)];rfl
theorem sT {i:Nat}(hi:i<W.ss.length){key:ByteArray}(hf: ¬(aM (aW W) key=false/\100<=(aW W).length)):aM W.ss[i].wr key=true\/W.ss[i].wr.length<100:=by
 cases e:aM W.ss[i].wr key
 ·right
  have hr:=(bW (h.sess i hi).wr).1
  cases e2:aM (aW W) key
  ·have:=lD (jN h) hr (fun p hp=>kAa h hi hp);have h3: ¬100<=(aW W).length:=fun h3=>hf ⟨e2,h3⟩
   omega
  ·have:=wD (jN h) hr (fun p hp=>kAa h hi hp) e2 e;have:=h.all;omega
 ·exact .inl rfl
theorem wG {key:ByteArray}(hf: ¬(aM (aW W) key=false/\100<=(aW W).length)):aM W.rows key=true\/W.rows.length<100:=by
 cases e:aM W.rows key
 ·right
  have hr:=(bW h.rows).1
  cases e2:aM (aW W) key
  ·have:=lD (jN h) hr (fun p hp=>kA9 h hp);have h3: ¬100<=(aW W).length:=fun h3=>hf ⟨e2,h3⟩
   omega
  ·have:=wD (jN h) hr (fun p hp=>kA9 h hp) e2 e;have:=h.all;omega
 ·exact .inl rfl
end
theorem vAi (out:PL)(p:ByteArray×ByteArray)(l:PL):iN out (p::l)=iN (bI out p.1 ⟨#[]⟩) l:=rfl
def nP (w:World)(r s:Value)(wr:World):Prop:=RowTo wr w.heap.size 39 2 [r,s]
def jC (ss:List Sess)(i:Nat):PL:=(ss.drop i).flatMap (·.wr)
theorem wH {ss:List Sess}{i:Nat}(h:i<ss.length):jC ss i=ss[i].wr++jC ss (i+1):=by
 unfold jC;rw[List.drop_eq_getElem_cons h];rfl
theorem kAc {ss:List Sess}{i:Nat}(h:ss.length<=i):jC ss i=[]:=by
 unfold jC;rw[List.drop_eq_nil_of_le h];rfl
end Go.Proofs.YtpbaobmegomfpabGreatDoor
namespace Go.Proofs.YtpbaobmegomfpabGreatDoor
open Go.RowKit Go.Maps Go.WideMaps
theorem jE:Keyed Tryz.prog 9:=string_keyed Tryz.underlying9
theorem mR (w:World):(zeroValue 3).run Tryz.prog w= .ok (.int .i64 0) w:=by kernel_rfl
theorem mC {s:ByteArray}(h:s.size<=140737488351232):keyOf Tryz.prog 9 (.string s)=some (kl s):=keyOf_string_mk Tryz.underlying9 (by unfold maxLen;omega)
theorem lF {a b:Int}(h:(DataW.lit (.int .i64 a):DataW Unit)= .lit (.int .i64 b)):a=b:=by simpa using h
def vAj (w:World)(W:Wd)(r s:Value)(k:Nat)(wr:World):Prop:=
 ∃D:DataW Unit,wr.ownsMap Tryz.prog 9 (plainElem Tryz.prog 3) (w.heap.size+1) k D/\MapOk D (W.rows.take k) (fun _=>0)/\nP w r s wr/\Below w.heap.size w wr
def kAd (w:World)(W:Wd)(r s:Value)(rest:PL)(n:Nat)(wr:World):Prop:=
 ∃(D:DataW Unit) (R:PL) (cnt:ByteArray->Nat),wr.ownsMap Tryz.prog 9 (plainElem Tryz.prog 3) (w.heap.size+1) n D/\MapOk D R cnt/\bG R=true/\iN R rest=aW W/\
  (∀key,cnt key+bK rest key=bK (W.ss.flatMap (·.wr)) key)/\(∀key,cnt key<=n)/\nP w r s wr/\Below w.heap.size w wr
theorem kAe {w wr w1:World}{r s:Value}(h:nP w r s wr)(hg:wr.grownBy w1 (some (w.heap.size+1))):nP w r s w1:=h.same (hg.block _ h.lt (by simp))
theorem kAf {w wr w1:World}(h:Below w.heap.size w wr)(hg:wr.grownBy w1 (some (w.heap.size+1))):Below w.heap.size w w1:=h.grown hg h.size (fun k hk=>by injection hk with hk;omega)
def vAk (w:World)(W:Wd)(e:Ending)(w':World):Prop:=
 ∃(b n:Nat) (D:DataW Unit),e= .returned (.map (some b))/\w'.ownsMap Tryz.prog 9 (plainElem Tryz.prog 3) b n D/\MapOk D (aW W) (bK (W.ss.flatMap (·.wr)))/\n<=1000/\w.heap.size<=b/\Below w.heap.size w w'
theorem mS (r s:Value)(W:Wd)(w:World)(hW:Wld w w.heap.size r s W)(hr100:W.rows.length<=100)(hrise:bG W.rows=true)(h8:W.ss.length<=8)(hw100: ∀i (hi:i<W.ss.length),W.ss[i].wr.length<=100):
  Calls Tryz.prog 97 #[.agg #[r,s]] w (vAk w W):=by
 obtain⟨hr,hs⟩:=hW;obtain⟨A,c,rfl,hc⟩:=hs.form;obtain⟨D,d,rfl,hd⟩:=hr.form;have hby:=hs.bytes;have HS:=aA hs;have HR:=aA hr;have HN:=aA hw100;have HI:=aA hrise;clear hs hr hw100 hrise;have hmm:= @run_makeMap Tryz.prog;go_enter Tryz.func97,Tryz.ntmps97;go_wp2;clear hmm
 go_loopw [14] (fun i wr=> ∃k:Nat,k<=W.rows.length/\i= .int .i64 k/\vAj w W (.slice D W.rows.length d) (.slice A W.ss.length c) k wr) (fun i _=>W.rows.length-(intOf i).toNat)
 case atStart=>
  refine⟨0,by omega,rfl,.map [],?_,vA1,(RowTo.whole w #[.slice D W.rows.length d,.slice A W.ss.length c] 39).alloc _,?_⟩
  ·have:=World.ownsMap_made (H:=Unit) (w.alloc (.cells #[.slice D W.rows.length d,.slice A W.ss.length c] 39)) Tryz.prog 9 (plainElem Tryz.prog 3)
   simpa using this
  ·repeat' (first|exact aD _ _|assumption|with_reducible refine aZ ?_ _|with_reducible refine Below.drew ?_|with_reducible refine dT ?_ ?_ _|with_reducible refine dU ?_ ?_ _|(simp;done)|(simp;omega))
 case round=>
  obtain⟨k,hk,rfl,M,hown,hmap,hbox,bel⟩:=hrel
  by_cases hlt:k<W.rows.length
  ·obtain⟨b,off,rfl,hb,c0,c1⟩:=HR.out.pt hlt;obtain⟨z0,z1⟩:=HR.out.key hlt;have d0:=(bel.cell (p:=⟨b,off+k*2,none⟩) hb).trans c0;have d1:=(bel.cell (p:=⟨b,off+k*2+1,none⟩) hb).trans c1;have hkey:=mC z0;have HP:=aA (kA1 (k:=W.rows[k].1) (v:=W.rows[k].2) (c:=0) hmap (hown.tidy jE) (vA4 HI.out k) trivial);have HT:=aA (vA3 HI.out hlt);have HO:=aA hown;have HX:=aA hbox;have HB:=aA bel;clear hown hmap hbox bel c0 c1
   go_wp2_with (first
    |(at_mapUpdate;refine wpList_mapUpdate_own _ rfl _ _ _ 162 rfl 9 3 jE Tryz.underlying162 _ (w.heap.size+1) k _ rfl (HO.out.alloc _) (by unfold maxLen;omega) _ _ _ rfl rfl hkey _ [] (plainElem_int Tryz.underlying3 (WalkArith.wf_i64 (by omega))) ?_;intro w1 hown1 hgrow1)
    | go_in)
   have HO1:=aA hown1;have hg:=(World.grownBy_alloc wr (.cells #[.string W.rows[k].1,.string W.rows[k].2] 60) (some (w.heap.size+1))).trans hgrow1;have HX1:=aA (kAe HX.out hg);have HB1:=aA (kAf HB.out hg);clear hown1 hgrow1 hg;go_roundw
   case rel=>
    refine⟨k+1,by omega,by go_num,_,HO1.out,?_,HX1.out,HB1.out⟩;rw[<-HT.out];exact HP.out.cnt (fun key=>by split<;>rfl)
   case measure=>simp[intOf];omega
  ·obtain rfl:k=W.rows.length:=by omega
   have x1:=hbox.cell (j:=1) (by simp);simp only[aB,aC]at x1;rw[List.take_length]at hmap;have HO:=aA (hown.mono hr100);have HM:=aA hmap;have HX:=aA hbox;have HB:=aA bel;clear hown hmap hbox bel;go_wp2
   go_loopw [25] (fun i wr=> ∃k:Nat,k<=W.ss.length/\i= .int .i64 k/\kAd w W (.slice D W.rows.length d) (.slice A W.ss.length c) (jC W.ss k) (100+k*100) wr) (fun i _=>W.ss.length-(intOf i).toNat)
   case atStart=>exact⟨0,by omega,rfl,M,W.rows,_,HO.out,HM.out,HI.out,rfl,fun key=>by rw[cW];rfl,fun key=>Nat.zero_le _,HX.out,HB.out⟩
   case round=>
    clear HO HM HX HB x1;obtain⟨i,hi,rfl,M,R,cnt,hown,hmap,hrR,hall,hcnt,hcb,hbox,bel⟩:=hrel
    by_cases hlt:i<W.ss.length
    ·obtain⟨b,off,v1,v2,v3,v4,rfl,hb,hses⟩:=HS.out.pt hlt;have h100:=HN.out i hlt;have hall':iN R (W.ss[i].wr.drop 0++jC W.ss (i+1))=aW W:=(by rw[List.drop_zero,<-wH hlt];exact hall);have hcnt': ∀key,cnt key+bK (W.ss[i].wr.drop 0++jC W.ss (i+1)) key=bK (W.ss.flatMap (·.wr)) key:=fun key=>(by rw[List.drop_zero,<-wH hlt];exact hcnt key);generalize hsk:W.ss[i]=s at*;obtain⟨d0,d1,d2,d3,d4,l1,l2,l3,l4⟩:=hses.keep (w':=wr) hb (aI _) fun p hp=>bel.cell hp
     obtain⟨A1,c1,rfl,_⟩:=l1.form;obtain⟨A2,c2,rfl,_⟩:=l2.form;obtain⟨A3,c3,rfl,_⟩:=l3.form;obtain⟨A4,c4,rfl,_⟩:=l4.form;have hb4:=l4.bytes;have HL:=aA hses.l4;have HO:=aA (hown.alloc (.cells #[.int .i64 s.st,.slice A1 s.set.length c1,.slice A2 s.prep.length c2,.slice A3 s.sav.length c3,.slice A4 s.wr.length c4] 115));have HM:=aA hmap;have HRR:=aA hrR;have HA:=aA hall';have HC:=aA hcnt';have HCB:=aA hcb;have HX:=aA (RowTo.alloc hbox (.cells #[.int .i64 s.st,.slice A1 s.set.length c1,.slice A2 s.prep.length c2,.slice A3 s.sav.length c3,.slice A4 s.wr.length c4] 115));have HB:=aA (bel.alloc bel.size (.cells #[.int .i64 s.st,.slice A1 s.set.length c1,.slice A2 s.prep.length c2,.slice A3 s.sav.length c3,.slice A4 s.wr.length c4] 115));clear hown hmap hrR hall hall' hcnt hcnt' hcb hbox bel hses hsk l1 l2 l3 l4;go_wp2;clear d0 d1 d2 d3 d4
     go_loopw [32] (fun j wr=> ∃k:Nat,k<=s.wr.length/\j= .int .i64 k/\kAd w W (.slice D W.rows.length d) (.slice (some ⟨b,off,none⟩) W.ss.length c) (s.wr.drop k++jC W.ss (i+1)) (100+i*100+k) wr) (fun j _=>s.wr.length-(intOf j).toNat)
     case atStart=>exact⟨0,by omega,rfl,M,R,cnt,HO.out,HM.out,HRR.out,HA.out,HC.out,HCB.out,HX.out,HB.out⟩
     case round=>
      clear HO HM HRR HA HC HCB HX HB;obtain⟨k,hk,rfl,M,R,cnt,hown,hmap,hrR,hall,hcnt,hcb,hbox,bel⟩:=hrel
      by_cases hlk:k<s.wr.length
      ·obtain⟨b',off',rfl,hb',m0,m1⟩:=HL.out.pt hlk;obtain⟨z0,z1⟩:=HL.out.key hlk;have d0:=(bel.cell (p:=⟨b',off'+k*2,none⟩) hb').trans m0;have d1:=(bel.cell (p:=⟨b',off'+k*2+1,none⟩) hb').trans m1;have hkey:=mC z0;have hce:=hcb s.wr[k].1;have HD:=aA (List.drop_eq_getElem_cons hlk);have HP:=aA (fun cc=>kA1 (k:=s.wr[k].1) (v:=⟨#[]⟩) (c:=cc) hmap (hown.tidy jE) hrR trivial);have HRR:=aA (jL (k:=s.wr[k].1) (v:=⟨#[]⟩) hrR);have HPI:=aA (eS (k:=s.wr[k].1) (v:=⟨#[]⟩) hrR);have HAT:=aA (hmap.at_ s.wr[k].1);have HO:=aA hown;have HA:=aA hall;have HC:=aA hcnt;have HCB:=aA hcb;have HX:=aA hbox;have HB:=aA bel;clear hown hmap hrR hall hcnt hcb hbox bel m0 m1
       go_wp2_with (first
        |(at_lookup;refine wpList_lookup_own_int _ rfl _ _ 162 rfl 9 3 .i64 jE Tryz.underlying162 Tryz.underlying3 (mR _) (w.heap.size+1) (100+i*100+k) _ rfl (HO.out.alloc _) _ _ rfl hkey ?_;intro q hat hwq;obtain rfl:q=(cnt s.wr[k].1:Int):=(lF (HAT.out.symm.trans hat)).symm;clear hat hwq)
        |(at_mapUpdate;refine wpList_mapUpdate_own _ rfl _ _ _ 162 rfl 9 3 jE Tryz.underlying162 _ (w.heap.size+1) (100+i*100+k) _ rfl (HO.out.alloc _) (by unfold maxLen;omega) _ _ _ rfl rfl hkey _ [] (plainElem_int Tryz.underlying3 (WalkArith.wf_i64 (by omega))) ?_;intro w1 hown1 hgrow1)
        | go_in)
       have HO1:=aA hown1;have hg:=(World.grownBy_alloc wr (.cells #[.string s.wr[k].1,.string s.wr[k].2] 60) (some (w.heap.size+1))).trans hgrow1;have HX1:=aA (kAe HX.out hg);have HB1:=aA (kAf HB.out hg);clear hown1 hgrow1 hg;go_roundw
       case rel=>
        refine⟨k+1,by omega,by go_num,_,cI R s.wr[k].1 ⟨#[]⟩,_,HO1.out,by have:=HP.out (cnt s.wr[k].1+1);simpa using this,HRR.out,?_,fun key=>?_,fun key=>?_,HX1.out,HB1.out⟩
        ·rw[<-HA.out,HD.out,List.cons_append,vAi,HPI.out]
        ·rw[<-HC.out key,HD.out,List.cons_append,vV]
         cases e:bN s.wr[k].1 key
         ·simp
         ·rw[iK.1 e];simp;omega
        ·have:=HCB.out key
         split<;>omega
       case measure=>simp[intOf];omega
      ·rw[List.drop_eq_nil_of_le (by omega),List.nil_append]at hall hcnt;have HO:=aA (hown.mono (n':=100+(i+1)*100) (by omega));have HM:=aA hmap;have HRR:=aA hrR;have HA:=aA hall;have HC:=aA hcnt;have HCB:=aA (fun key=>bL (hcb key) (show 100+i*100+k<=100+(i+1)*100 by omega));have HX:=aA hbox;have HB:=aA bel;clear hown hmap hrR hall hcnt hcb hbox bel;go_wp2;go_roundw
       case rel=>exact⟨i+1,by omega,by go_num,M,R,cnt,HO.out,HM.out,HRR.out,HA.out,HC.out,HCB.out,HX.out,HB.out⟩
       case measure=>simp[intOf];omega
    ·rw[kAc (by omega)]at hall hcnt;have HM:=aA (hmap.cnt (cnt':=bK (W.ss.flatMap (·.wr))) (fun key=>by have h:=hcnt key;rw[vA0]at h;exact h));have HA:=aA (show R=aW W from hall);have HO:=aA hown;have HB:=aA bel;clear hown hmap hrR hall hcnt hcb hbox bel;go_wp2;go_ret;exact⟨w.heap.size+1,_,M,rfl,HO.out,by rw[<-HA.out];exact HM.out,by omega,by omega,HB.out⟩
end Go.Proofs.YtpbaobmegomfpabGreatDoor
namespace Go.Proofs.YtpbaobmegomfpabGreatDoor
open Go.RowKit Go.Maps Go.WideMaps
theorem oT (g c pb po:Nat)(l:PL)(k:Int)(key val:ByteArray)(limit:Nat)(w:World)(ho:OwnL w g c l)(hr:bG l=true)(hn:l.length<=1000)(hs:Sz l)
  (hp:w.cell? ⟨pb,po,none⟩=some (.slice (some ⟨g,0,none⟩) l.length c)) (hpf:w.frozen? ⟨pb,po,none⟩=false) (hne:pb≠g) (hk:key.size<=140737488351232) (hv:val.size<=140737488351232) (hf:aM l key=true\/l.length<limit):
  Calls Tryz.prog 70 #[.pointer (some ⟨pb,po,none⟩),.agg #[.int .i64 k,.string key,.string val],.int .i64 limit] w (sH w g pb po (cI l key val)):=by
 cases e:aM l key
 ·exact zAu g c pb po l k key val limit w ho hr hn hs hp hpf hne hk hv e (hf.resolve_left (by simp[e]))
 ·exact zAt g c pb po l k key val limit w ho hr hn hs hp hpf hne hk hv e
theorem OwnD.wld {w:World}{X S gR cR:Nat}{G C:Nat->Nat->Nat}{W:Wd}(h:OwnD w X S gR cR G C W)(hz:gV W):Wld w w.heap.size (slc gR W.rows.length cR) (slc S W.ss.length W.ss.length) W:=by
 refine⟨h.rows.lst (by have:=hz.rows.1;omega) hz.rows.sz,⟨⟨_,_,rfl,aI _⟩,by have:=hz.many;omega,fun hn=>⟨S,0,W.ss.length,rfl,h.blk.lt,fun i hi=>?_⟩⟩⟩;rw[cW];exact⟨_,_,_,_,h.st i hi,h.cs i 0 hi (by omega),h.cs i 1 hi (by omega),h.cs i 2 hi (by omega),h.cs i 3 hi (by omega),h.list hz hi (j:=0) (by omega),h.list hz hi (j:=1) (by omega),h.list hz hi (j:=2) (by omega),h.list hz hi (j:=3) (by omega)⟩
theorem OwnD.stored {w w':World}{base X S gR cR:Nat}{G C:Nat->Nat->Nat}{W:Wd}(h:OwnD w X S gR cR G C W)(lo:LoD base X S gR G W.ss.length){g':Nat}(hlg:base<=g')(hz:gV W){i:Nat}(hi:i<W.ss.length){j:Nat}(hj:j<4){l':PL}{c':Nat}{s':Sess}(hl':l'.length<=1000)(hs':Sz l')
  (ho:OwnL w' g' c' l') (hc:Chg w w' (G i j) S (i*5+(j+1)) (.slice (some ⟨g',0,none⟩) l'.length c')) (hst:s'.st=W.ss[i].st) (hli: ∀k,k<4->s'.li k=if k=j then l' else W.ss[i].li k):EndW w' base X S (W.put i s'):=by
 have ne:=h.neGS i j hi hj;have cc: ∀k,w'.cell? ⟨S,k,none⟩=(w.setCell ⟨S,i*5+(j+1),none⟩ (.slice (some ⟨g',0,none⟩) l'.length c')).cell? ⟨S,k,none⟩:=fun k=>aV hc.here
 have hblk:RowTo w' S 115 (W.ss.length*5) []:=(h.blk.hit (j:=i*5+(j+1)) _).same hc.here
 have cell: ∀k,k<4-> ∃v,w'.cell? ⟨S,i*5+(k+1),none⟩=some v/\Lst w' w'.heap.size v (s'.li k)/\LoV base v:=fun k hk=>by
  rw[hli k hk]
  by_cases e:k=j
  ·subst e;rw[if_pos rfl];exact⟨_,(cc _).trans (fX h.blk (by omega) _),ho.lst hl' hs',LoV.at hlg⟩
  ·rw[if_neg e];refine⟨_,(cc _).trans ((bT _ (by omega)).trans (h.cs i k hi hk)),?_,lo.v hi hk⟩;exact((h.ls i k hi hk).same (hc.other _ (h.ls i k hi hk).row.lt (fun e'=>e (h.inj i k i j hi hk hi hj e').2) (h.neGS i k hi hk))).lst (by have:=(hz.li i k hi hk).1;omega) (hz.li i k hi hk).sz
 obtain⟨v1,d1,m1,o1⟩:=cell 0 (by omega);obtain⟨v2,d2,m2,o2⟩:=cell 1 (by omega);obtain⟨v3,d3,m3,o3⟩:=cell 2 (by omega);obtain⟨v4,d4,m4,o4⟩:=cell 3 (by omega)
 refine h.left lo (LoV.slc lo.r) ⟨o1,o2,o3,o4⟩ hz hi hc.size (h.box.same (hc.other X h.box.lt (Ne.symm (h.neGX i j hi hj)) h.neXS)) hblk ((h.rows.same (hc.other gR h.rows.row.lt (Ne.symm (h.neGR i j hi hj)) h.neRS)).lst (by have:=hz.rows.1;omega) hz.rows.sz)
  (fun k q hk hq=>(cc _).trans (bT _ (by omega))) (fun k q hk hne hq=>hc.other _ (h.ls k q hk hq).row.lt (fun e'=>hne (h.inj k q i j hk hq hi hj e').1) (h.neGS k q hk hq)) ⟨(cc _).trans ((bT _ (by omega)).trans (by rw[hst];exact h.st i hi)),d1,d2,d3,d4,m1,m2,m3,m4⟩
theorem eW {w:World}{b R i:Nat}{u x y z:Value}(h:w.cell? ⟨b,i,none⟩=some u)(hne:b≠R):
  (((w.setCell ⟨R,0,none⟩ x).setCell ⟨R,1,none⟩ y).setCell ⟨R,2,none⟩ z).cell? ⟨b,i,none⟩=some u:=by
 simp[go_sem,h]
theorem OwnD.storedR {w w':World}{base X S gR cR:Nat}{G C:Nat->Nat->Nat}{W:Wd}(h:OwnD w X S gR cR G C W)(lo:LoD base X S gR G W.ss.length){g':Nat}(hlg:base<=g')(hz:gV W){i:Nat}(hi:i<W.ss.length){l':PL}{c':Nat}(hl':l'.length<=1000)(hs':Sz l')
  (ho:OwnL w' g' c' l') (hc:Chg w w' gR X 0 (.slice (some ⟨g',0,none⟩) l'.length c')):EndW w' base X S ⟨l',W.ss⟩:=by
 have hS:w'.heap[S]? =w.heap[S]? :=hc.other S h.blk.lt (Ne.symm h.neRS) (Ne.symm h.neXS);have cS: ∀k,w'.cell? ⟨S,k,none⟩=w.cell? ⟨S,k,none⟩:=fun k=>aV hS
 have hL: ∀k j,k<W.ss.length->j<4->w'.heap[G k j]? =w.heap[G k j]? :=fun k j hk hj=>hc.other _ (h.ls k j hk hj).row.lt (h.neGR k j hk hj) (h.neGX k j hk hj)
 have ll: ∀j,j<4->Lst w' w'.heap.size (slc (G i j) (W.ss[i].li j).length (C i j)) (W.ss[i].li j):=fun j hj=>((h.ls i j hi hj).same (hL i j hi hj)).lst (by have:=(hz.li i j hi hj).1;omega) (hz.li i j hi hj).sz
 have hb:=(h.box.put (j:=0) (by simp) (.slice (some ⟨g',0,none⟩) l'.length c')).same hc.here
 have:=h.left lo (LoV.at hlg) ⟨lo.v hi (j:=0) (by omega),lo.v hi (j:=1) (by omega),lo.v hi (j:=2) (by omega),lo.v hi (j:=3) (by omega)⟩ hz hi (s':=W.ss[i]) (rows':=l') hc.size hb (h.blk.same hS) (ho.lst hl' hs') (fun k j _ _=>cS _) (fun k j hk _ hj=>hL k j hk hj)
  ⟨(cS _).trans (h.st i hi),(cS _).trans (h.cs i 0 hi (by omega)),(cS _).trans (h.cs i 1 hi (by omega)),(cS _).trans (h.cs i 2 hi (by omega)),(cS _).trans (h.cs i 3 hi (by omega)),ll 0 (by omega),ll 1 (by omega),ll 2 (by omega),ll 3 (by omega)⟩
 rwa [List.set_getElem_self]at this
theorem Chg.pull {w w8 w':World}{g pb po:Nat}{v:Value}(hb:Below w.heap.size w w8)(hp:pb<w.heap.size)(c:Chg w8 w' g pb po v):Chg w w' g pb po v:=
 ⟨c.os.trans hb.os,c.tape.trans hb.tape,c.output.trans hb.output,bL hb.size c.size,fun b hbl h1 h2=>(c.other b (by have:=hb.size;omega) h1 h2).trans (hb.block b hbl),c.here.trans (mO (p:=⟨pb,po,none⟩) (hb.block pb hp))⟩
theorem Chg.setN {w w':World}{g pb po:Nat}{v:Value}(c:Chg w w' g pb po v){p:Addr}(hp:w.heap.size<=p.block)(hpb:pb<w.heap.size)(u:Value):Chg w (w'.setCell p u) g pb po v:=
 ⟨c.os,c.tape,c.output,by simpa [cE] using c.size,fun b hb h1 h2=>(bF _ _ _ _ (by omega)).trans (c.other b hb h1 h2),(bF _ _ _ _ (by omega)).trans c.here⟩
theorem Chg.bel {w w':World}{g pb po base:Nat}{v:Value}(c:Chg w w' g pb po v)(h1:base<=g)(h2:base<=pb)(hw:base<=w.heap.size):Below base w w':=
 ⟨c.os,c.tape,c.output,c.size,fun k hk=>c.other k (by omega) (by omega) (by omega)⟩
theorem vAl (base X S gR cR:Nat)(G C:Nat->Nat->Nat)(W:Wd)(i:Nat)(key val:ByteArray)(w:World)(h:OwnD w X S gR cR G C W)(lo:LoD base X S gR G W.ss.length)(hw:bX W)(hb:base<=w.heap.size)(hi:i<W.ss.length)(hkz:key.size<=8)(hvz:val.size<=60)(hh:eI W.ss i key=true):
  Calls Tryz.prog 71 #[.pointer (some ⟨X,0,none⟩),.int .i64 i,.agg #[.int .i64 10,.string key,.string val]] w fun e w'=>e= .returned (bQ 4 kJ)/\Below w.heap.size w w':=by
 have hcn:=(kAb hw hi key).symm;rw[hh]at hcn;rw[eB,decide_eq_true_eq,Bool.not_eq_true']at hcn;have HOWN:=aA hcn.2;have hpos:=hcn.1;clear hcn hh;have hz:=dN hw;have hXw:=h.box.lt;have hSw:=h.blk.lt;have hpr:=bW hw.rows;have HCW:=aA (fun(w9:World) (h9:Wld w9 w9.heap.size (slc gR W.rows.length cR) (slc S W.ss.length W.ss.length) W)=>mS _ _ W w9 h9 hpr.2.1 hpr.1 hw.many (fun j hj=>(bW (hw.sess j hj).wr).2.1));have HWR:=aA ((bW (hw.sess i hi).wr).1);have b0:Below w.heap.size w ((w.alloc (.cells #[.int .i64 10,.string key,.string val] 41)).alloc (.cells #[.int .i64 0,.string ⟨#[]⟩,.int .i64 0] 46)):=((aD _ _).alloc (aI _) _).alloc (by simp) _;have h0:=h.kept b0;have x0:=h.box.cell (j:=0) (by simp);have x1:=h.box.cell (j:=1) (by simp);simp only[aB,aC]at x0 x1;unfold slc at x0 x1
 have X0:RowTo ((w.alloc (.cells #[.int .i64 10,.string key,.string val] 41)).alloc (.cells #[.int .i64 0,.string ⟨#[]⟩,.int .i64 0] 46)) (w.heap.size+1) 46 3 [.int .i64 0,.string ⟨#[]⟩,.int .i64 0]:=by
  have:=RowTo.whole (w.alloc (.cells #[.int .i64 10,.string key,.string val] 41)) #[.int .i64 0,.string ⟨#[]⟩,.int .i64 0] 46
  simpa using this
 have Y0:RowTo ((w.alloc (.cells #[.int .i64 10,.string key,.string val] 41)).alloc (.cells #[.int .i64 0,.string ⟨#[]⟩,.int .i64 0] 46)) w.heap.size 41 3 [.int .i64 10,.string key,.string val]:=(RowTo.whole w #[.int .i64 10,.string key,.string val] 41).alloc _;have hzs:((w.alloc (.cells #[.int .i64 10,.string key,.string val] 41)).alloc (.cells #[.int .i64 0,.string ⟨#[]⟩,.int .i64 0] 46)).heap.size=w.heap.size+1+1:=by simp
 have hkey:=mC (s:=key) (by omega);have hii:(i:Int)<(W.ss.length:Int):=by omega
 have H:=aA h;have H0:=aA h0;have HZ:=aA hz;have HW:=aA hw;have B0:=aA b0;have HX0:=aA X0;have HY0:=aA Y0;have HZS:=aA hzs;clear h h0 hz hw b0 X0 Y0 hzs hpr;go_enter Tryz.func71,Tryz.ntmps71;go_wp2_with fail;refine(HCW.out _ (H0.out.wld HZ.out)).mono ?_;rintro e w1 ⟨bm,n,M,rfl,hown,hmap,hn,hbm,hb1⟩;have hs1:=hb1.size;have H1:=aA (H0.out.kept hb1);have B1:=aA (aR B0.out hb1 B0.out.size);have X1:=aA (HX0.out.below hb1 HX0.out.lt);have Y1:=HY0.out.below hb1 HY0.out.lt;have q1:=Y1.cell (j:=1) (by simp);simp only[aB,aC]at q1;have HY1:=aA Y1;have HO:=aA hown;have HM:=aA hmap;have HAT:=aA (hmap.at_ key);have hhas:Maps.has M (kl key)=aM (aW W) key:=hmap.has key;have hsize:Maps.size M=(aW W).length:=hmap.size;rw[HZS.out]at hs1;have hbm':w.heap.size+1+1<=bm:=by rw[HZS.out]at hbm;exact hbm
 clear hown hmap hb1 Y1 x0 x1 hbm;have g1:decide ((0:Int)<(bK (W.ss.flatMap (·.wr)) key:Int))=true:=cF (by omega);have g2:decide (0<bK (W.ss.flatMap (·.wr)) key)=true:=cF hpos
 go_wp2_with (first
  |(at_lookup;refine wpList_lookup_own_ok_int _ rfl _ _ 162 rfl 9 3 .i64 jE Tryz.underlying162 Tryz.underlying3 (mR _) bm n _ rfl HO.out _ _ rfl hkey ?_;intro q hat hwq;obtain rfl:q=(bK (W.ss.flatMap (·.wr)) key:Int):=(lF (HAT.out.symm.trans hat)).symm;clear hat hwq)
  | go_in)
 have q4:w1.cell? ⟨S,i*5+4,none⟩=some (.slice (some ⟨G i 3,0,none⟩) W.ss[i].wr.length (C i 3)):=H1.out.cs i 3 hi (by omega);have hl4:=aA (show Lst w1 w1.heap.size (.slice (some ⟨G i 3,0,none⟩) W.ss[i].wr.length (C i 3)) W.ss[i].wr from H1.out.list HZ.out hi (j:=3) (by omega));have hz0:w.heap.size<w1.heap.size:=by omega
 have hz1:S<w1.heap.size:=H1.out.blk.lt;have kb:=aD w1.heap.size w1;have dS:=aA (show w1.drew.cell? ⟨S,i*5+4,none⟩=some (.slice (some ⟨G i 3,0,none⟩) W.ss[i].wr.length (C i 3))/\w1.drew.cell? ⟨w.heap.size,1,none⟩=some (.string key)from⟨q4,q1⟩)
 go_region_held3 (fun wx=>wx.cell? ⟨S,i*5+4,none⟩=some (.slice (some ⟨G i 3,0,none⟩) W.ss[i].wr.length (C i 3))/\wx.cell? ⟨w.heap.size,1,none⟩=some (.string key))
  (first
   |with_reducible exact⟨q4,q1⟩
   |with_reducible exact dS.out
   | with_reducible exact ⟨(kb.cell (p := ⟨S, i * 5 + 4, none⟩) hz1).trans q4, (kb.cell (p := ⟨w.heap.size, 1, none⟩) hz0).trans q1⟩)
  (first
   | (
    go_at_call 95
    refine(jA _ W.ss[i].wr key _ (by first|exact hl4.out|exact(hl4.out.step ((aD _ _).drew))|exact(hl4.out.step (aZ (aD _ _) _))) HWR.out).mono ?_
    rw[HOWN.out];rintro e w8 ⟨rfl,hy⟩
    have kb : Below w1.heap.size w1 w8 := by first | exact kb.trans (hy.mono kb.size) | exact kb.trans ⟨hy.os, hy.tape, hy.output, hy.size, fun i hi => hy.block i (bD hi kb.size)⟩))
 have hs8:=kb.size;have H8:=aA (H1.out.kept kb);have B8:=aA (aR B1.out kb B1.out.size);have X8:=aA (X1.out.below kb X1.out.lt);have Y8:=aA (HY1.out.below kb HY1.out.lt);have O8:=aA (HO.out.kept (jM kb none) (by simp));clear kb q1 q4 dS;go_wp2_with fail;refine(lZ kJ _).mono ?_;rintro e w9 ⟨rfl,hb9⟩;have X9:=X8.out.below hb9 X8.out.lt;have r0:=X9.cell (j:=0) (by simp);have r1:=X9.cell (j:=1) (by simp);have r2:=X9.cell (j:=2) (by simp);have s0:=X9.frozen 0;have s1:=X9.frozen 1;have s2:=X9.frozen 2;simp only[aB,aC]at r0 r1 r2;have B9:=aA (aR B8.out hb9 B8.out.size);clear X9 hb9;unfold bQ;go_wp2;refine bE (v:= .agg #[.int .i64 4,.string kJ,.int .i64 0]) (by simp[results,Tryz.results71,go_sem,r0,r1,r2]) rfl ⟨rfl,?_⟩;exact((B9.out.setCell (by simp) _).setCell (by simp) _).setCell (by simp) _
theorem vAm (base X S gR cR:Nat)(G C:Nat->Nat->Nat)(W:Wd)(i:Nat)(key val:ByteArray)(w:World)(h:OwnD w X S gR cR G C W)(lo:LoD base X S gR G W.ss.length)(hw:bX W)(hb:base<=w.heap.size)(hi:i<W.ss.length)(hkz:key.size<=8)(hvz:val.size<=60)(hown:aM W.ss[i].wr key=false)(hc0:bK (W.ss.flatMap (·.wr)) key=0)(hfn:aM (aW W) key=false)(hfl:100<=(aW W).length):
  Calls Tryz.prog 71 #[.pointer (some ⟨X,0,none⟩),.int .i64 i,.agg #[.int .i64 10,.string key,.string val]] w fun e w'=>e= .returned (bQ 4 eQ)/\Below w.heap.size w w':=by
 have HOWN:=aA hown;clear hown;have hz:=dN hw;have hXw:=h.box.lt;have hSw:=h.blk.lt;have hpr:=bW hw.rows;have HCW:=aA (fun(w9:World) (h9:Wld w9 w9.heap.size (slc gR W.rows.length cR) (slc S W.ss.length W.ss.length) W)=>mS _ _ W w9 h9 hpr.2.1 hpr.1 hw.many (fun j hj=>(bW (hw.sess j hj).wr).2.1));have HWR:=aA ((bW (hw.sess i hi).wr).1);have b0:Below w.heap.size w ((w.alloc (.cells #[.int .i64 10,.string key,.string val] 41)).alloc (.cells #[.int .i64 0,.string ⟨#[]⟩,.int .i64 0] 46)):=((aD _ _).alloc (aI _) _).alloc (by simp) _;have h0:=h.kept b0;have x0:=h.box.cell (j:=0) (by simp);have x1:=h.box.cell (j:=1) (by simp);simp only[aB,aC]at x0 x1;unfold slc at x0 x1
 have X0:RowTo ((w.alloc (.cells #[.int .i64 10,.string key,.string val] 41)).alloc (.cells #[.int .i64 0,.string ⟨#[]⟩,.int .i64 0] 46)) (w.heap.size+1) 46 3 [.int .i64 0,.string ⟨#[]⟩,.int .i64 0]:=by
  have:=RowTo.whole (w.alloc (.cells #[.int .i64 10,.string key,.string val] 41)) #[.int .i64 0,.string ⟨#[]⟩,.int .i64 0] 46
  simpa using this
 have Y0:RowTo ((w.alloc (.cells #[.int .i64 10,.string key,.string val] 41)).alloc (.cells #[.int .i64 0,.string ⟨#[]⟩,.int .i64 0] 46)) w.heap.size 41 3 [.int .i64 10,.string key,.string val]:=(RowTo.whole w #[.int .i64 10,.string key,.string val] 41).alloc _;have hzs:((w.alloc (.cells #[.int .i64 10,.string key,.string val] 41)).alloc (.cells #[.int .i64 0,.string ⟨#[]⟩,.int .i64 0] 46)).heap.size=w.heap.size+1+1:=by simp
 have hkey:=mC (s:=key) (by omega);have hii:(i:Int)<(W.ss.length:Int):=by omega
 have H:=aA h;have H0:=aA h0;have HZ:=aA hz;have HW:=aA hw;have B0:=aA b0;have HX0:=aA X0;have HY0:=aA Y0;have HZS:=aA hzs;clear h h0 hz hw b0 X0 Y0 hzs hpr;go_enter Tryz.func71,Tryz.ntmps71;go_wp2_with fail;refine(HCW.out _ (H0.out.wld HZ.out)).mono ?_;rintro e w1 ⟨bm,n,M,rfl,hown,hmap,hn,hbm,hb1⟩;have hs1:=hb1.size;have H1:=aA (H0.out.kept hb1);have B1:=aA (aR B0.out hb1 B0.out.size);have X1:=aA (HX0.out.below hb1 HX0.out.lt);have Y1:=HY0.out.below hb1 HY0.out.lt;have q1:=Y1.cell (j:=1) (by simp);simp only[aB,aC]at q1;have HY1:=aA Y1;have HO:=aA hown;have HM:=aA hmap;have HAT:=aA (hmap.at_ key);have hhas:Maps.has M (kl key)=aM (aW W) key:=hmap.has key;have hsize:Maps.size M=(aW W).length:=hmap.size;rw[HZS.out]at hs1;have hbm':w.heap.size+1+1<=bm:=by rw[HZS.out]at hbm;exact hbm
 clear hown hmap hb1 Y1 x0 x1 hbm;have g1:decide ((0:Int)<(bK (W.ss.flatMap (·.wr)) key:Int))=false:=aY (by omega);have g2:decide (0<bK (W.ss.flatMap (·.wr)) key)=false:=aY (by omega);rw[hfn]at hhas;have g3:decide ((100:Int)<=((aW W).length:Int))=true:=cF (by omega);have g4:decide (100<=(aW W).length)=true:=cF hfl
 go_wp2_with (first
  |(at_lookup;refine wpList_lookup_own_ok_int _ rfl _ _ 162 rfl 9 3 .i64 jE Tryz.underlying162 Tryz.underlying3 (mR _) bm n _ rfl HO.out _ _ rfl hkey ?_;intro q hat hwq;obtain rfl:q=(bK (W.ss.flatMap (·.wr)) key:Int):=(lF (HAT.out.symm.trans hat)).symm;clear hat hwq)
  | go_in)
 have q4:w1.cell? ⟨S,i*5+4,none⟩=some (.slice (some ⟨G i 3,0,none⟩) W.ss[i].wr.length (C i 3)):=H1.out.cs i 3 hi (by omega);have hl4:=aA (show Lst w1 w1.heap.size (.slice (some ⟨G i 3,0,none⟩) W.ss[i].wr.length (C i 3)) W.ss[i].wr from H1.out.list HZ.out hi (j:=3) (by omega));have hz0:w.heap.size<w1.heap.size:=by omega
 have hz1:S<w1.heap.size:=H1.out.blk.lt;have kb:=aD w1.heap.size w1;have dS:=aA (show w1.drew.cell? ⟨S,i*5+4,none⟩=some (.slice (some ⟨G i 3,0,none⟩) W.ss[i].wr.length (C i 3))/\w1.drew.cell? ⟨w.heap.size,1,none⟩=some (.string key)from⟨q4,q1⟩)
 go_region_held3 (fun wx=>wx.cell? ⟨S,i*5+4,none⟩=some (.slice (some ⟨G i 3,0,none⟩) W.ss[i].wr.length (C i 3))/\wx.cell? ⟨w.heap.size,1,none⟩=some (.string key))
  (first
   |with_reducible exact⟨q4,q1⟩
   |with_reducible exact dS.out
   | with_reducible exact ⟨(kb.cell (p := ⟨S, i * 5 + 4, none⟩) hz1).trans q4, (kb.cell (p := ⟨w.heap.size, 1, none⟩) hz0).trans q1⟩)
  (first
   | (
    go_at_call 95
    refine(jA _ W.ss[i].wr key _ (by first|exact hl4.out|exact(hl4.out.step ((aD _ _).drew))|exact(hl4.out.step (aZ (aD _ _) _))) HWR.out).mono ?_
    rw[HOWN.out];rintro e w8 ⟨rfl,hy⟩
    have kb : Below w1.heap.size w1 w8 := by first | exact kb.trans (hy.mono kb.size) | exact kb.trans ⟨hy.os, hy.tape, hy.output, hy.size, fun i hi => hy.block i (bD hi kb.size)⟩))
 have hs8:=kb.size;have H8:=aA (H1.out.kept kb);have B8:=aA (aR B1.out kb B1.out.size);have X8:=aA (X1.out.below kb X1.out.lt);have Y8:=aA (HY1.out.below kb HY1.out.lt);have O8:=aA (HO.out.kept (jM kb none) (by simp));clear kb q1 q4 dS;have hlen:=O8.out.len (t:=162) (e:=3) Tryz.underlying162;go_wp2_with fail;clear hlen;refine(lZ eQ _).mono ?_;rintro e w9 ⟨rfl,hb9⟩;have X9:=X8.out.below hb9 X8.out.lt;have r0:=X9.cell (j:=0) (by simp);have r1:=X9.cell (j:=1) (by simp);have r2:=X9.cell (j:=2) (by simp);have s0:=X9.frozen 0;have s1:=X9.frozen 1;have s2:=X9.frozen 2;simp only[aB,aC]at r0 r1 r2;have B9:=aA (aR B8.out hb9 B8.out.size);clear X9 hb9;unfold bQ;go_wp2;refine bE (v:= .agg #[.int .i64 4,.string eQ,.int .i64 0]) (by simp[results,Tryz.results71,go_sem,r0,r1,r2]) rfl ⟨rfl,?_⟩;exact((B9.out.setCell (by simp) _).setCell (by simp) _).setCell (by simp) _
theorem vAn (base X S gR cR:Nat)(G C:Nat->Nat->Nat)(W:Wd)(i:Nat)(key val:ByteArray)(w:World)(h:OwnD w X S gR cR G C W)(lo:LoD base X S gR G W.ss.length)(hw:bX W)(hb:base<=w.heap.size)(hi:i<W.ss.length)(hkz:key.size<=8)(hvz:val.size<=60)(hown:aM W.ss[i].wr key=true)(hfn:aM (aW W) key=true)(hst:W.ss[i].st=1):
  Calls Tryz.prog 71 #[.pointer (some ⟨X,0,none⟩),.int .i64 i,.agg #[.int .i64 10,.string key,.string val]] w (lC w base X S gR G W.ss.length (W.put i {W.ss[i]with wr:=cI W.ss[i].wr key val})):=by
 have HOWN:=aA hown;have HROOM:=aA (sT hw hi (key:=key) (fun hh=>by rw[hfn]at hh;cases hh.1))
 have HPOS := aA (show 0 < bK (W.ss.flatMap (·.wr)) key by
  have h1:=(mQ (key:=key) (bW (hw.sess i hi).wr).1).2 hown;have h2:=qK (key:=key) hi
  omega)
 have HRR:=aA ((bW hw.rows).1);clear hown;have hz:=dN hw;have hXw:=h.box.lt;have hSw:=h.blk.lt;have hpr:=bW hw.rows;have HCW:=aA (fun(w9:World) (h9:Wld w9 w9.heap.size (slc gR W.rows.length cR) (slc S W.ss.length W.ss.length) W)=>mS _ _ W w9 h9 hpr.2.1 hpr.1 hw.many (fun j hj=>(bW (hw.sess j hj).wr).2.1));have HWR:=aA ((bW (hw.sess i hi).wr).1);have b0:Below w.heap.size w ((w.alloc (.cells #[.int .i64 10,.string key,.string val] 41)).alloc (.cells #[.int .i64 0,.string ⟨#[]⟩,.int .i64 0] 46)):=((aD _ _).alloc (aI _) _).alloc (by simp) _;have h0:=h.kept b0;have x0:=h.box.cell (j:=0) (by simp);have x1:=h.box.cell (j:=1) (by simp);simp only[aB,aC]at x0 x1;unfold slc at x0 x1
 have X0:RowTo ((w.alloc (.cells #[.int .i64 10,.string key,.string val] 41)).alloc (.cells #[.int .i64 0,.string ⟨#[]⟩,.int .i64 0] 46)) (w.heap.size+1) 46 3 [.int .i64 0,.string ⟨#[]⟩,.int .i64 0]:=by
  have:=RowTo.whole (w.alloc (.cells #[.int .i64 10,.string key,.string val] 41)) #[.int .i64 0,.string ⟨#[]⟩,.int .i64 0] 46
  simpa using this
 have Y0:RowTo ((w.alloc (.cells #[.int .i64 10,.string key,.string val] 41)).alloc (.cells #[.int .i64 0,.string ⟨#[]⟩,.int .i64 0] 46)) w.heap.size 41 3 [.int .i64 10,.string key,.string val]:=(RowTo.whole w #[.int .i64 10,.string key,.string val] 41).alloc _;have hzs:((w.alloc (.cells #[.int .i64 10,.string key,.string val] 41)).alloc (.cells #[.int .i64 0,.string ⟨#[]⟩,.int .i64 0] 46)).heap.size=w.heap.size+1+1:=by simp
 have hkey:=mC (s:=key) (by omega);have hii:(i:Int)<(W.ss.length:Int):=by omega
 have H:=aA h;have H0:=aA h0;have HZ:=aA hz;have HW:=aA hw;have B0:=aA b0;have HX0:=aA X0;have HY0:=aA Y0;have HZS:=aA hzs;clear h h0 hz hw b0 X0 Y0 hzs hpr;go_enter Tryz.func71,Tryz.ntmps71;go_wp2_with fail;refine(HCW.out _ (H0.out.wld HZ.out)).mono ?_;rintro e w1 ⟨bm,n,M,rfl,hown,hmap,hn,hbm,hb1⟩;have hs1:=hb1.size;have H1:=aA (H0.out.kept hb1);have B1:=aA (aR B0.out hb1 B0.out.size);have X1:=aA (HX0.out.below hb1 HX0.out.lt);have Y1:=HY0.out.below hb1 HY0.out.lt;have q1:=Y1.cell (j:=1) (by simp);simp only[aB,aC]at q1;have HY1:=aA Y1;have HO:=aA hown;have HM:=aA hmap;have HAT:=aA (hmap.at_ key);have hhas:Maps.has M (kl key)=aM (aW W) key:=hmap.has key;have hsize:Maps.size M=(aW W).length:=hmap.size;rw[HZS.out]at hs1;have hbm':w.heap.size+1+1<=bm:=by rw[HZS.out]at hbm;exact hbm
 clear hown hmap hb1 Y1 x0 x1 hbm;have g1:decide ((0:Int)<(bK (W.ss.flatMap (·.wr)) key:Int))=true:=cF (by have:=HPOS.out;omega);have g2:decide (0<bK (W.ss.flatMap (·.wr)) key)=true:=cF HPOS.out;rw[hfn]at hhas
 go_wp2_with (first
  |(at_lookup;refine wpList_lookup_own_ok_int _ rfl _ _ 162 rfl 9 3 .i64 jE Tryz.underlying162 Tryz.underlying3 (mR _) bm n _ rfl HO.out _ _ rfl hkey ?_;intro q hat hwq;obtain rfl:q=(bK (W.ss.flatMap (·.wr)) key:Int):=(lF (HAT.out.symm.trans hat)).symm;clear hat hwq)
  | go_in)
 have q4:w1.cell? ⟨S,i*5+4,none⟩=some (.slice (some ⟨G i 3,0,none⟩) W.ss[i].wr.length (C i 3)):=H1.out.cs i 3 hi (by omega);have hl4:=aA (show Lst w1 w1.heap.size (.slice (some ⟨G i 3,0,none⟩) W.ss[i].wr.length (C i 3)) W.ss[i].wr from H1.out.list HZ.out hi (j:=3) (by omega));have hz0:w.heap.size<w1.heap.size:=by omega
 have hz1:S<w1.heap.size:=H1.out.blk.lt;have kb:=aD w1.heap.size w1;have dS:=aA (show w1.drew.cell? ⟨S,i*5+4,none⟩=some (.slice (some ⟨G i 3,0,none⟩) W.ss[i].wr.length (C i 3))/\w1.drew.cell? ⟨w.heap.size,1,none⟩=some (.string key)from⟨q4,q1⟩)
 go_region_held3 (fun wx=>wx.cell? ⟨S,i*5+4,none⟩=some (.slice (some ⟨G i 3,0,none⟩) W.ss[i].wr.length (C i 3))/\wx.cell? ⟨w.heap.size,1,none⟩=some (.string key))
  (first
   |with_reducible exact⟨q4,q1⟩
   |with_reducible exact dS.out
   | with_reducible exact ⟨(kb.cell (p := ⟨S, i * 5 + 4, none⟩) hz1).trans q4, (kb.cell (p := ⟨w.heap.size, 1, none⟩) hz0).trans q1⟩)
  (first
   | (
    go_at_call 95
    refine(jA _ W.ss[i].wr key _ (by first|exact hl4.out|exact(hl4.out.step ((aD _ _).drew))|exact(hl4.out.step (aZ (aD _ _) _))) HWR.out).mono ?_
    rw[HOWN.out];rintro e w8 ⟨rfl,hy⟩
    have kb : Below w1.heap.size w1 w8 := by first | exact kb.trans (hy.mono kb.size) | exact kb.trans ⟨hy.os, hy.tape, hy.output, hy.size, fun i hi => hy.block i (bD hi kb.size)⟩))
 have hs8:=kb.size;have H8:=aA (H1.out.kept kb);have B8:=aA (aR B1.out kb B1.out.size);have X8:=aA (X1.out.below kb X1.out.lt);have Y8:=aA (HY1.out.below kb HY1.out.lt);have O8:=aA (HO.out.kept (jM kb none) (by simp));clear kb q1 q4 dS;have c0:=H8.out.st i hi;rw[hst]at c0;have pc:w8.cell? ⟨S,i*5+4,none⟩=some (.slice (some ⟨G i 3,0,none⟩) W.ss[i].wr.length (C i 3)):=H8.out.cs i 3 hi (by omega);have pf:=H8.out.blk.frozen (i*5+4);have hneg:S≠G i 3:=Ne.symm (H8.out.neGS i 3 hi (by omega));have hgw:G i 3<w.heap.size:=(H.out.ls i 3 hi (by omega)).row.lt;have hpw:S<w.heap.size:=hSw;have HSTORE:=aA (fun(w9:World) (ho9:OwnL w9 (G i 3) (C i 3) W.ss[i].wr) (hp9:w9.cell? ⟨S,i*5+4,none⟩=some (.slice (some ⟨G i 3,0,none⟩) W.ss[i].wr.length (C i 3))) (hf9:w9.frozen? ⟨S,i*5+4,none⟩=false)=>oT (G i 3) (C i 3) S (i*5+4) W.ss[i].wr 10 key val 100 w9 ho9 HWR.out (by have:=(HZ.out.li i 3 hi (by omega)).1;have e:(W.ss[i].li 3).length=W.ss[i].wr.length:=rfl;omega) ((HZ.out.li i 3 hi (by omega)).sz) hp9 hf9 hneg (by omega) (by omega) HROOM.out);have O9:=aA (show OwnL w8 (G i 3) (C i 3) W.ss[i].wr from H8.out.ls i 3 hi (by omega));have PC:=aA (aJ pc pf);have hw8:w.heap.size<w8.heap.size:=by omega
 have hR8:w.heap.size+1<w8.heap.size:=by omega
 have y0:=Y8.out.cell (j:=0) (by simp);have y1:=Y8.out.cell (j:=1) (by simp);have y2:=Y8.out.cell (j:=2) (by simp);simp only[aB,aC]at y0 y1 y2;clear pc pf;go_wp2;have dS:=aA (show w8.drew.cell? ⟨w.heap.size,0,none⟩=some (.int .i64 10)/\w8.drew.cell? ⟨w.heap.size,1,none⟩=some (.string key)/\w8.drew.cell? ⟨w.heap.size,2,none⟩=some (.string val)from⟨y0,y1,y2⟩);have hne1:w.heap.size≠G i 3:=by omega
 have hne2:w.heap.size≠S:=by omega
 have hne3:w.heap.size+1≠G i 3:=by omega
 have hne4:w.heap.size+1≠S:=by omega
 go_region_held3 (fun wx=>wx.cell? ⟨w.heap.size,0,none⟩=some (.int .i64 10)/\wx.cell? ⟨w.heap.size,1,none⟩=some (.string key)/\wx.cell? ⟨w.heap.size,2,none⟩=some (.string val))
  (first
   |with_reducible exact⟨y0,y1,y2⟩
   |with_reducible exact dS.out
   |with_reducible exact⟨eW z0 (by omega),eW z1 (by omega),eW z2 (by omega)⟩
   | with_reducible exact ⟨z0, z1, z2⟩)
  (first
   | (
    go_at_call 70
    refine(HSTORE.out _ (by first|exact O9.out|exact O9.out.same rfl) (by first|exact PC.out.1|assumption) (by first|exact PC.out.2|assumption)).mono ?_
    rintro e wB ⟨g',c',rfl,ho',hl',hc⟩;have hcB:Chg w8 wB (G i 3) S (i*5+4) (.slice (some ⟨g',0,none⟩) (cI W.ss[i].wr key val).length c'):=⟨hc.os,hc.tape,hc.output,hc.size,hc.other,hc.here⟩;have hlB:g'=G i 3\/w8.heap.size<=g':=hl';have z0:=(aV (a:=⟨w.heap.size,0,none⟩) (hcB.other _ hw8 hne1 hne2)).trans y0;have z1:=(aV (a:=⟨w.heap.size,1,none⟩) (hcB.other _ hw8 hne1 hne2)).trans y1;have z2:=(aV (a:=⟨w.heap.size,2,none⟩) (hcB.other _ hw8 hne1 hne2)).trans y2;have RB:=X8.out.same (hcB.other _ hR8 hne3 hne4);have r0:=RB.cell (j:=0) (by simp);have r1:=RB.cell (j:=1) (by simp);have r2:=RB.cell (j:=2) (by simp);have s0:=RB.frozen 0;have s1:=RB.frozen 1;have s2:=RB.frozen 2;simp only[aB,aC]at r0 r1 r2
    unfold bQ))
 have HZ8:=aA (aJ ho' (aJ hlB hcB));clear ho' hlB hcB hl' hc RB z0 z1 z2;go_wp2;refine bE (v:= .agg #[.int .i64 1,.string ⟨#[]⟩,.int .i64 0]) (by simp[results,Tryz.results71,go_sem,r0,r1,r2]) rfl ?_;obtain⟨a1,a2,a3⟩:=HZ8.out;have ch:=(((a3.pull B8.out hpw).setN (p:=⟨w.heap.size+1,0,none⟩) (by simp) hpw (.int .i64 1)).setN (p:=⟨w.heap.size+1,1,none⟩) (by simp) hpw (.string ⟨#[]⟩)).setN (p:=⟨w.heap.size+1,2,none⟩) (by simp) hpw (.int .i64 0);have hgR:w.heap.size+1≠g':=by rcases a2 with hh|hh<;>omega
 have oF:OwnL (((wB.setCell ⟨w.heap.size+1,0,none⟩ (.int .i64 1)).setCell ⟨w.heap.size+1,1,none⟩ (.string ⟨#[]⟩)).setCell ⟨w.heap.size+1,2,none⟩ (.int .i64 0)) g' c' (cI W.ss[i].wr key val):=⟨((a1.row.other hgR _).other hgR _).other hgR _,a1.len,a1.most⟩;have hlg:base<=g':=by have q1:=lo.g i 3 hi (by omega);rcases a2 with hh|hh<;>omega
 refine⟨rfl,H.out.stored lo hlg HZ.out hi (j:=3) (by omega) (by have h1:=kY W.ss[i].wr key val;rw[eS HWR.out]at h1;have:=(HZ.out.li i 3 hi (by omega)).1;have e:(W.ss[i].li 3).length=W.ss[i].wr.length:=rfl;show(cI W.ss[i].wr key val).length<=1000;omega) (((HZ.out.li i 3 hi (by omega)).sz).ins (by omega) (by omega)) oF ch rfl (fun k hk=>?_),ch.bel (lo.g i 3 hi (by omega)) lo.s hb,fun b hb _ h2 _ h4=>ch.other b hb (h4 i 3 hi (by omega)) h2⟩;rcases j4 hk with rfl|rfl|rfl|rfl<;>rfl
end Go.Proofs.YtpbaobmegomfpabGreatDoor

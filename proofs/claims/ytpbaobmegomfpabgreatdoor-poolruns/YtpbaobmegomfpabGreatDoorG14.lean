/-
  Texts of the proof.
-/
import Derived.Test.YtpbaobmegomfpabGreatDoorG13
set_option linter.unusedVariables false
set_option linter.unusedSimpArgs false
set_option maxRecDepth 100000
set_option maxHeartbeats 16000000
open List renaming getElem_toArray→aE,getElem_cons_zero→aB,getElem_cons_succ→aC,setIfInBounds_toArray→aH,set_cons_zero→aG,set_cons_succ→aF,take_succ_eq_append_getElem→gO,getElem?_eq_some_iff→fN,length_map→dR,mem_cons_self→gJ,length_cons→fC,mem_cons_of_mem→iZ
open Nat renaming le_refl→aI,lt_of_lt_of_le→bD,le_trans→bL,le_of_lt→dM,zero_add→cW
open Go.Lib renaming hid→aA
open Go.RowKit.Below renaming refl→aD
open Go.World renaming cell?_of_block→aV,frozen?_of_block→iR
open And renaming intro→aJ
open Go.Act renaming put→aQ
open Go renaming below_drewN→aZ
namespace Go.Proofs.YtpbaobmegomfpabGreatDoor
open Go.RowKit
def iY (n:Nat):Value:= .int .i64 (n:Int)
theorem gAd (v:Value)(g:Option Nat)(l:List Nat)(x:Nat)(w:World)(hl:Sl w 3 1 v g l.length (l.map iY))(hby:l.length<=1000000):
  Calls Tryz.prog 137 #[v,.int .i64 (x:Int)] w fun e w'=> ∃i:Int,e= .returned (.int .i64 i)/\decide (0<=i)=l.contains x/\w'=w:=by
 obtain⟨A,c,rfl,hc⟩:=hl.shape;have HL:=aA hl;clear hl;go_enter Tryz.func137,Tryz.ntmps137;go_wp2
 go_loopw [8] (fun i wr=> ∃k:Nat,k<=l.length/\i= .int .i64 k/\Hid ((l.take k).contains x=false)/\wr=w) (fun i _=>l.length-(intOf i).toNat)
 case atStart=>exact⟨0,by omega,rfl,rfl,rfl⟩
 case round=>
  obtain⟨k,hk,rfl,HZ,rfl⟩:=hrel
  by_cases hlt:k<l.length
  ·obtain⟨b,off,cap,hg,hv,_,hcs⟩:=HL.out.at (by omega);injection hv with hv e2 e3;subst hv;have c0:=hcs k (by simpa using hlt);rw[List.getElem_map]at c0;unfold iY at c0
   have HS1 := aA (show (l.take (k + 1)).contains x = (x == l[k]) by
    rw[gO hlt,List.contains_append,HZ.out];simp
    rfl)
   have HAN:=aA (fun(h:x=l[k])=>show l.contains x=true from by rw[h];exact List.contains_iff_mem.2 (List.getElem_mem hlt));generalize l[k]=y at*
   by_cases hq:x=y
   ·have HT:=aA (HAN.out hq);have t1:((x:Int)==(y:Int))=true:=(by simp[hq]);clear hq HAN HS1 hcs hg e2 e3;go_wp2;go_ret;exact⟨_,rfl,by rw[HT.out];simp,rfl⟩
   ·have t1:((x:Int)==(y:Int))=false:=(by simp;omega);have HF:=aA (show(l.take (k+1)).contains x=false by rw[HS1.out];simp[hq]);clear hq HAN HS1 hcs hg e2 e3;go_wp2;go_roundw
    case rel=>exact⟨k+1,by omega,by go_num,HF.out,by trivial⟩
    case measure=>simp[intOf];omega
  ·obtain rfl:k=l.length:=by omega
   rw[List.take_length]at HZ;go_wp2;go_ret;exact⟨_,rfl,by rw[HZ.out];decide,rfl⟩
theorem gAe (v:Value)(g:Option Nat)(l:List Nat)(x:Nat)(w:World)(hl:Sl w 3 1 v g l.length (l.map iY))(hby:l.length<=1000000):
  Calls Tryz.prog 120 #[v,.int .i64 (x:Int)] w fun e w'=>e= .returned (.bool (l.contains x))/\w'=w:=by
 have HI:=aA (gAd v g l x w hl hby);obtain⟨A,c,rfl,hc⟩:=hl.shape;clear hl;go_enter Tryz.func120,Tryz.ntmps120;go_wp2_with fail;refine HI.out.mono ?_;rintro e w1 ⟨i,rfl,hi,rfl⟩;have HI2:=aA hi;clear hi;go_wp2;go_ret;exact⟨by rw[<-HI2.out];rfl,rfl⟩
def gAf (l:List Bool)(i:Int):Prop:=(l.idxOf false<l.length/\i=(l.idxOf false:Nat))\/(¬l.idxOf false<l.length/\i= -1)
theorem xJ: ∀{l:List Bool} {k:Nat} (hk:k<l.length),l[k]=false->l.idxOf false<=k
 |b::l,0,_,h=>by
  simp only[aB]at h;rw[h,List.idxOf_cons_self];exact aI _
 |b::l,k+1,hk,h=>by
  have:=xJ (l:=l) (k:=k) (by simpa using hk) (by simpa using h);rw[List.idxOf_cons]
  cases b
  ·simp
  ·simpa using this
theorem gAg (v:Value)(g:Option Nat)(l:List Bool)(w:World)(hl:Sl w 4 1 v g l.length (l.map Value.bool))(hby:l.length<=1000000):
  Calls Tryz.prog 121 #[v,.bool false] w fun e w'=> ∃i:Int,e= .returned (.int .i64 i)/\gAf l i/\w'=w:=by
 obtain⟨A,c,rfl,hc⟩:=hl.shape;have HL:=aA hl;clear hl;go_enter Tryz.func121,Tryz.ntmps121;go_wp2
 go_loopw [8] (fun i wr=> ∃k:Nat,k<=l.length/\i= .int .i64 k/\Hid (k<=l.idxOf false)/\wr=w) (fun i _=>l.length-(intOf i).toNat)
 case atStart=>exact⟨0,by omega,rfl,Nat.zero_le _,rfl⟩
 case round=>
  obtain⟨k,hk,rfl,HZ,rfl⟩:=hrel
  by_cases hlt:k<l.length
  ·obtain⟨b,off,cap,hg,hv,_,hcs⟩:=HL.out.at (by omega);injection hv with hv e2 e3;subst hv;have c0:=hcs k (by simpa using hlt);rw[List.getElem_map]at c0
   have HT := aA (fun (h : l[k] = false) => show l.idxOf false = k from by
    have h1:=HZ.out;have h2:l.idxOf false<=k:=xJ hlt h
    omega)
   have HF := aA (fun (h : l[k] = true) => show k + 1 ≤ l.idxOf false from by
    have h1:=HZ.out;rcases Nat.lt_or_ge k (l.idxOf false)with h'|h'
    ·exact h'
    ·have e:l.idxOf false=k:=(by omega);have h3:=List.getElem_idxOf (x:=false) (xs:=l) (by rw[e];exact hlt);simp only[e,h]at h3
     cases h3)
   cases hq:l[k]with
   |false=>
    rw[hq]at c0;have HE:=aA (HT.out hq);clear hq HT HF hcs hg e2 e3;go_wp2;go_ret;exact⟨_,rfl,.inl ⟨by rw[HE.out];exact hlt,by rw[HE.out]⟩,rfl⟩
   |true=>
    rw[hq]at c0;have HE:=aA (HF.out hq);clear hq HT HF hcs hg e2 e3;go_wp2;go_roundw
    case rel=>exact⟨k+1,by omega,by go_num,HE.out,by trivial⟩
    case measure=>simp[intOf];omega
  ·obtain rfl:k=l.length:=by omega
   go_wp2;go_ret;exact⟨_,rfl,.inr ⟨by have:=HZ.out;omega,rfl⟩,rfl⟩
section
variable {base P:Nat}{f:Nat->Value}{G:Nat->Option Nat}{mode:Int}{m:Mach PE}
theorem tR (m:Mach PE){c:Nat}(hc:c<6):cG m (2+c)=(m.get c).wait.map jY:=by
 unfold cG;rw[if_neg (by omega),if_pos (by omega),show 2+c-2=c by omega]
theorem PMem.waitSl {w:World}(h:PMem 0 w base P f G mode m){c:Nat}(hc:c<6):Sl w 41 3 (f (4+c*6+1)) (G (2+c)) (m.get c).wait.length ((m.get c).wait.map jY).flatten:=by
 have e1:cO (2+c)=4+c*6+1:=by unfold cO;rw[if_neg (by omega),if_pos (by omega)];omega
 have e2:iG (2+c)=41:=by unfold iG;rw[if_neg (by omega),if_pos (by omega)]
 have e3:fR (2+c)=3:=by unfold fR;rw[if_neg (by omega),if_pos (by omega)]
 have:=h.sl (2+c) (by omega) (by omega) (by omega);rw[e1,e2,e3,tR _ hc,dR]at this;exact this
theorem PMem.first {w:World}(h:PMem 0 w base P f G mode m){c:Nat}(hc:c<6){r:Req}{l:List Req}(hw:(m.get c).wait=r::l):
  ∃b off cap,G (2+c)=some b/\f (4+c*6+1)= .slice (some ⟨b,off,none⟩) (l.length+1) cap/\l.length+1<=cap/\w.cell? ⟨b,off,none⟩=some (.int .i64 r.k)/\w.cell? ⟨b,off+1,none⟩=some (.string r.key)/\w.cell? ⟨b,off+2,none⟩=some (.string r.val):=by
 have hs:=h.waitSl hc;rw[hw]at hs;obtain⟨b,off,cap,h1,h2,h3,h4⟩:=hs.at (by simp);have hlen:3<=((r::l).map jY).flatten.length:=by rw[hs.len];simp only[fC];omega
 refine⟨b,off,cap,h1,by simpa using h2,by simpa using h3,?_,?_,?_⟩
 ·have:=h4 0 (by omega);simpa [jY] using this
 ·have:=h4 1 (by omega);simpa [jY] using this
 ·have:=h4 2 (by omega);simpa [jY] using this
theorem qW {r:Req}:(fG mode r).size=0 ↔ eJ mode r=false:=by
 unfold fG eJ
 by_cases h1:r.k=0
 ·simp[h1,nV,ByteArray.size]
 ·by_cases h2:r.k=1/\mode=3
  ·simp[h1,h2,nW,ByteArray.size]
  ·rw[if_neg h1,if_neg h2];simp only[decide_eq_false_iff_not];exact⟨fun _ hh=>hh.elim h1 h2,fun _=>rfl⟩
theorem gAh (w:World)(h:PMem 0 w base P f G mode m){c:Nat}(hc:c<6):
  Calls Tryz.prog 99 #[cC P 0,.int .i64 c] w fun e w'=>e= .returned (.bool (dD mode (m.get c)))/\Below w.heap.size w w':=by
 have hP:=h.row.lt;have hcI:(c:Int)<6:=by omega
 have p1:=h.row.cell (j:=4+c*6+1) (by omega);have p2:=h.row.cell (j:=4+c*6+2) (by omega);have p0:=h.row.cell (j:=0) (by omega);rw[h.has c hc]at p2;rw[h.md]at p0;unfold cC
 cases hw:(m.get c).wait with
 |nil=>
  have hs:=h.waitSl hc;rw[hw]at hs;obtain⟨A,cc,hv,_⟩:=hs.shape;rw[hv]at p1;simp only[List.length_nil]at p1;have HE:=aA (show dD mode (m.get c)=false by unfold dD;rw[hw]);clear hs hv hw p2 p0 h;go_enter Tryz.func99,Tryz.ntmps99;go_wp2;go_ret;exact⟨by rw[HE.out];rfl,aD _ _⟩
 |cons r l=>
  obtain⟨b,off,cap,hG,hv,hcap,c0,c1,c2⟩:=h.first hc hw;rw[hv]at p1;have hbl:=(h.lo _ _ hG).2;have hpos:(0:Int)<((l.length+1:Nat):Int):=by omega
  cases hsv:(m.get c).srv with
  |some s=>
   have HE:=aA (show dD mode (m.get c)=true by unfold dD;rw[hw,hsv];rfl);rw[hsv]at p2;simp only[Option.isSome]at p2;clear hv hw hsv hG h p0 c0 c1 c2;generalize l.length=n at*;go_enter Tryz.func99,Tryz.ntmps99;go_wp2;go_ret;exact⟨by rw[HE.out];rfl,aD _ _⟩
  |none=>
   have HE:=aA (show dD mode (m.get c)=eJ mode r by unfold dD;rw[hw,hsv];rfl);rw[hsv]at p2;simp only[Option.isSome]at p2;have HRF:=aA (fun(wc:World) (h1:wc.cell? ⟨P,0,none⟩=some (.int .i64 mode)) (h2:P<wc.heap.size)=>qAs P mode r.k r.key r.val wc h1 h2);have HRE:=aA (qW (mode:=mode) (r:=r));obtain⟨rf,HRf⟩: ∃x,Hid (fG mode r=x):=⟨_,aA rfl⟩;have hrf:fG mode ⟨r.k,r.key,r.val⟩=rf:=HRf.out;rw[hrf]at HRF;rw[HRf.out]at HRE;have HP0:=aA p0;unfold cC at HRF;clear hv hw hsv hG h hrf HRf p0;generalize l.length=n at*;go_enter Tryz.func99,Tryz.ntmps99;go_wp2_with fail;refine(HRF.out _ HP0.out hP).mono ?_;rintro e w1 ⟨rfl,hb1⟩;have HB:=aA hb1;clear hb1 c0 c1 c2 p1 p2 HP0 HRF
   have hEq:(!rf.toList.isEmpty)=eJ mode r:=by
    cases hh:eJ mode r with
    |false=>rw[kV (HRE.out.2 hh)];rfl
    |true=>
     have h1:1<=rf.size:=by
      have hne:rf.size≠0:=fun h0=>by rw[HRE.out.1 h0]at hh;cases hh
      omega
     rw[mM h1];rfl
   have HEQ:=aA hEq;clear hEq;go_wp2;go_ret;refine⟨?_,HB.out⟩;rw[HE.out,<-HEQ.out];rfl
end
theorem qX:(Tryz.prog.info? 3).map (fun i=>(i.zero,i.size,i.bytes))=some (some (.int .i64 0),1,8):=by kernel_rfl
section
variable {base P:Nat}{f:Nat->Value}{G:Nat->Option Nat}{mode:Int}{m:Mach PE}
theorem oA (m:Mach PE):cG m 8=m.line.map (fun(n:Nat)=>[Value.int .i64 (n:Int)]):=by
 unfold cG;rw[if_neg (by omega),if_neg (by omega),if_pos rfl]
theorem xA3 (l:List Nat):(l.map (fun(n:Nat)=>[Value.int .i64 (n:Int)])).flatten=l.map iY:=by
 induction l with
 |nil=>rfl
 |cons a l ih=>simp[ih,iY]
theorem PMem.lineSl {w:World}(h:PMem 0 w base P f G mode m):Sl w 3 1 (f 40) (G 8) m.line.length (m.line.map iY):=by
 have:=h.sl 8 (by omega) (by omega) (by omega);rw[oA,xA3,dR]at this;exact this
theorem xK {m m':Mach PE}{k:Nat}(h1:m'.cl=m.cl)(h2:m'.busy=m.busy)(h4:m'.sent=m.sent)(h5:m'.deeds=m.deeds)(hk:k≠8):cG m' k=cG m k:=by
 unfold cG Mach.get;rw[h1,h2,h4,h5,if_neg hk,if_neg hk]
theorem PMem.queued {w:World}(h:PMem 0 w base P f G mode m)(hl:m.line.length<=1000){ad:Nat}(x:Nat)(hx:w.cell? ⟨ad,0,none⟩=some (.int .i64 (x:Int))):
  ∃b off cap w',(Builtin.append_ #[79,79] 79 #[f 40,.slice (some ⟨ad,0,none⟩) 1 1]).run Tryz.prog w= .ok (.slice (some ⟨b,off,none⟩) (m.line.length+1) cap) w'/\w'.cell? ⟨P,40,none⟩=some (f 40)/\w'.frozen? ⟨P,40,none⟩=false/\P<w'.heap.size/\
   PMem 0 (w'.setCell ⟨P,40,none⟩ (.slice (some ⟨b,off,none⟩) (m.line.length+1) cap)) base P (aL f 40 (.slice (some ⟨b,off,none⟩) (m.line.length+1) cap)) (aL G 8 (some b)) mode {m with line:=m.line++[x]}/\Below base w (w'.setCell ⟨P,40,none⟩ (.slice (some ⟨b,off,none⟩) (m.line.length+1) cap)):=by
 obtain⟨i0,hi,hz0,hz1,hz2⟩:=info_parts qX;have hbP:=(h.lo 0 P h.p0).1;have hbase:base<=w.heap.size:=bL hbP (dM h.row.lt)
 obtain ⟨b, off, cap, w', hrun, hs, hg, hb⟩ := h.lineSl.append (P := Tryz.prog) 79 79 i0 _ 8 Tryz.underlying79 hi hz0 hz1 hz2 rfl (by omega) ⟨ad, 0, none⟩ 1 [.int .i64 (x : Int)] rfl (fun j u hu => by
  cases j with
  |zero=>simp at hu;rw[<-hu];exact hx
  | succ j => simp at hu) (fun u hu => by simp at hu; rw [hu]; rfl) (by unfold maxLen; omega) (by omega)
 have hne:some P≠G 8:=fun e=>h.noP (k:=8) (by omega) e.symm
 have hP':=hg.block P h.row.lt hne;have hgr:=h.grow (k:=8) (m':={m with line:=m.line++[x]}) (n':=m.line.length+1) (v:= .slice (some ⟨b,off,none⟩) (m.line.length+1) cap) (b:=b) (by omega) (by omega) hbase hg hs hb (by rw[oA];simp) (by rw[oA,xA3,List.map_append];rfl) (fun k hk=>xK rfl rfl rfl rfl hk) rfl (fun _=>rfl) (fun _=>rfl);exact⟨b,off,cap,w',hrun,(aV (a:=⟨P,40,none⟩) hP').trans (h.row.cell (j:=40) (by omega)),(iR (a:=⟨P,40,none⟩) hP').trans (h.row.frozen _),bD h.row.lt hg.size,hgr,((aD base w).grown hg hbase (fun x hx=>(h.lo _ _ hx).1)).setCell hbP _⟩
def fM (m:Mach PE)(k:Nat):List Nat:=(List.range k).foldl (fQ m) m.line
theorem gAi (m:Mach PE)(k:Nat):fM m (k+1)=fQ m (fM m k) k:=by unfold fM;rw[List.range_succ,List.foldl_append];rfl
theorem gAj (w:World)(h:PMem 0 w base P f G mode m)(hl:m.line.length<=6):
  Calls Tryz.prog 101 #[cC P 0] w (nZ w base P mode m.enq):=by
 have H0:=aA h;have hPw:=h.row.lt;clear h;unfold cC;go_enter Tryz.func101,Tryz.ntmps101;go_wp2
 go_loopw [3] (fun i wr=> ∃k:Nat,k<=6/\i= .int .i64 k/\Hid ((∃f' G',PMem 0 wr base P f' G' mode {m with line:=fM m k})/\(fM m k).length<=6+k/\Below base w wr)) (fun i _=>6-(intOf i).toNat)
 case atStart=>exact⟨0,by omega,rfl,⟨f,G,H0.out⟩,by show m.line.length<=_;omega,aD _ _⟩
 case round=>
  obtain⟨k,hk,rfl,HZ⟩:=hrel
  by_cases hlt:k<6
  ·obtain⟨⟨f',G',hM⟩,hlen,hB⟩:=HZ.out;have hP:=hM.row.lt;have hkI:(k:Int)<6:=by omega
   have p1:=hM.row.cell (j:=4+k*6+1) (by omega);have HS:=aA (gAi m k)
   cases hw:(m.get k).wait with
   |nil=>
    have hs:=hM.waitSl hlt;have hw':(Mach.get {m with line:=fM m k} k).wait=[]:=hw;rw[hw']at hs;obtain⟨A,cc,hv,_⟩:=hs.shape;rw[hv]at p1;simp only[List.length_nil]at p1;have HE:=aA (show fM m (k+1)=fM m k by rw[HS.out];unfold fQ;rw[if_neg (fun hh=>hh.1 hw)]);have HF:=aA (aJ (show∃f' G',PMem 0 wr base P f' G' mode {m with line:=fM m k}from⟨f',G',hM⟩) (aJ (show(fM m k).length<=6+(k+1) by omega) hB));clear hs hv hw hw' hM hB hlen HZ HS;go_wp2;go_roundw
    case rel=>exact⟨k+1,by omega,by go_num,by rw[HE.out];exact HF.out⟩
    case measure=>simp[intOf];omega
   |cons r l=>
    have hs:=hM.waitSl hlt;have hw':(Mach.get {m with line:=fM m k} k).wait=r::l:=hw;rw[hw']at hs;obtain⟨A,cc,hv,_⟩:=hs.shape;rw[hv]at p1;simp only[fC]at p1;have hpos:(0:Int)<((l.length+1:Nat):Int):=(by omega);have q0:=hM.row.cell (j:=40) (by omega);have hsl:=hM.lineSl;have HCN:=aA (gAe (f' 40) (G' 8) (fM m k) k wr hsl (by omega));have HSH:=aA hsl.shape
    cases hq:(fM m k).contains k with
    |true=>
     rw[hq]at HCN;have HE:=aA (show fM m (k+1)=fM m k by rw[HS.out];unfold fQ;rw[if_neg (fun hh=>hh.2 (List.contains_iff_mem.1 hq))]);have HF:=aA (aJ (show∃f' G',PMem 0 wr base P f' G' mode {m with line:=fM m k}from⟨f',G',hM⟩) (aJ (show(fM m k).length<=6+(k+1) by omega) hB));clear hs hv hw hw' hM hB hlen HZ HS hq hsl;obtain⟨A',c',hv',_⟩:=HSH.out;generalize f' 40=v40 at*;subst hv';generalize l.length=n at*;go_wp2_with fail;refine HCN.out.mono ?_;rintro e w1 ⟨rfl,rfl⟩;go_wp2;go_roundw
     case rel=>exact⟨k+1,by omega,by go_num,by rw[HE.out];exact HF.out⟩
     case measure=>simp[intOf];omega
    |false=>
     rw[hq]at HCN;have HE:=aA (show fM m (k+1)=fM m k++[k] by rw[HS.out];unfold fQ;rw[if_pos ⟨by rw[hw];simp,fun hh=>by rw[List.contains_iff_mem.2 hh]at hq;cases hq⟩]);have n1:=(aD wr.heap.size wr).alloc (aI _) (.cells #[.int .i64 (k:Int)] 3);have X:=(RowTo.whole wr #[.int .i64 (k:Int)] 3).cell (j:=0) (by simp);have hM1:=hM.below n1;obtain⟨b,off,cap,w2,hrun,u0,z0,hP2,hM2,hB2⟩:=hM1.queued (by show(fM m k).length<=1000;omega) (ad:=wr.heap.size) k X;have HF:=aA (aJ (show∃f' G',PMem 0 _ base P f' G' mode {m with line:=fM m k++[k]}from⟨_,_,hM2⟩) (aJ (show(fM m k++[k]).length<=6+(k+1) by simp;omega) (hB.trans ((n1.mono (by have:=hB.size;have:=(hM.lo 0 P hM.p0).1;omega)).trans hB2))));have hrun':(Builtin.append_ #[79,79] 79 #[f' 40,.slice (some ⟨wr.heap.size,0,none⟩) 1 1]).run Tryz.prog (wr.alloc (.cells #[.int .i64 (k:Int)] 3))= .ok (.slice (some ⟨b,off,none⟩) ((fM m k).length+1) cap) w2:=hrun;simp only at HF;obtain⟨A',c',hv',_⟩:=HSH.out;have q1:=(n1.cell (p:=⟨P,40,none⟩) hP).trans q0;clear hs hv hw hw' hM hB hlen HZ HS hq hsl hM1 hM2 hB2 n1 X hrun;generalize f' 40=v40 at*;subst hv';generalize l.length=n at*;generalize(fM m k).length=nl at*;go_wp2_with fail;refine HCN.out.mono ?_;rintro e w1 ⟨rfl,rfl⟩;go_wp2_with (at_builtin;refine Lib.wpList_append_run _ rfl _ _ _ _ rfl _ _ rfl rfl _ _ hrun' ?_);go_roundw
     case rel=>exact⟨k+1,by omega,by go_num,by rw[HE.out];exact HF.out⟩
     case measure=>simp[intOf];omega
  ·obtain rfl:k=6:=by omega
   go_wp2;go_end0;obtain⟨⟨f',G',hM⟩,_,hB⟩:=HZ.out;exact⟨f',G',rfl,hM,hB⟩
end
section
variable {base P:Nat}{f:Nat->Value}{G:Nat->Option Nat}{mode:Int}{m:Mach PE}{N:Nat}
theorem Inv.kept (h:Inv mode m N){c:Nat}(hc:c<6)(hs:(m.get c).srv=none):(∀q∈(m.e.of c).1,bZ 9 q.1 q.2=0)/\ ∀q∈(m.e.of c).2,bZ 11 q.1 q.2=0:=by
 obtain⟨H,al⟩:=h.al;have okc:=kO al.okH (i:=c) (by rw[al.hlen];exact hc);rw[al.bare c hc hs]at okc;exact⟨(bW okc.set).2.2,(bW okc.prep).2.2⟩
theorem PMem.cutK {w:World}(h:PMem 0 w base P f G mode m){m':Mach PE}{k:Nat}(h1:1<=k)(h2:k<=15){b off cap n:Nat}(hf:f (cO k)= .slice (some ⟨b,off,none⟩) (n+1) cap){e:List Value}(hi:cG m k=e::cG m' k)(he:e.length=fR k)(hn:(cG m' k).length=n)
  (ho: ∀k',k'≠k->cG m' k'=cG m k') (hme:m'.e=m.e) (hb: ∀c,(m'.get c).bytes=(m.get c).bytes) (hv: ∀c,(m'.get c).srv=(m.get c).srv):
  PMem 0 (w.setCell ⟨P,cO k,none⟩ (fH b off (fR k) n cap)) base P (aL f (cO k) (fH b off (fR k) n cap)) G mode m':=by
 have hs:=h.sl k h1 h2 (by omega);rw[hf,hi]at hs;simp only[fC,hn,List.flatten_cons]at hs;have hc:=hs.cut;rw[List.drop_left' he]at hc;refine((h.but k).cellX h1 h2 _).fill ?_ ho hme hb hv;rw[dQ,hn];refine hc.ne (h.noP h1) (cM w P (cO k) _)
def xA4 (w:World)(base P:Nat)(mode:Int)(r:Bool×Mach PE)(e:Ending)(w':World):Prop:= ∃f' G',e= .returned (.bool r.1)/\PMem 0 w' base P f' G' mode r.2/\Below base w w'
theorem gAk (w:World)(h:PMem 0 w base P f G mode m)(hT:Tabs w base)(hI:Inv mode m N)(hbl:m.busy.length<=8):
  Calls Tryz.prog 102 #[cC P 0] w (xA4 w base P mode (m.assign aO)):=by
 have hP:=h.row.lt;have hbP:=(h.lo 0 P h.p0).1;have HIX:=aA (gAg (f 3) (G 1) m.busy w h.busySl (by omega));have b3:=h.row.cell (j:=3) (by omega);have q0:=h.row.cell (j:=40) (by omega);obtain⟨A3,c3,hf3,_⟩:=h.busySl.shape;obtain⟨A4,c4,hf4,_⟩:=h.lineSl.shape;have HH:=aA h;have HI:=aA hI;have HT:=aA hT;have HL:=aA hI.line;clear h hI hT;unfold cC
 by_cases hb:m.busy.idxOf false<m.busy.length
 case neg=>
  have HE:=aA (show m.assign aO=(false,m) by unfold Mach.assign;split;rfl;rw[if_neg hb]);rw[hf3]at b3;have hv3:f 3= .slice A3 m.busy.length c3:=hf3;rw[hf3]at HIX;clear hf3 hf4 q0;go_enter Tryz.func102,Tryz.ntmps102;go_wp2_with fail;refine HIX.out.mono ?_;rintro e w1 ⟨i,rfl,hi,rfl⟩
  obtain rfl:i= -1:=by
   rcases hi with hi|hi
   ·exact absurd hi.1 hb
   ·exact hi.2
  clear hi;go_wp2;go_ret;rw[HE.out];exact⟨f,G,rfl,HH.out,aD _ _⟩
 rw[hf3]at b3 HIX
 cases hl:m.line with
 |nil=>
  have HE:=aA (show m.assign aO=(false,m) by unfold Mach.assign;rw[hl]);rw[hf4,hl]at q0;simp only[List.length_nil]at q0;clear hf3 hf4;go_enter Tryz.func102,Tryz.ntmps102;go_wp2_with fail;refine HIX.out.mono ?_;rintro e w1 ⟨i,rfl,hi,rfl⟩
  obtain⟨k,rfl⟩: ∃k:Nat,i=k:=by
   rcases hi with hi|hi
   ·exact⟨_,hi.2⟩
   ·exact absurd hb hi.1
  have hk0:decide ((k:Int)<0)=false:=aY (by omega);clear hi;go_wp2;go_ret;rw[HE.out];exact⟨f,G,rfl,HH.out,aD _ _⟩
 |cons c l=>
  have hc6:=(HI.out.ok.line c (by rw[hl];exact gJ)).1;have hcn:=(HI.out.ok.line c (by rw[hl];exact gJ)).2.1;have hsl:=HH.out.lineSl;rw[hl]at hsl;obtain⟨b,off,cap,hG8,hv40,hcap,hcs⟩:=hsl.at (by simp);have l0:=hcs 0 (by simp);simp only[List.map_cons,aB,iY,Nat.add_zero]at l0;simp only[fC]at hv40;rw[hv40]at q0;have hbl0:=(HH.out.lo 8 b hG8);have hPb:P≠b:=fun e=>HH.out.noP (k:=8) (by omega) (by rw[hG8,e])
  have hcI:(c:Int)<6:=by omega
  have hn0:(((l.length+1:Nat):Int)==0)=false:=by simp;omega
  have HBI:=aA hb;have HHL:=aA hl;have HCN:=aA hcn;have HV40:=aA hv40;have HF3:=aA hf3;have hcapl:l.length+1<=cap:=by simpa using hcap
  clear hsl hcs hf4 hv40 hcap hl hf3 hcn hb;go_enter Tryz.func102,Tryz.ntmps102;go_wp2_with fail;refine HIX.out.mono ?_;rintro e w1 ⟨i,rfl,hi,rfl⟩
  obtain rfl:i=(m.busy.idxOf false:Nat):=by
   rcases hi with hi|hi
   ·exact hi.2
   ·exact absurd HBI.out hi.1
  have hk0:decide (((m.busy.idxOf false:Nat):Int)<0)=false:=aY (by omega);clear hi HIX;go_wp2_with fail
  go_quiet (fail)
  have hMd:PMem 0 (w1.drewN nq) base P f G mode m:=HH.out.below (aZ (aD _ _) nq);have hBd:Below base w1 (w1.drewN nq):=aZ (aD _ _) nq;have hTd:=HT.out.below hBd;obtain⟨W,HW⟩: ∃u,Hid (w1.drewN nq=u):=⟨_,aA rfl⟩;rw[HW.out]at hMd hBd hTd ⊢;clear HW b3 q0 l0 hbl0;have hb:=HBI.out;have hl:=HHL.out;have hcn:=HCN.out;have hP:=hMd.row.lt;have q0:=hMd.row.cell (j:=40) (by omega);rw[HV40.out]at q0;have hz40:=hMd.row.frozen 40
  -- the queue is cut
  have hM1:=hMd.cutK (m':={m with line:=l}) (k:=8) (by omega) (by omega) (b:=b) (off:=off) (cap:=cap) (n:=l.length) HV40.out (e:=[.int .i64 (c:Int)]) (by rw[oA,oA,hl];rfl) rfl (by rw[oA];simp) (fun k hk=>xK rfl rfl rfl rfl hk) rfl (fun _=>rfl) (fun _=>rfl);obtain⟨vq,hvq⟩: ∃v,fH b off 1 l.length cap=v:=⟨_,rfl⟩;have hM1':PMem 0 (W.setCell ⟨P,40,none⟩ vq) base P (aL f 40 vq) G mode {m with line:=l}:=by rw[<-hvq];exact hM1
  obtain⟨bb,ob,cp,g1,f3,hle,⟨y,hy⟩,hfz,hM2⟩:=hM1'.setBusy (j:=m.busy.idxOf false) hb true;have hPbb:P≠bb:=fun e=>hMd.noP (k:=1) (by omega) (by rw[g1,e])
  have hbb:=hMd.lo 1 bb g1;have f3':f 3= .slice (some ⟨bb,ob,none⟩) m.busy.length cp:=by rw[<-f3];exact(aP (by omega)).symm
  have hA3:A3=some ⟨bb,ob,none⟩/\c3=cp:=by rw[HF3.out]at f3';injection f3' with e1 _ e3;exact⟨e1,e3⟩
  obtain⟨rfl,rfl⟩:=hA3;have b3':=hM1'.row.cell (j:=3) (by omega);rw[f3]at b3';have s2:=hM2.row.cell (j:=4+c*6+2) (by omega);have s3:=hM2.row.cell (j:=4+c*6+3) (by omega);have z2:=hM2.row.frozen (4+c*6+2);have z3:=hM2.row.frozen (4+c*6+3);have hM3:=hM2.setSrv hc6 HI.out.ok.n6 (m.busy.idxOf false)
  have hgs:(Mach.get (Mach.set {m with line:=l,busy:=m.busy.set (m.busy.idxOf false) true} c {m.get c with srv:=some (m.busy.idxOf false)}) c).srv=some (m.busy.idxOf false):=by
   rw[cZ (by show c<m.cl.length;rw[HI.out.ok.n6];exact hc6),if_pos rfl]
  have hB3:Below base W ((((W.setCell ⟨P,40,none⟩ vq).setCell ⟨bb,ob+m.busy.idxOf false,none⟩ (.bool true)).setCell ⟨P,4+c*6+2,none⟩ (.bool true)).setCell ⟨P,4+c*6+3,none⟩ (.int .i64 (m.busy.idxOf false:Nat))):=
   ((((aD base W).setCell (p:=⟨P,40,none⟩) hbP _).setCell (p:=⟨bb,ob+m.busy.idxOf false,none⟩) hbb.1 _).setCell (p:=⟨P,4+c*6+2,none⟩) hbP _).setCell (p:=⟨P,4+c*6+3,none⟩) hbP _
  have HRS:=aA (gAc _ hM3 (hTd.below hB3) HI.out.w hc6 hgs (by show _<m.e.w.ss.length;rw[HI.out.plen];exact hb) (HI.out.kept hc6 hcn).1 (HI.out.kept hc6 hcn).2);have HB3:=aA hB3
  have HE := aA (show m.assign aO = (true, { Mach.set { m with line := l, busy := m.busy.set (m.busy.idxOf false) true } c { m.get c with srv := some (m.busy.idxOf false) } with e := ⟨jV m.e.w (m.busy.idxOf false) (m.e.of c), m.e.kept⟩ }) by
   unfold Mach.assign;rw[hl];simp only;rw[if_pos hb]
   rfl)
  obtain⟨s,HSS⟩: ∃s,Hid (m.busy.idxOf false=s):=⟨_,aA rfl⟩;have hsl':s<m.busy.length:=by rw[<-HSS.out];exact hb
  have hsI:(s:Int)<(m.busy.length:Int):=by omega
  have HBF:=aA (hBd.trans hB3);rw[HSS.out]at HRS HBF HE hfz hy s2 s3 z2 z3 hk0 ⊢;generalize m.busy.length=nb at*;clear hM1 hM1' hM2 hM3 hB3 hgs hG8 g1 f3 f3' hl hcn hle hb hMd hBd hTd HH HT HB3;generalize l.length=nl at*;unfold cC at HRS
  by_cases hcp:cap=1
  ·subst hcp;obtain rfl:nl=0:=by omega
   have hvq:Value.slice (some ⟨b,off,none⟩) 0 0=vq:=hvq;subst hvq;go_wp2_with fail;refine HRS.out.mono ?_;rintro e w5 ⟨f5,G5,rfl,hM5,hB5⟩;have HFF:=aA (aJ hM5 (HBF.out.trans hB5));clear hM5 hB5 HRS;go_wp2;go_ret;rw[HE.out];exact⟨f5,G5,rfl,HFF.out.1,HFF.out.2⟩
  ·have hvq:Value.slice (some ⟨b,off+1,none⟩) nl (cap-1)=vq:=by rw[<-hvq];unfold fH;rw[if_neg hcp]
   subst hvq;have hcp2:cap-1≠0:=by omega
   have hcp3: ¬cap<=1:=by omega
   go_wp2_with fail;refine HRS.out.mono ?_;rintro e w5 ⟨f5,G5,rfl,hM5,hB5⟩;have HFF:=aA (aJ hM5 (HBF.out.trans hB5));clear hM5 hB5 HRS;go_wp2;go_ret;rw[HE.out];exact⟨f5,G5,rfl,HFF.out.1,HFF.out.2⟩
end
end Go.Proofs.YtpbaobmegomfpabGreatDoor
namespace Go.Proofs.YtpbaobmegomfpabGreatDoor
open Go Go.RowKit
section
variable {P:Program}{ops:Array Oper}{Q:Exit->Go.Act->World->Prop}{md:Region.Mode}{S:World->Prop}{z:Nat}
theorem xA5 {A0:Go.Act}{w0:World}{i p di dp:Nat}{tp:TypeId}{zp:Array Value}{L:Bool->Bool->Array Bool}
  (op: ∃o,ops[p]? =some o/\o.guard=none/\o.dst=some dp/\ ∀(ev:Operand->Value) w,(execOp ev o).run P w= .ok (.value (pt w.heap.size)) (w.alloc (.cells zp tp))) (ne:di≠dp)
  (r00:Region.ready md ops (L false false)=[i,p]) (r10:Region.ready md ops (L true false)=[p]) (r01:Region.ready md ops (L false true)=[i])
  (s1:(L false false).setIfInBounds i true=L true false) (s2:(L false false).setIfInBounds p true=L false true) (s3:(L true false).setIfInBounds p true=L true true) (s4:(L false true).setIfInBounds i true=L true true)
  (n:Nat) (R:Value->World->World->Prop) (F:Value->Nat->World->Prop)
  (hc1:wpOp P ops Q i (fun a' w'=> ∃v,a'=A0.put (some di) v/\R v w0 w') A0 w0)
  (hc2:wpOp P ops Q i (fun a' w'=> ∃v,a'=(A0.put (some dp) (pt w0.heap.size)).put (some di) v/\R v (w0.alloc (.cells zp tp)) w') (A0.put (some dp) (pt w0.heap.size)) (w0.alloc (.cells zp tp)))
  (hS1: ∀v w',R v w0 w'->S w') (hS2:S (w0.alloc (.cells zp tp)))
  (hf1: ∀v w',R v w0 w'->F v w'.heap.size (w'.alloc (.cells zp tp))) (hf2: ∀v w',R v (w0.alloc (.cells zp tp)) w'->F v w0.heap.size w') (hSF: ∀v b w',F v b w'->S w')
  (hfin: ∀v b w',F v b w'->cQ P md ops Q S z n (L true true) ((A0.put (some di) v).put (some dp) (pt b)) w'):
  cQ P md ops Q S z (n+1+1) (L false false) A0 w0:=by
 obtain⟨o,p1,p2,p3,p4⟩:=op;refine⟨fun h0=>(by rw[r00]at h0;cases h0),fun j hj=>?_⟩;rw[r00]at hj;have hj:j=i\/j=p:=by simpa using hj
 rcases hj with rfl|rfl
 ·refine wpOp_mono (fun a' w' h=>?_) hc1;obtain⟨v,rfl,hR⟩:=h;refine⟨fun _=>hS1 v w' hR,?_⟩;rw[s1];refine⟨fun h0=>(by rw[r10]at h0;cases h0),fun k hk=>?_⟩;rw[r10]at hk;obtain rfl:k=p:=by simpa using hk
  refine lL p1 p2 (mZ (p4 _ w') ?_);rw[p3];exact⟨fun _=>hSF _ _ _ (hf1 v w' hR),by rw[s3];exact hfin _ _ _ (hf1 v w' hR)⟩
 ·refine lL p1 p2 (mZ (p4 _ w0) ?_);rw[p3];refine⟨fun _=>hS2,?_⟩;rw[s2];refine⟨fun h0=>(by rw[r01]at h0;cases h0),fun k hk=>?_⟩;rw[r01]at hk;obtain rfl:k=i:=by simpa using hk
  refine wpOp_mono (fun a' w' h=>?_) hc2;obtain⟨v,rfl,hR⟩:=h;refine⟨fun _=>hSF _ _ _ (hf2 v w' hR),?_⟩;rw[s4,pc (Ne.symm ne)];exact hfin _ _ _ (hf2 v w' hR)
end
end Go.Proofs.YtpbaobmegomfpabGreatDoor
namespace Go.Proofs.YtpbaobmegomfpabGreatDoor
open Go.RowKit
theorem gAl (c k ak st:Int)(key val text:ByteArray):Tryz.prog.built 70 [(0,.int .i64 c),(1,.agg #[.int .i64 k,.string key,.string val]),(2,.agg #[.int .i64 ak,.string text,.int .i64 st])]=some #[.int .i64 c,.int .i64 k,.string key,.string val,.int .i64 ak,.string text,.int .i64 st]:=by kernel_rfl
theorem xL {ev:Operand->Value}{o:Oper}{x y z:Operand}{c k ak st:Int}{key val text:ByteArray}(ho:o.op= .build 70 #[(0,x),(1,y),(2,z)])(hx:ev x= .int .i64 c)(hy:ev y= .agg #[.int .i64 k,.string key,.string val])(hz:ev z= .agg #[.int .i64 ak,.string text,.int .i64 st])(w:World):
  (execOp ev o).run Tryz.prog w= .ok (.value (.agg #[.int .i64 c,.int .i64 k,.string key,.string val,.int .i64 ak,.string text,.int .i64 st])) w:=by
 have h:=run_build (P:=Tryz.prog) w 70 #[(0,.int .i64 c),(1,.agg #[.int .i64 k,.string key,.string val]),(2,.agg #[.int .i64 ak,.string text,.int .i64 st])] _ (gAl c k ak st key val text);unfold execOp;simp only[ho,Sem.run_bind,Sem.run_pure,List.map_toArray,List.map_cons,List.map_nil,hx,hy,hz,h,Result.andThen_ok]
theorem xM {ev:Operand->Value}{o:Oper}{x:Operand}{c k ak st:Int}{key val text:ByteArray}(ho:o.op= .buildSlice 26 1 #[(0,x)])(hx:ev x= .agg #[.int .i64 c,.int .i64 k,.string key,.string val,.int .i64 ak,.string text,.int .i64 st])(w:World):
  (execOp ev o).run Tryz.prog w= .ok (.value (.slice (some ⟨w.heap.size,0,none⟩) 1 1)) (w.alloc (.cells #[.int .i64 c,.int .i64 k,.string key,.string val,.int .i64 ak,.string text,.int .i64 st] 70)):=by
 unfold execOp;simp only[ho,Sem.run_bind,Sem.run_pure,List.map_toArray,List.map_cons,List.map_nil,hx];go_simp
end Go.Proofs.YtpbaobmegomfpabGreatDoor
namespace Go.Proofs.YtpbaobmegomfpabGreatDoor
open Go.RowKit
theorem xA6:(Tryz.prog.info? 70).map (fun i=>(i.zero,i.size,i.bytes))=some (some (.agg #[.int .i64 0,.int .i64 0,.string ⟨#[]⟩,.string ⟨#[]⟩,.int .i64 0,.string ⟨#[]⟩,.int .i64 0]),7,80):=by kernel_rfl
section
variable {base P:Nat}{f:Nat->Value}{G:Nat->Option Nat}{mode:Int}{m:Mach PE}{N:Nat}
theorem PMem.fill' {w:World}{X:Nat}{m':Mach PE}(h:PMem X w base P f G mode m)(hs:Sl w (iG X) (fR X) (f (cO X)) (G X) (cG m' X).length (cG m' X).flatten)(ho: ∀k,1<=k->k<=15->k≠X->cG m' k=cG m k)(he:m'.e=m.e)(hb: ∀c,(m'.get c).bytes=(m.get c).bytes)(hv: ∀c,(m'.get c).srv=(m.get c).srv):PMem 0 w base P f G mode m':=by
 refine⟨h.row,h.p0,h.lo,h.inj,fun k h1 h2 _=>?_,h.md,by rw[he];exact h.wld,fun c hc=>by rw[hb];exact h.bytes c hc,fun c hc=>by rw[hv];exact h.has c hc,fun c hc=>by rw[hv];exact h.srv c hc,fun c hc=>by rw[he];exact h.set c hc,fun c hc=>by rw[he];exact h.prep c hc⟩
 by_cases e:k=X
 ·subst e;exact hs
 ·rw[ho k h1 h2 e];exact h.sl k h1 h2 e
theorem PMem.grow' {k n':Nat}{w w1:World}{m':Mach PE}{v:Value}{xs:List Value}{b:Nat}(h:PMem 0 w base P f G mode m)(h1:1<=k)(h2:k<=15)(hbase:base<=w.heap.size)(hg:w.grownBy w1 (G k))(hs:Sl w1 (iG k) (fR k) v (some b) n' xs)(hb:G k=some b\/(w.heap.size<=b/\b<w1.heap.size))
  (hn:n'=(cG m' k).length) (hx:xs=(cG m' k).flatten) (ho: ∀k',1<=k'->k'<=15->k'≠k->cG m' k'=cG m k') (he:m'.e=m.e) (hby: ∀c,(m'.get c).bytes=(m.get c).bytes) (hv: ∀c,(m'.get c).srv=(m.get c).srv):
  PMem 0 (w1.setCell ⟨P,cO k,none⟩ v) base P (aL f (cO k) v) (aL G k (some b)) mode m':=by
 have hkb: ∀b,b<w.heap.size->G k≠some b->w1.heap[b]? =w.heap[b]? :=fun b hlt hne=>hg.block b hlt (fun e=>hne e.symm)
 have h3:PMem k w1 base P f (aL G k (some b)) mode m:=by
  rcases hb with hb|⟨hb,hb'⟩
  ·have:aL G k (some b)=G:=by
    funext i;unfold aL;split
    ·rename_i e;rw[e,hb]
    ·rfl
   rw[this];exact(h.but k).keep (by omega) hg.size hkb
  ·exact(h.but k).move (by omega) hg.size hkb hb hb' hbase
 have h4:=h3.cellX h1 h2 v;refine h4.fill' ?_ ho he hby hv;have e1:aL f (cO k) v (cO k)=v:=dQ;have e2:aL G k (some b) k=some b:=by unfold aL;rw[if_pos rfl]
 rw[e1,e2,<-hn,<-hx];refine hs.ne ?_ (cM w1 P (cO k) v);intro e;injection e with e;have:=h3.inj k 0 P (by rw[e2,e]) h3.p0;omega
theorem xA7 {c:Nat}(hc:c<m.cl.length){x:Cl}{k:Nat}(h1:1<=k)(hk:k≠2+c):cG (m.set c x) k=cG m k:=by
 unfold cG
 by_cases e1:k=1
 ·rw[if_pos e1,if_pos e1];rfl
 ·rw[if_neg e1,if_neg e1]
  by_cases e2:k<8
  ·rw[if_pos e2,if_pos e2,cZ hc,if_neg (by omega)]
  ·rw[if_neg e2,if_neg e2];rfl
theorem PMem.cutW {w:World}(h:PMem 0 w base P f G mode m)(hcl:m.cl.length=6){c:Nat}(hc:c<6){r:Req}{l:List Req}(hw:(m.get c).wait=r::l){b off cap:Nat}(hf:f (4+c*6+1)= .slice (some ⟨b,off,none⟩) (l.length+1) cap):
  PMem 0 (w.setCell ⟨P,4+c*6+1,none⟩ (fH b off 3 l.length cap)) base P (aL f (4+c*6+1) (fH b off 3 l.length cap)) G mode (m.set c {m.get c with wait:=l}):=by
 have hc':c<m.cl.length:=by omega
 have e1:cO (2+c)=4+c*6+1:=by unfold cO;rw[if_neg (by omega),if_pos (by omega)];omega
 have e2:iG (2+c)=41:=by unfold iG;rw[if_neg (by omega),if_pos (by omega)]
 have e3:fR (2+c)=3:=by unfold fR;rw[if_neg (by omega),if_pos (by omega)]
 have hs:=h.waitSl hc;rw[hf,hw]at hs;simp only[fC,List.map_cons,List.flatten_cons]at hs;have hcut:=hs.cut;rw[List.drop_left' (show(jY r).length=3 from rfl)]at hcut;have hgc:((m.set c {m.get c with wait:=l}).get c).wait=l:=by rw[cZ hc',if_pos rfl]
 have hx:=(h.but (2+c)).cellX (by omega) (by omega) (fH b off 3 l.length cap);rw[e1]at hx;refine hx.fill' ?_ (fun k h1 _ hk=>xA7 hc' h1 hk) rfl (fun d=>?_) (fun d=>?_)
 ·rw[e1,e2,e3,dQ,tR _ hc,hgc,dR];exact hcut.ne (h.noP (by omega)) (cM w P _ _)
 ·rw[cZ hc'];split
  ·rename_i e;rw[e]
  ·rfl
 ·rw[cZ hc'];split
  ·rename_i e;rw[e]
  ·rfl
theorem oC (m:Mach PE):cG m 15=m.deeds.map gW:=by unfold cG;rw[if_neg (by omega),if_neg (by omega),if_neg (by omega),if_neg (by omega)]
theorem PMem.deeded {w:World}(h:PMem 0 w base P f G mode m)(hl:m.deeds.length<=300000){ad:Nat}(d:iD)(hx: ∀j u,(gW d)[j]? =some u->w.cell? ⟨ad,j,none⟩=some u):
  ∃b off cap w',(Builtin.append_ #[26,26] 26 #[f 47,.slice (some ⟨ad,0,none⟩) 1 1]).run Tryz.prog w= .ok (.slice (some ⟨b,off,none⟩) (m.deeds.length+1) cap) w'/\w'.cell? ⟨P,47,none⟩=some (f 47)/\w'.frozen? ⟨P,47,none⟩=false/\P<w'.heap.size/\
   PMem 0 (w'.setCell ⟨P,47,none⟩ (.slice (some ⟨b,off,none⟩) (m.deeds.length+1) cap)) base P (aL f 47 (.slice (some ⟨b,off,none⟩) (m.deeds.length+1) cap)) (aL G 15 (some b)) mode {m with deeds:=m.deeds++[d]}/\Below base w (w'.setCell ⟨P,47,none⟩ (.slice (some ⟨b,off,none⟩) (m.deeds.length+1) cap))/\
   KeepF G w w'/\(∀x,x<w.heap.size->cX G x->cX (aL G 15 (some b)) x):=by
 obtain⟨i0,hi,hz0,hz1,hz2⟩:=info_parts xA6;have hbP:=(h.lo 0 P h.p0).1;have hbase:base<=w.heap.size:=bL hbP (dM h.row.lt);have hsl:=h.sl 15 (by omega) (by omega) (by omega);have hsl':Sl w 70 7 (f 47) (G 15) m.deeds.length (m.deeds.map gW).flatten:=by rw[oC,dR]at hsl;exact hsl
 obtain ⟨b, off, cap, w', hrun, hs, hg, hb⟩ := hsl'.append (P := Tryz.prog) 26 26 i0 _ 80 Tryz.underlying26 hi hz0 hz1 hz2 rfl (by omega) ⟨ad, 0, none⟩ 1 (gW d) rfl (fun j u hu => by rw [Addr.add_lit, cW]; exact hx j u hu) (fun u hu => by
  simp only[gW,List.mem_cons,List.not_mem_nil,or_false]at hu
  rcases hu with rfl | rfl | rfl | rfl | rfl | rfl | rfl <;> rfl) (by unfold maxLen; omega) (by omega)
 have hne:some P≠G 15:=fun e=>h.noP (k:=15) (by omega) e.symm
 have hP':=hg.block P h.row.lt hne
 have hgr := h.grow' (k := 15) (m' := { m with deeds := m.deeds ++ [d] }) (n' := m.deeds.length + 1) (v := .slice (some ⟨b, off, none⟩) (m.deeds.length + 1) cap) (b := b) (by omega) (by omega) hbase hg hs hb (by rw [oC]; simp) (by rw [oC, List.map_append, List.flatten_append]; simp) (fun k _ hk15 hk => by
  unfold cG
  by_cases h1:k=1
  ·rw[if_pos h1,if_pos h1]
  ·rw[if_neg h1,if_neg h1]
   by_cases h2:k<8
   ·rw[if_pos h2,if_pos h2];rfl
   ·rw[if_neg h2,if_neg h2]
    by_cases h3:k=8
    ·rw[if_pos h3,if_pos h3]
    ·rw [if_neg h3, if_neg h3, if_pos (by omega), if_pos (by omega)]) rfl (fun _ => rfl) (fun _ => rfl)
 refine⟨b,off,cap,w',hrun,(aV (a:=⟨P,47,none⟩) hP').trans (h.row.cell (j:=47) (by omega)),(iR (a:=⟨P,47,none⟩) hP').trans (h.row.frozen _),bD h.row.lt hg.size,hgr,((aD base w).grown hg hbase (fun x hx=>(h.lo _ _ hx).1)).setCell hbP _,(KeepF.refl G w).grown hg,fun x hx hf=>pA hf (fun e=>?_)⟩;rcases hb with hb|hb
 ·exact hf 15 (by rw[hb,e])
 ·omega
theorem MOk.did (h:MOk mode m){c:Nat}(hc:c<6)(hr:dD mode (m.get c)=true){r:Req}{l:List Req}(hw:(m.get c).wait=r::l){m':Mach PE}(h1:m'.cl=m.cl.set c {m.get c with wait:=l})(h2:m'.busy=m.busy)(h3:m'.line=m.line)(h4:m'.sent.length=6):MOk mode m':=
 (h.turn hc (fun q hq=>h.fine c q (by rw[hw];exact iZ _ hq)) rfl (fun hl=>absurd hl (wU h hr)):MOk mode (m.set c {m.get c with wait:=l})).same h1 h2 h3 h4
theorem gAm (w:World)(h:PMem 0 w base P f G mode m)(hT:Tabs w base)(hI:Inv mode m N)(hN:N<=300000){c:Nat}(hc:c<6)(hr:dD mode (m.get c)=true):
  Calls Tryz.prog 100 #[cC P 0,.int .i64 (c:Int)] w (nZ w base P mode (m.proc aO mode c)):=by
 have hP:=h.row.lt;have hbP:=(h.lo 0 P h.p0).1;obtain⟨r,l,hw,hsr⟩:=qP hr;obtain⟨b,off,cap,hG,hv,hcap,c0,c1,c2⟩:=h.first hc hw;have hbl:=(h.lo _ _ hG).2;have p1:=h.row.cell (j:=4+c*6+1) (by omega);rw[hv]at p1;have hcI:(c:Int)<6:=by omega
 have hPX:P≠w.heap.size:=by omega
 have n0':=(aD w.heap.size w).alloc (aI _) (.cells #[.int .i64 r.k,.string r.key,.string r.val] 41);have p1':=(n0'.cell (p:=⟨P,4+c*6+1,none⟩) hP).trans p1;have z1':=(h.below n0').row.frozen (4+c*6+1);obtain⟨x0,x1,x2⟩:=bA (RowTo.whole w #[.int .i64 r.k,.string r.key,.string r.val] 41);obtain⟨vq,hvq⟩: ∃v,fH b off 3 l.length cap=v:=⟨_,rfl⟩;have hM0:=h.cutW hI.ok.n6 hc hw hv;rw[hvq]at hM0;have n0:=(aD (w.setCell ⟨P,4+c*6+1,none⟩ vq).heap.size (w.setCell ⟨P,4+c*6+1,none⟩ vq)).alloc (aI _) (.cells #[.int .i64 r.k,.string r.key,.string r.val] 41);have hM1:=hM0.below n0;have hX1:=RowTo.whole (w.setCell ⟨P,4+c*6+1,none⟩ vq) #[.int .i64 r.k,.string r.key,.string r.val] 41;rw[cT]at hX1;have hB1:Below base w ((w.setCell ⟨P,4+c*6+1,none⟩ vq).alloc (.cells #[.int .i64 r.k,.string r.key,.string r.val] 41)):=((aD base w).setCell (p:=⟨P,4+c*6+1,none⟩) hbP vq).trans (n0.mono (by rw[cT];omega));have HIN:=aA hI;have HRD:=aA hr;have HW:=aA hw;have HSR:=aA hsr;have H1:=aA (aJ hM1 (aJ hB1 (aJ hX1 (hT.below hB1))));have HFX:=aA (show cX G w.heap.size from fun i hi=>by have:=(h.lo i _ hi).2;omega);have HRF:=aA (fun(wc:World) (h1:wc.cell? ⟨P,0,none⟩=some (.int .i64 mode)) (h2:P<wc.heap.size)=>qAs P mode r.k r.key r.val wc h1 h2);obtain⟨rf,HRf⟩: ∃x,Hid (fG mode r=x):=⟨_,aA rfl⟩;have hrf:fG mode ⟨r.k,r.key,r.val⟩=rf:=HRf.out;rw[hrf]at HRF;have hcapl:l.length+1<=cap:=hcap;have hpos:(0:Int)<((l.length+1:Nat):Int):=by omega
 unfold cC at HRF ⊢;clear h hT hI hr hw hsr hG hv hM0 hM1 hB1 hX1 n0 n0' hrf hcap;obtain⟨nl,HNL⟩: ∃n,Hid (l.length=n):=⟨_,aA rfl⟩;rw[HNL.out]at p1 p1' hcapl hpos hvq
 by_cases hcp:cap=1
 ·subst hcp;obtain rfl:nl=0:=by omega
  have HVQ:=aA (show Value.slice (some ⟨b,off,none⟩) 0 0=vq from hvq);clear hvq;go_enter Tryz.func100,Tryz.ntmps100;go_wp2_with fail;simp only[HVQ.out];have hm0:=H1.out.1.row.cell (j:=0) (by omega);rw[H1.out.1.md]at hm0;refine(HRF.out _ hm0 H1.out.1.row.lt).mono ?_;rintro e w3 ⟨rfl,hb3⟩;have H3:=aA (aJ (H1.out.1.below hb3) (aJ (aR H1.out.2.1 hb3 (bL hbP (dM H1.out.1.row.lt))) (aJ (H1.out.2.2.1.below hb3 (by have:=H1.out.2.2.1.lt;exact this)) (H1.out.2.2.2.below (hb3.mono (show base<=((w.setCell ⟨P,4+c*6+1,none⟩ vq).alloc (.cells #[.int .i64 r.k,.string r.key,.string r.val] 41)).heap.size from bL hbP (dM H1.out.1.row.lt)))))));have hP3:=H3.out.1.row.lt;have hXl3:=H3.out.2.2.1.lt;clear hb3 hm0 H1 HRF x0 x1 x2 c0 c1 c2 p1 p1' z1'
  cases hrb:eJ mode r with
  |true=>
   as_aux_lemma=>
    have hne : rf.toList.isEmpty = false := mM (by
     have hh:rf.size≠0:=fun h0=>by rw[<-HRf.out]at h0;rw[qW.1 h0]at hrb;cases hrb
     omega)
    have HA:=aA (show fZ ⟨4,rf⟩ by rw[<-HRf.out];exact qV hrb)
    have HE := aA (show m.proc aO mode c = (m.set c { m.get c with wait := l }).tell c ⟨4, rf⟩ (m.e.state (m.get c).srv) by
     unfold Mach.proc;simp only[HW.out];rw[if_pos hrb,HRf.out]
     rfl)
    have hok1:MOk mode (m.set c {m.get c with wait:=l}):=HIN.out.ok.did hc HRD.out HW.out rfl rfl rfl HIN.out.ok.s6;have HST:=aA (xD w3 H3.out.1 hok1 HIN.out.plen hc);have hgs:(m.set c {m.get c with wait:=l}).e.state ((m.set c {m.get c with wait:=l}).get c).srv=m.e.state (m.get c).srv:=(by rw[cZ (by rw[HIN.out.ok.n6];exact hc),if_pos rfl];rfl);rw[hgs]at HST;have HSB:=aA (HIN.out.state hc);generalize m.e.state (m.get c).srv=st at*;unfold cC at HST;clear hrb hgs hok1;go_wp2_with fail;refine HST.out.mono ?_;rintro e w4 ⟨rfl,k4,rfl⟩;go_wp2_with fail;have hd4:Below w3.heap.size w3 (w3.drewN k4):=aZ (aD _ _) k4;refine(tO (w3.drewN k4) (H3.out.1.below hd4) (H3.out.2.2.2.below (hd4.mono (bL hbP (dM hP3)))) HIN.out.ok.s6 c hc ⟨4,rf⟩ st HA.out HSB.out (HIN.out.sent hN c)).mono ?_;rintro e w5 ⟨f5,G5,rfl,hM5,hB5,_⟩;have HFF:=aA (aJ hM5 ((H3.out.2.1.trans (hd4.mono (bL hbP (dM hP3)))).trans hB5));clear hM5 hB5 hd4;go_wp2;go_end0;rw[HE.out];exact⟨f5,G5,rfl,HFF.out.1,HFF.out.2⟩
  |false=>
   as_aux_lemma=>
    have hne:rf.toList.isEmpty=true:=kV (by rw[<-HRf.out];exact qW.2 hrb)
    obtain⟨s,hs⟩: ∃s,(m.get c).srv=some s:=by
     have:=HSR.out;rw[hrb,Bool.or_false]at this;exact Option.isSome_iff_exists.1 this
    have hlt:=HIN.out.srvlt hs;have hrk:=HIN.out.req HW.out hrb;obtain⟨A,HAe⟩: ∃A,Hid ((fL m.e.w s r).2=A):=⟨_,aA rfl⟩;obtain⟨V,HVe⟩: ∃V,Hid ((fL m.e.w s r).1=V):=⟨_,aA rfl⟩;obtain⟨st,HSe⟩: ∃st,Hid ((V.at s).st=st):=⟨_,aA rfl⟩;have hdo:=mW HIN.out.w hlt hrk;rw[HVe.out]at hdo;have HA:=aA (show fZ A by rw[<-HAe.out];exact sX HIN.out.w hlt _ _ _);have HSB:=aA (show 0<=st/\st<=2 by have:=kO hdo.1 (i:=s) (by rw[hdo.2];exact hlt);rw[<-HSe.out];exact⟨this.lo,this.hi⟩);have HPL:=aA (show V.ss.length=m.busy.length by rw[hdo.2];exact HIN.out.plen);obtain⟨M4,HM4⟩: ∃x,Hid (Mach.tell (E:=PE) {(m.set c {m.get c with wait:=l})with e:=⟨V,m.e.kept⟩,deeds:=m.deeds++[⟨c,r,A,st⟩]} c A st=x):=⟨_,aA rfl⟩
    have HK4 := aA (show MOk mode M4 ∧ M4.e.w.ss.length = M4.busy.length ∧ M4.e.kept.length = 6 ∧ (M4.get c).srv = some s by
     rw[<-HM4.out]
     exact ⟨HIN.out.ok.did hc HRD.out HW.out rfl rfl rfl (by simp [Mach.tell, Mach.set, HIN.out.ok.s6]), HPL.out, HIN.out.klen, by show ((m.set c { m.get c with wait := l }).get c).srv = some s; rw [cZ (by rw [HIN.out.ok.n6]; exact hc), if_pos rfl]; exact hs⟩)
    have HE := aA (show m.proc aO mode c = if mode ≠ 1 ∧ st = 0 then M4.release aO c s else M4 by
     unfold Mach.proc;simp only[HW.out];rw[if_neg (by rw[hrb];simp),show(m.get c).srv.getD 0=s by rw[hs];rfl]
     have he:aO.exec m.e c s r=(⟨V,m.e.kept⟩,A,st):=by
      show((⟨(fL m.e.w s r).1,m.e.kept⟩:PE),(fL m.e.w s r).2,((fL m.e.w s r).1.at s).st)=_;rw[HVe.out,HAe.out,HSe.out]
     rw[he];show(if mode≠1/\st=0 then Mach.release aO (Mach.tell (E:=PE) {(m.set c {m.get c with wait:=l})with e:=⟨V,m.e.kept⟩,deeds:=m.deeds++[⟨c,r,A,st⟩]} c A st) c s else Mach.tell (E:=PE) {(m.set c {m.get c with wait:=l})with e:=⟨V,m.e.kept⟩,deeds:=m.deeds++[⟨c,r,A,st⟩]} c A st)=_
     rw [HM4.out])
    have HDO:=aA (fun(wc:World) (h1:PMem 0 wc base P (aL f (4+c*6+1) vq) G mode (m.set c {m.get c with wait:=l})) (h2:Tabs wc base)=>pE wc h1 h2 HIN.out.w s hlt r hrk);rw[show(m.set c {m.get c with wait:=l}).e.w=m.e.w from rfl,HVe.out,HAe.out,HSe.out]at HDO;have hgs:((m.set c {m.get c with wait:=l}).get c).srv=some s:=(by rw[cZ (by rw[HIN.out.ok.n6];exact hc),if_pos rfl];exact hs);have HGS:=aA hgs;have a3:=H3.out.1.row.cell (j:=4+c*6+3) (by omega);obtain⟨q,hq,hqs⟩:=H3.out.1.srv c hc;obtain rfl:=hqs s hgs;rw[hq]at a3;obtain⟨x0,x1,x2⟩:=bA H3.out.2.2.1;clear hrb hlt hrk hdo hgs hq hqs HAe HVe HSe;unfold cC at HDO;go_wp2_with fail;refine eF 8 (fun wx=>wx.cell? ⟨P,4+c*6+3,none⟩=some (.int .i64 s)/\wx.cell? ⟨w.heap.size,0,none⟩=some (.int .i64 r.k)/\wx.cell? ⟨w.heap.size,1,none⟩=some (.string r.key)/\wx.cell? ⟨w.heap.size,2,none⟩=some (.string r.val)) (by kernel_rfl) (show w3.drew.cell? ⟨P,4+c*6+3,none⟩=some (.int .i64 s)/\w3.drew.cell? ⟨w.heap.size,0,none⟩=some (.int .i64 r.k)/\w3.drew.cell? ⟨w.heap.size,1,none⟩=some (.string r.key)/\w3.drew.cell? ⟨w.heap.size,2,none⟩=some (.string r.val)from⟨a3,x0,x1,x2⟩) (fun hS=>?_);refine dF [(0,[]),(1,[]),(2,[]),(3,[]),(4,[]),(5,[])] ?_
    iterate 6
     refine dH (v:=?_) hS ?_ ?_;rotate_left
     ·(intro w hSw;(try dsimp only at hSw);(try simp only[aE,aB,aC]);go_simp;try with_reducible rfl)
     (try simp only[aE,aB,aC,aQ,aH,aG,aF])
    refine dG ?_;refine xA5 (i:=6) (p:=7) (di:=46) (dp:=7) (tp:=46) (zp:=#[.int .i64 0,.string ⟨#[]⟩,.int .i64 0]) (L:=fun x y=>#[true,true,true,true,true,true,x,y,false]) ⟨_,rfl,rfl,rfl,fun ev w=>(by go_simp;rfl)⟩ (by decide) (by kernel_rfl) (by kernel_rfl) (by kernel_rfl) rfl rfl rfl rfl 1 (R:=fun v wc w'=> ∃f',v= .agg #[.int .i64 A.kind,.string A.text,.int .i64 st]/\PMem 0 w' base P f' G mode {(m.set c {m.get c with wait:=l})with e:=⟨V,m.e.kept⟩}/\Below base wc w'/\Only P wc w') (F:=fun v b1 w'=>(∃f',v= .agg #[.int .i64 A.kind,.string A.text,.int .i64 st]/\PMem 0 w' base P f' G mode {(m.set c {m.get c with wait:=l})with e:=⟨V,m.e.kept⟩})/\Below base w3 w'/\Only P w3 w'/\RowTo w' b1 46 3 [.int .i64 0,.string ⟨#[]⟩,.int .i64 0]/\w3.heap.size<=b1) ?pc1 ?pc2 ?ps1 ?ps2 ?pf1 ?pf2 ?psf ?pfin
    case pc1=>
     refine lL rfl rfl (pD (g:=75) (args:=#[.pointer (some ⟨P,0,none⟩),.int .i64 s,.agg #[.int .i64 r.k,.string r.key,.string r.val]]) ?_ ?_)
     ·(try simp only[aE,aB,aC,aQ,aH,aG,aF]);go_simp;try rfl
     ·refine(HDO.out w3.drew (H3.out.1.below (aD _ _).drew) (H3.out.2.2.2.below (aD _ _).drew)).mono ?_;rintro e w6 ⟨f6,rfl,hM6,hB6,hO6⟩;exact⟨_,rfl,_,rfl,f6,rfl,hM6,hB6,hO6⟩
    case pc2=>
     refine lL rfl rfl (pD (g:=75) (args:=#[.pointer (some ⟨P,0,none⟩),.int .i64 s,.agg #[.int .i64 r.k,.string r.key,.string r.val]]) ?_ ?_)
     ·(try simp only[pt,aE,aB,aC,aQ,aH,aG,aF]);go_simp;try rfl
     ·have na:Below w3.heap.size w3 (w3.drew.alloc (.cells #[.int .i64 0,.string ⟨#[]⟩,.int .i64 0] 46)):=(aD _ _).drew.alloc (aI _) _;refine(HDO.out _ (H3.out.1.below na) (H3.out.2.2.2.below (na.mono (bL hbP (dM hP3))))).mono ?_;rintro e w6 ⟨f6,rfl,hM6,hB6,hO6⟩;exact⟨_,rfl,_,rfl,f6,rfl,hM6,hB6,hO6⟩
    case ps1=>
     rintro v w' ⟨f',_,hM',_,hO'⟩;exact⟨(by have e1:=hM'.row.cell (j:=4+c*6+3) (by omega);obtain⟨q',hq',hqs'⟩:=hM'.srv c hc;obtain rfl:=hqs' s HGS.out;rw[hq']at e1;exact e1),(aV (a:=⟨w.heap.size,0,none⟩) (hO'.2 _ hXl3 (Ne.symm hPX))).trans x0,(aV (a:=⟨w.heap.size,1,none⟩) (hO'.2 _ hXl3 (Ne.symm hPX))).trans x1,(aV (a:=⟨w.heap.size,2,none⟩) (hO'.2 _ hXl3 (Ne.symm hPX))).trans x2⟩
    case ps2=>
     have na:Below w3.heap.size w3 (w3.drew.alloc (.cells #[.int .i64 0,.string ⟨#[]⟩,.int .i64 0] 46)):=(aD _ _).drew.alloc (aI _) _;exact⟨(na.cell (p:=⟨P,4+c*6+3,none⟩) hP3).trans a3,(na.cell (p:=⟨w.heap.size,0,none⟩) hXl3).trans x0,(na.cell (p:=⟨w.heap.size,1,none⟩) hXl3).trans x1,(na.cell (p:=⟨w.heap.size,2,none⟩) hXl3).trans x2⟩
    case pf1=>
     rintro v w' ⟨f',hv,hM',hB',hO'⟩;have na:=(aD w'.heap.size w').alloc (aI _) (.cells #[.int .i64 0,.string ⟨#[]⟩,.int .i64 0] 46);exact⟨⟨f',hv,hM'.below na⟩,((aD base w3).drew.trans hB').trans (na.mono (bL hbP (dM hM'.row.lt))),((Only.below (P:=P) (aD w3.heap.size w3).drew).trans hO').trans (Only.below na),RowTo.whole w' _ _,hO'.1⟩
    case pf2=>
     rintro v w' ⟨f',hv,hM',hB',hO'⟩;have na:Below w3.heap.size w3 (w3.drew.alloc (.cells #[.int .i64 0,.string ⟨#[]⟩,.int .i64 0] 46)):=(aD _ _).drew.alloc (aI _) _;exact⟨⟨f',hv,hM'⟩,(na.mono (bL hbP (dM hP3))).trans hB',(Only.below (P:=P) na).trans hO',(RowTo.whole w3.drew _ _).same (hO'.2 _ (show w3.heap.size<(w3.drew.alloc _).heap.size by rw[World.size_alloc];exact Nat.lt_succ_self _) (by show w3.heap.size≠P;omega)),aI _⟩
    case psf=>
     rintro v b1 w' ⟨⟨f',_,hM'⟩,_,hO',_⟩;exact⟨(by have e1:=hM'.row.cell (j:=4+c*6+3) (by omega);obtain⟨q',hq',hqs'⟩:=hM'.srv c hc;obtain rfl:=hqs' s HGS.out;rw[hq']at e1;exact e1),(aV (a:=⟨w.heap.size,0,none⟩) (hO'.2 _ hXl3 (Ne.symm hPX))).trans x0,(aV (a:=⟨w.heap.size,1,none⟩) (hO'.2 _ hXl3 (Ne.symm hPX))).trans x1,(aV (a:=⟨w.heap.size,2,none⟩) (hO'.2 _ hXl3 (Ne.symm hPX))).trans x2⟩
    case pfin=>
     rintro v b1 w6 ⟨⟨f6,rfl,hM6⟩,hB6,hO6,hR6,hb6⟩;obtain⟨y0,y1,y2⟩:=bA hR6;have z0:=hR6.frozen 0;have z1:=hR6.frozen 1;have z2:=hR6.frozen 2;have hb1P:b1≠P:=(by omega);have hGb: ∀i,G i≠some b1:=fun i hi=>(by have:=(H3.out.1.lo i b1 hi).2;omega);have hM7:=hM6.ans3 hR6 hGb (.int .i64 A.kind) (.string A.text) (.int .i64 st);have hR7:=hR6.set3 (.int .i64 A.kind) (.string A.text) (.int .i64 st);have hB7:=mE (H3.out.2.1.trans hB6) (show base<=b1 by omega) (.int .i64 A.kind) (.string A.text) (.int .i64 st);have hbX:b1≠w.heap.size:=(by omega);have hX7:=(((H3.out.2.2.1.same (hO6.2 _ hXl3 (Ne.symm hPX))).other (p:=⟨b1,0,none⟩) hbX (.int .i64 A.kind)).other (p:=⟨b1,1,none⟩) hbX (.string A.text)).other (p:=⟨b1,2,none⟩) hbX (.int .i64 st);have hT7:=(H3.out.2.2.2.below hB6).below (mE (aD base w6) (show base<=b1 by omega) (.int .i64 A.kind) (.string A.text) (.int .i64 st));simp only[pt,aQ,aH,aG,aF];refine bY (fun K hK=>?_)
     (try simp only[aE,aB,aC])
     go_simp;refine hK.out _ _ ?_;clear hK K
     (try simp only[aE,aB,aC,aQ,aH,aG,aF])
     have HFB:=aA (show cX G b1 from hGb);have hb1l:=hR7.lt;have hXl7:=hX7.lt;obtain⟨W7,HW7⟩: ∃u,Hid ((((w6.setCell ⟨b1,0,none⟩ (.int .i64 A.kind)).setCell ⟨b1,1,none⟩ (.string A.text)).setCell ⟨b1,2,none⟩ (.int .i64 st))=u):=⟨_,aA rfl⟩;rw[HW7.out]at hM7 hR7 hB7 hX7 hT7 hb1l hXl7 ⊢;clear HW7 hM6 hB6 hO6 hR6 y0 y1 y2 z0 z1 z2 H3 HDO hP3 hXl3 a3 x0 x1 x2 hGb;have d7:=hM7.row.cell (j:=47) (by omega);have hP7:=hM7.row.lt;obtain⟨x0,x1,x2⟩:=bA hX7;obtain⟨y0,y1,y2⟩:=bA hR7;have nd:=((aD W7.heap.size W7).drew).alloc (aI _) (.cells #[.int .i64 (c:Int),.int .i64 r.k,.string r.key,.string r.val,.int .i64 A.kind,.string A.text,.int .i64 st] 70);have hM7a:=hM7.below nd;have hXd:=RowTo.whole W7.drew #[.int .i64 (c:Int),.int .i64 r.k,.string r.key,.string r.val,.int .i64 A.kind,.string A.text,.int .i64 st] 70
     obtain ⟨bd, od, cd, w8, hrun, u0, uz, hP8, hM8, hB8, hK8, hF8⟩ := hM7a.deeded (HIN.out.deeds hN) (ad := W7.heap.size) ⟨c, r, A, st⟩ (fun j u hu => by
      obtain⟨hj,hu⟩:=fN.1 hu;rw[<-hu]
      exact hXd.cell hj)
     have hrun':(Builtin.append_ #[26,26] 26 #[f6 47,.slice (some ⟨W7.heap.size,0,none⟩) 1 1]).run Tryz.prog (W7.drew.alloc (.cells #[.int .i64 (c:Int),.int .i64 r.k,.string r.key,.string r.val,.int .i64 A.kind,.string A.text,.int .i64 st] 70))= .ok (.slice (some ⟨bd,od,none⟩) (m.deeds.length+1) cd) w8:=hrun;have hFb:=hF8 b1 (bD hb1l nd.size) HFB.out;have hbk:w8.heap[b1]? =W7.heap[b1]? :=(hK8.2 b1 (bD hb1l nd.size) HFB.out).trans (nd.block b1 hb1l);have hFX:cX G w.heap.size:=fun i hi=>HFX.out i hi
     have hbkX:w8.heap[w.heap.size]? =W7.heap[w.heap.size]? :=(hK8.2 _ (bD hXl7 nd.size) hFX).trans (nd.block _ hXl7);have hR8:=(hR7.same hbk).other (p:=⟨P,47,none⟩) (Ne.symm hb1P) (.slice (some ⟨bd,od,none⟩) (m.deeds.length+1) cd);have hM8':PMem 0 (w8.setCell ⟨P,47,none⟩ (.slice (some ⟨bd,od,none⟩) (m.deeds.length+1) cd)) base P (aL f6 47 (.slice (some ⟨bd,od,none⟩) (m.deeds.length+1) cd)) (aL G 15 (some bd)) mode {(m.set c {m.get c with wait:=l})with e:=⟨V,m.e.kept⟩,deeds:=m.deeds++[⟨c,r,A,st⟩]}:=hM8;have hB8':Below base (W7.drew.alloc (.cells #[.int .i64 (c:Int),.int .i64 r.k,.string r.key,.string r.val,.int .i64 A.kind,.string A.text,.int .i64 st] 70)) (w8.setCell ⟨P,47,none⟩ (.slice (some ⟨bd,od,none⟩) (m.deeds.length+1) cd)):=hB8;have H8:=aA (aJ hM8' (aJ (hB7.trans ((nd.mono (bL hbP (dM hP7))).trans hB8')) (aJ hR8 ((hT7.below (nd.mono (bL hbP (dM hP7)))).below hB8'))));have HBK:=aA (aJ hbk hbkX);have HFb:=aA hFb;have HND:=aA nd;obtain⟨Af,cf,hf47,_⟩:=(hM7.sl 15 (by omega) (by omega) (by omega)).shape;have hf47':f6 47= .slice Af m.deeds.length cf:=(by rw[oC,dR]at hf47;exact hf47);have HXD:=aA hXd;clear hM7 hM7a hM8 hM8' hB7 hB8 hB8' hK8 hF8 hrun hR8 hX7 hT7 hFb hbk hbkX nd hf47 hFX hXd hR7;generalize f6 47=v47 at*;subst hf47';go_wp2_with fail;refine eF 13 (fun wx=>wx.cell? ⟨P,47,none⟩=some (.slice Af m.deeds.length cf)/\wx.cell? ⟨w.heap.size,0,none⟩=some (.int .i64 r.k)/\wx.cell? ⟨w.heap.size,1,none⟩=some (.string r.key)/\wx.cell? ⟨w.heap.size,2,none⟩=some (.string r.val)/\wx.cell? ⟨b1,0,none⟩=some (.int .i64 A.kind)/\wx.cell? ⟨b1,1,none⟩=some (.string A.text)/\wx.cell? ⟨b1,2,none⟩=some (.int .i64 st)) (by kernel_rfl) (show W7.drew.cell? ⟨P,47,none⟩=some (.slice Af m.deeds.length cf)/\W7.drew.cell? ⟨w.heap.size,0,none⟩=some (.int .i64 r.k)/\W7.drew.cell? ⟨w.heap.size,1,none⟩=some (.string r.key)/\W7.drew.cell? ⟨w.heap.size,2,none⟩=some (.string r.val)/\W7.drew.cell? ⟨b1,0,none⟩=some (.int .i64 A.kind)/\W7.drew.cell? ⟨b1,1,none⟩=some (.string A.text)/\W7.drew.cell? ⟨b1,2,none⟩=some (.int .i64 st)from⟨d7,x0,x1,x2,y0,y1,y2⟩) (fun hS=>?_);refine dF [(0,[]),(1,[]),(2,[]),(3,[]),(4,[]),(5,[]),(6,[]),(7,[])] ?_
     iterate 8
      refine dH (v:=?_) hS ?_ ?_;rotate_left
      ·(intro w hSw;(try dsimp only at hSw);(try simp only[aE,aB,aC]);go_simp;try with_reducible rfl)
      (try simp only[aE,aB,aC,aQ,aH,aG,aF])
     refine dG ?_;refine iI (i:=8) (v:= .agg #[.int .i64 (c:Int),.int .i64 r.k,.string r.key,.string r.val,.int .i64 A.kind,.string A.text,.int .i64 st]) rfl (by kernel_rfl) (by kernel_rfl) (by kernel_rfl) (by kernel_rfl) (fun _ _ _ h=>h) (Or.inl ⟨by rfl,?ypb8⟩) hS ?rpb8
     case ypb8=>exact fun w _=>xL rfl rfl rfl rfl w
     (try simp only[aE,aB,aC,aQ,aH,aG,aF])
     refine cK (i:=9) (fun K hK=>?_)
     (try simp only[aE,aB,aC])
     refine mZ (xM rfl rfl _) ?_;have hS2:=(show(W7.drew.alloc (.cells #[.int .i64 (c:Int),.int .i64 r.k,.string r.key,.string r.val,.int .i64 A.kind,.string A.text,.int .i64 st] 70)).cell? ⟨P,47,none⟩=some (.slice Af m.deeds.length cf)/\(W7.drew.alloc (.cells #[.int .i64 (c:Int),.int .i64 r.k,.string r.key,.string r.val,.int .i64 A.kind,.string A.text,.int .i64 st] 70)).cell? ⟨w.heap.size,0,none⟩=some (.int .i64 r.k)/\(W7.drew.alloc (.cells #[.int .i64 (c:Int),.int .i64 r.k,.string r.key,.string r.val,.int .i64 A.kind,.string A.text,.int .i64 st] 70)).cell? ⟨w.heap.size,1,none⟩=some (.string r.key)/\(W7.drew.alloc (.cells #[.int .i64 (c:Int),.int .i64 r.k,.string r.key,.string r.val,.int .i64 A.kind,.string A.text,.int .i64 st] 70)).cell? ⟨w.heap.size,2,none⟩=some (.string r.val)/\(W7.drew.alloc (.cells #[.int .i64 (c:Int),.int .i64 r.k,.string r.key,.string r.val,.int .i64 A.kind,.string A.text,.int .i64 st] 70)).cell? ⟨b1,0,none⟩=some (.int .i64 A.kind)/\(W7.drew.alloc (.cells #[.int .i64 (c:Int),.int .i64 r.k,.string r.key,.string r.val,.int .i64 A.kind,.string A.text,.int .i64 st] 70)).cell? ⟨b1,1,none⟩=some (.string A.text)/\(W7.drew.alloc (.cells #[.int .i64 (c:Int),.int .i64 r.k,.string r.key,.string r.val,.int .i64 A.kind,.string A.text,.int .i64 st] 70)).cell? ⟨b1,2,none⟩=some (.int .i64 st)from⟨(HND.out.cell (p:=⟨P,47,none⟩) hP7).trans d7,(HND.out.cell (p:=⟨w.heap.size,0,none⟩) hXl7).trans x0,(HND.out.cell (p:=⟨w.heap.size,1,none⟩) hXl7).trans x1,(HND.out.cell (p:=⟨w.heap.size,2,none⟩) hXl7).trans x2,(HND.out.cell (p:=⟨b1,0,none⟩) hb1l).trans y0,(HND.out.cell (p:=⟨b1,1,none⟩) hb1l).trans y1,(HND.out.cell (p:=⟨b1,2,none⟩) hb1l).trans y2⟩);refine hK.out _ _ hS2 ?_;clear hK K hS;have hS:=hS2;clear hS2
     (try simp only[aE,aB,aC,aQ,aH,aG,aF])
     refine cK (i:=10) (fun K hK=>?_)
     (try simp only[aE,aB,aC])
     refine Lib.wp_append_run _ _ _ _ _ rfl _ _ rfl rfl _ _ hrun' ?_;have hS2:=(show w8.cell? ⟨P,47,none⟩=some (.slice Af m.deeds.length cf)/\w8.cell? ⟨w.heap.size,0,none⟩=some (.int .i64 r.k)/\w8.cell? ⟨w.heap.size,1,none⟩=some (.string r.key)/\w8.cell? ⟨w.heap.size,2,none⟩=some (.string r.val)/\w8.cell? ⟨b1,0,none⟩=some (.int .i64 A.kind)/\w8.cell? ⟨b1,1,none⟩=some (.string A.text)/\w8.cell? ⟨b1,2,none⟩=some (.int .i64 st)from⟨u0,(aV (a:=⟨w.heap.size,0,none⟩) HBK.out.2).trans x0,(aV (a:=⟨w.heap.size,1,none⟩) HBK.out.2).trans x1,(aV (a:=⟨w.heap.size,2,none⟩) HBK.out.2).trans x2,(aV (a:=⟨b1,0,none⟩) HBK.out.1).trans y0,(aV (a:=⟨b1,1,none⟩) HBK.out.1).trans y1,(aV (a:=⟨b1,2,none⟩) HBK.out.1).trans y2⟩);refine hK.out _ _ hS2 ?_;clear hK K hS;have hS:=hS2;clear hS2
     (try simp only[aE,aB,aC,aQ,aH,aG,aF])
     refine dF [(11,[12]),(12,[])] ?_
     iterate 2
      refine dH (v:=?_) hS ?_ ?_;rotate_left
      ·(intro w hSw;(try dsimp only at hSw);(try simp only[aE,aB,aC]);go_simp;try with_reducible rfl)
      (try simp only[aE,aB,aC,aQ,aH,aG,aF])
     refine dG ?_;refine bY (fun K hK=>?_)
     (try simp only[aE,aB,aC])
     go_simp;refine hK.out _ _ ?_;clear hK K
     (try simp only[aE,aB,aC,aQ,aH,aG,aF])
     clear hS d7 x0 x1 x2 y0 y1 y2 hrun' HBK HND u0 uz HXD;obtain⟨W8,HW8⟩: ∃u,Hid (w8.setCell ⟨P,47,none⟩ (.slice (some ⟨bd,od,none⟩) (m.deeds.length+1) cd)=u):=⟨_,aA rfl⟩;rw[HW8.out]at H8 ⊢;clear HW8;obtain⟨y0,y1,y2⟩:=bA H8.out.2.2.1;have hb8:=H8.out.2.2.1.lt;have HS9:=aA (tO W8 H8.out.1 H8.out.2.2.2 HIN.out.ok.s6 c hc A st HA.out HSB.out (HIN.out.sent hN c));unfold cC at HS9;go_wp2_with fail;refine HS9.out.mono ?_;rintro e w9 ⟨f9,G9,rfl,hM9,hB9,hK9⟩;have hM9':PMem 0 w9 base P f9 G9 mode (Mach.tell (E:=PE) {(m.set c {m.get c with wait:=l})with e:=⟨V,m.e.kept⟩,deeds:=m.deeds++[⟨c,r,A,st⟩]} c A st):=hM9;rw[HM4.out]at hM9';clear hM9;have hM9:=hM9';clear hM9';have y9:=(aV (a:=⟨b1,2,none⟩) (hK9.2 b1 hb8 HFb.out)).trans y2;have hb9:b1<w9.heap.size:=bD hb8 hK9.1;have m9:=hM9.row.cell (j:=0) (by omega);rw[hM9.md]at m9;have hP9:=hM9.row.lt;have H9:=aA (aJ hM9 (H8.out.2.1.trans hB9));clear hM9 hB9 hK9 HS9 y0 y1 y2 H8
     by_cases hmo:mode=1
     ·have t1:(mode !=1)=false:=(by simp[hmo]);have HE2:=aA (HE.out.trans (if_neg (fun hh=>hh.1 hmo)));clear hmo HE;go_wp2;go_end0;rw[HE2.out];exact⟨f9,G9,rfl,H9.out.1,H9.out.2⟩
     have t1:(mode !=1)=true:=by simp[hmo]
     by_cases hst:st=0
     ·have t2:(st==0)=true:=(by simp[hst]);have HE2:=aA (HE.out.trans (if_pos ⟨hmo,hst⟩));have HRL:=aA (xA1 w9 H9.out.1 HK4.out.1 HK4.out.2.1 HK4.out.2.2.1 hc (s:=s) HK4.out.2.2.2);unfold cC at HRL;clear hmo hst HE;go_wp2_with fail;refine HRL.out.mono ?_;rintro e wA ⟨fA,rfl,hMA,hBA⟩;have HFF:=aA (aJ hMA (H9.out.2.trans hBA));clear hMA hBA HRL;go_wp2;go_end0;rw[HE2.out];exact⟨fA,G9,rfl,HFF.out.1,HFF.out.2⟩
     ·have t2:(st==0)=false:=(by simp[hst]);have HE2:=aA (HE.out.trans (if_neg (fun hh=>hst hh.2)));clear hmo hst HE;go_wp2;go_end0;rw[HE2.out];exact⟨f9,G9,rfl,H9.out.1,H9.out.2⟩
 ·have HVQ:=aA (show Value.slice (some ⟨b,off+3,none⟩) nl (cap-1)=vq by rw[<-hvq];unfold fH;rw[if_neg hcp]);clear hvq;have hcp2:cap-1≠0:=by omega
  have hcp3: ¬cap<=1:=by omega
  go_enter Tryz.func100,Tryz.ntmps100;go_wp2_with fail;simp only[HVQ.out];have hm0:=H1.out.1.row.cell (j:=0) (by omega);rw[H1.out.1.md]at hm0;refine(HRF.out _ hm0 H1.out.1.row.lt).mono ?_;rintro e w3 ⟨rfl,hb3⟩;have H3:=aA (aJ (H1.out.1.below hb3) (aJ (aR H1.out.2.1 hb3 (bL hbP (dM H1.out.1.row.lt))) (aJ (H1.out.2.2.1.below hb3 (by have:=H1.out.2.2.1.lt;exact this)) (H1.out.2.2.2.below (hb3.mono (show base<=((w.setCell ⟨P,4+c*6+1,none⟩ vq).alloc (.cells #[.int .i64 r.k,.string r.key,.string r.val] 41)).heap.size from bL hbP (dM H1.out.1.row.lt)))))));have hP3:=H3.out.1.row.lt;have hXl3:=H3.out.2.2.1.lt;clear hb3 hm0 H1 HRF x0 x1 x2 c0 c1 c2 p1 p1' z1'
  cases hrb:eJ mode r with
  |true=>
   as_aux_lemma=>
    have hne : rf.toList.isEmpty = false := mM (by
     have hh:rf.size≠0:=fun h0=>by rw[<-HRf.out]at h0;rw[qW.1 h0]at hrb;cases hrb
     omega)
    have HA:=aA (show fZ ⟨4,rf⟩ by rw[<-HRf.out];exact qV hrb)
    have HE := aA (show m.proc aO mode c = (m.set c { m.get c with wait := l }).tell c ⟨4, rf⟩ (m.e.state (m.get c).srv) by
     unfold Mach.proc;simp only[HW.out];rw[if_pos hrb,HRf.out]
     rfl)
    have hok1:MOk mode (m.set c {m.get c with wait:=l}):=HIN.out.ok.did hc HRD.out HW.out rfl rfl rfl HIN.out.ok.s6;have HST:=aA (xD w3 H3.out.1 hok1 HIN.out.plen hc);have hgs:(m.set c {m.get c with wait:=l}).e.state ((m.set c {m.get c with wait:=l}).get c).srv=m.e.state (m.get c).srv:=(by rw[cZ (by rw[HIN.out.ok.n6];exact hc),if_pos rfl];rfl);rw[hgs]at HST;have HSB:=aA (HIN.out.state hc);generalize m.e.state (m.get c).srv=st at*;unfold cC at HST;clear hrb hgs hok1;go_wp2_with fail;refine HST.out.mono ?_;rintro e w4 ⟨rfl,k4,rfl⟩;go_wp2_with fail;have hd4:Below w3.heap.size w3 (w3.drewN k4):=aZ (aD _ _) k4;refine(tO (w3.drewN k4) (H3.out.1.below hd4) (H3.out.2.2.2.below (hd4.mono (bL hbP (dM hP3)))) HIN.out.ok.s6 c hc ⟨4,rf⟩ st HA.out HSB.out (HIN.out.sent hN c)).mono ?_;rintro e w5 ⟨f5,G5,rfl,hM5,hB5,_⟩;have HFF:=aA (aJ hM5 ((H3.out.2.1.trans (hd4.mono (bL hbP (dM hP3)))).trans hB5));clear hM5 hB5 hd4;go_wp2;go_end0;rw[HE.out];exact⟨f5,G5,rfl,HFF.out.1,HFF.out.2⟩
  |false=>
   as_aux_lemma=>
    have hne:rf.toList.isEmpty=true:=kV (by rw[<-HRf.out];exact qW.2 hrb)
    obtain⟨s,hs⟩: ∃s,(m.get c).srv=some s:=by
     have:=HSR.out;rw[hrb,Bool.or_false]at this;exact Option.isSome_iff_exists.1 this
    have hlt:=HIN.out.srvlt hs;have hrk:=HIN.out.req HW.out hrb;obtain⟨A,HAe⟩: ∃A,Hid ((fL m.e.w s r).2=A):=⟨_,aA rfl⟩;obtain⟨V,HVe⟩: ∃V,Hid ((fL m.e.w s r).1=V):=⟨_,aA rfl⟩;obtain⟨st,HSe⟩: ∃st,Hid ((V.at s).st=st):=⟨_,aA rfl⟩;have hdo:=mW HIN.out.w hlt hrk;rw[HVe.out]at hdo;have HA:=aA (show fZ A by rw[<-HAe.out];exact sX HIN.out.w hlt _ _ _);have HSB:=aA (show 0<=st/\st<=2 by have:=kO hdo.1 (i:=s) (by rw[hdo.2];exact hlt);rw[<-HSe.out];exact⟨this.lo,this.hi⟩);have HPL:=aA (show V.ss.length=m.busy.length by rw[hdo.2];exact HIN.out.plen);obtain⟨M4,HM4⟩: ∃x,Hid (Mach.tell (E:=PE) {(m.set c {m.get c with wait:=l})with e:=⟨V,m.e.kept⟩,deeds:=m.deeds++[⟨c,r,A,st⟩]} c A st=x):=⟨_,aA rfl⟩
    have HK4 := aA (show MOk mode M4 ∧ M4.e.w.ss.length = M4.busy.length ∧ M4.e.kept.length = 6 ∧ (M4.get c).srv = some s by
     rw[<-HM4.out]
     exact ⟨HIN.out.ok.did hc HRD.out HW.out rfl rfl rfl (by simp [Mach.tell, Mach.set, HIN.out.ok.s6]), HPL.out, HIN.out.klen, by show ((m.set c { m.get c with wait := l }).get c).srv = some s; rw [cZ (by rw [HIN.out.ok.n6]; exact hc), if_pos rfl]; exact hs⟩)
    have HE := aA (show m.proc aO mode c = if mode ≠ 1 ∧ st = 0 then M4.release aO c s else M4 by
     unfold Mach.proc;simp only[HW.out];rw[if_neg (by rw[hrb];simp),show(m.get c).srv.getD 0=s by rw[hs];rfl]
     have he:aO.exec m.e c s r=(⟨V,m.e.kept⟩,A,st):=by
      show((⟨(fL m.e.w s r).1,m.e.kept⟩:PE),(fL m.e.w s r).2,((fL m.e.w s r).1.at s).st)=_;rw[HVe.out,HAe.out,HSe.out]
     rw[he];show(if mode≠1/\st=0 then Mach.release aO (Mach.tell (E:=PE) {(m.set c {m.get c with wait:=l})with e:=⟨V,m.e.kept⟩,deeds:=m.deeds++[⟨c,r,A,st⟩]} c A st) c s else Mach.tell (E:=PE) {(m.set c {m.get c with wait:=l})with e:=⟨V,m.e.kept⟩,deeds:=m.deeds++[⟨c,r,A,st⟩]} c A st)=_
     rw [HM4.out])
    have HDO:=aA (fun(wc:World) (h1:PMem 0 wc base P (aL f (4+c*6+1) vq) G mode (m.set c {m.get c with wait:=l})) (h2:Tabs wc base)=>pE wc h1 h2 HIN.out.w s hlt r hrk);rw[show(m.set c {m.get c with wait:=l}).e.w=m.e.w from rfl,HVe.out,HAe.out,HSe.out]at HDO;have hgs:((m.set c {m.get c with wait:=l}).get c).srv=some s:=(by rw[cZ (by rw[HIN.out.ok.n6];exact hc),if_pos rfl];exact hs);have HGS:=aA hgs;have a3:=H3.out.1.row.cell (j:=4+c*6+3) (by omega);obtain⟨q,hq,hqs⟩:=H3.out.1.srv c hc;obtain rfl:=hqs s hgs;rw[hq]at a3;obtain⟨x0,x1,x2⟩:=bA H3.out.2.2.1;clear hrb hlt hrk hdo hgs hq hqs HAe HVe HSe;unfold cC at HDO;go_wp2_with fail;refine eF 8 (fun wx=>wx.cell? ⟨P,4+c*6+3,none⟩=some (.int .i64 s)/\wx.cell? ⟨w.heap.size,0,none⟩=some (.int .i64 r.k)/\wx.cell? ⟨w.heap.size,1,none⟩=some (.string r.key)/\wx.cell? ⟨w.heap.size,2,none⟩=some (.string r.val)) (by kernel_rfl) (show w3.drew.cell? ⟨P,4+c*6+3,none⟩=some (.int .i64 s)/\w3.drew.cell? ⟨w.heap.size,0,none⟩=some (.int .i64 r.k)/\w3.drew.cell? ⟨w.heap.size,1,none⟩=some (.string r.key)/\w3.drew.cell? ⟨w.heap.size,2,none⟩=some (.string r.val)from⟨a3,x0,x1,x2⟩) (fun hS=>?_);refine dF [(0,[]),(1,[]),(2,[]),(3,[]),(4,[]),(5,[])] ?_
    iterate 6
     refine dH (v:=?_) hS ?_ ?_;rotate_left
     ·(intro w hSw;(try dsimp only at hSw);(try simp only[aE,aB,aC]);go_simp;try with_reducible rfl)
     (try simp only[aE,aB,aC,aQ,aH,aG,aF])
    refine dG ?_;refine xA5 (i:=6) (p:=7) (di:=46) (dp:=7) (tp:=46) (zp:=#[.int .i64 0,.string ⟨#[]⟩,.int .i64 0]) (L:=fun x y=>#[true,true,true,true,true,true,x,y,false]) ⟨_,rfl,rfl,rfl,fun ev w=>(by go_simp;rfl)⟩ (by decide) (by kernel_rfl) (by kernel_rfl) (by kernel_rfl) rfl rfl rfl rfl 1 (R:=fun v wc w'=> ∃f',v= .agg #[.int .i64 A.kind,.string A.text,.int .i64 st]/\PMem 0 w' base P f' G mode {(m.set c {m.get c with wait:=l})with e:=⟨V,m.e.kept⟩}/\Below base wc w'/\Only P wc w') (F:=fun v b1 w'=>(∃f',v= .agg #[.int .i64 A.kind,.string A.text,.int .i64 st]/\PMem 0 w' base P f' G mode {(m.set c {m.get c with wait:=l})with e:=⟨V,m.e.kept⟩})/\Below base w3 w'/\Only P w3 w'/\RowTo w' b1 46 3 [.int .i64 0,.string ⟨#[]⟩,.int .i64 0]/\w3.heap.size<=b1) ?qc1 ?qc2 ?qs1 ?qs2 ?qf1 ?qf2 ?qsf ?qfin
    case qc1=>
     refine lL rfl rfl (pD (g:=75) (args:=#[.pointer (some ⟨P,0,none⟩),.int .i64 s,.agg #[.int .i64 r.k,.string r.key,.string r.val]]) ?_ ?_)
     ·(try simp only[aE,aB,aC,aQ,aH,aG,aF]);go_simp;try rfl
     ·refine(HDO.out w3.drew (H3.out.1.below (aD _ _).drew) (H3.out.2.2.2.below (aD _ _).drew)).mono ?_;rintro e w6 ⟨f6,rfl,hM6,hB6,hO6⟩;exact⟨_,rfl,_,rfl,f6,rfl,hM6,hB6,hO6⟩
    case qc2=>
     refine lL rfl rfl (pD (g:=75) (args:=#[.pointer (some ⟨P,0,none⟩),.int .i64 s,.agg #[.int .i64 r.k,.string r.key,.string r.val]]) ?_ ?_)
     ·(try simp only[pt,aE,aB,aC,aQ,aH,aG,aF]);go_simp;try rfl
     ·have na:Below w3.heap.size w3 (w3.drew.alloc (.cells #[.int .i64 0,.string ⟨#[]⟩,.int .i64 0] 46)):=(aD _ _).drew.alloc (aI _) _;refine(HDO.out _ (H3.out.1.below na) (H3.out.2.2.2.below (na.mono (bL hbP (dM hP3))))).mono ?_;rintro e w6 ⟨f6,rfl,hM6,hB6,hO6⟩;exact⟨_,rfl,_,rfl,f6,rfl,hM6,hB6,hO6⟩
    case qs1=>
     rintro v w' ⟨f',_,hM',_,hO'⟩;exact⟨(by have e1:=hM'.row.cell (j:=4+c*6+3) (by omega);obtain⟨q',hq',hqs'⟩:=hM'.srv c hc;obtain rfl:=hqs' s HGS.out;rw[hq']at e1;exact e1),(aV (a:=⟨w.heap.size,0,none⟩) (hO'.2 _ hXl3 (Ne.symm hPX))).trans x0,(aV (a:=⟨w.heap.size,1,none⟩) (hO'.2 _ hXl3 (Ne.symm hPX))).trans x1,(aV (a:=⟨w.heap.size,2,none⟩) (hO'.2 _ hXl3 (Ne.symm hPX))).trans x2⟩
    case qs2=>
     have na:Below w3.heap.size w3 (w3.drew.alloc (.cells #[.int .i64 0,.string ⟨#[]⟩,.int .i64 0] 46)):=(aD _ _).drew.alloc (aI _) _;exact⟨(na.cell (p:=⟨P,4+c*6+3,none⟩) hP3).trans a3,(na.cell (p:=⟨w.heap.size,0,none⟩) hXl3).trans x0,(na.cell (p:=⟨w.heap.size,1,none⟩) hXl3).trans x1,(na.cell (p:=⟨w.heap.size,2,none⟩) hXl3).trans x2⟩
    case qf1=>
     rintro v w' ⟨f',hv,hM',hB',hO'⟩;have na:=(aD w'.heap.size w').alloc (aI _) (.cells #[.int .i64 0,.string ⟨#[]⟩,.int .i64 0] 46);exact⟨⟨f',hv,hM'.below na⟩,((aD base w3).drew.trans hB').trans (na.mono (bL hbP (dM hM'.row.lt))),((Only.below (P:=P) (aD w3.heap.size w3).drew).trans hO').trans (Only.below na),RowTo.whole w' _ _,hO'.1⟩
    case qf2=>
     rintro v w' ⟨f',hv,hM',hB',hO'⟩;have na:Below w3.heap.size w3 (w3.drew.alloc (.cells #[.int .i64 0,.string ⟨#[]⟩,.int .i64 0] 46)):=(aD _ _).drew.alloc (aI _) _;exact⟨⟨f',hv,hM'⟩,(na.mono (bL hbP (dM hP3))).trans hB',(Only.below (P:=P) na).trans hO',(RowTo.whole w3.drew _ _).same (hO'.2 _ (show w3.heap.size<(w3.drew.alloc _).heap.size by rw[World.size_alloc];exact Nat.lt_succ_self _) (by show w3.heap.size≠P;omega)),aI _⟩
    case qsf=>
     rintro v b1 w' ⟨⟨f',_,hM'⟩,_,hO',_⟩;exact⟨(by have e1:=hM'.row.cell (j:=4+c*6+3) (by omega);obtain⟨q',hq',hqs'⟩:=hM'.srv c hc;obtain rfl:=hqs' s HGS.out;rw[hq']at e1;exact e1),(aV (a:=⟨w.heap.size,0,none⟩) (hO'.2 _ hXl3 (Ne.symm hPX))).trans x0,(aV (a:=⟨w.heap.size,1,none⟩) (hO'.2 _ hXl3 (Ne.symm hPX))).trans x1,(aV (a:=⟨w.heap.size,2,none⟩) (hO'.2 _ hXl3 (Ne.symm hPX))).trans x2⟩
    case qfin=>
     rintro v b1 w6 ⟨⟨f6,rfl,hM6⟩,hB6,hO6,hR6,hb6⟩;obtain⟨y0,y1,y2⟩:=bA hR6;have z0:=hR6.frozen 0;have z1:=hR6.frozen 1;have z2:=hR6.frozen 2;have hb1P:b1≠P:=(by omega);have hGb: ∀i,G i≠some b1:=fun i hi=>(by have:=(H3.out.1.lo i b1 hi).2;omega);have hM7:=hM6.ans3 hR6 hGb (.int .i64 A.kind) (.string A.text) (.int .i64 st);have hR7:=hR6.set3 (.int .i64 A.kind) (.string A.text) (.int .i64 st);have hB7:=mE (H3.out.2.1.trans hB6) (show base<=b1 by omega) (.int .i64 A.kind) (.string A.text) (.int .i64 st);have hbX:b1≠w.heap.size:=(by omega);have hX7:=(((H3.out.2.2.1.same (hO6.2 _ hXl3 (Ne.symm hPX))).other (p:=⟨b1,0,none⟩) hbX (.int .i64 A.kind)).other (p:=⟨b1,1,none⟩) hbX (.string A.text)).other (p:=⟨b1,2,none⟩) hbX (.int .i64 st);have hT7:=(H3.out.2.2.2.below hB6).below (mE (aD base w6) (show base<=b1 by omega) (.int .i64 A.kind) (.string A.text) (.int .i64 st));simp only[pt,aQ,aH,aG,aF];refine bY (fun K hK=>?_)
     (try simp only[aE,aB,aC])
     go_simp;refine hK.out _ _ ?_;clear hK K
     (try simp only[aE,aB,aC,aQ,aH,aG,aF])
     have HFB:=aA (show cX G b1 from hGb);have hb1l:=hR7.lt;have hXl7:=hX7.lt;obtain⟨W7,HW7⟩: ∃u,Hid ((((w6.setCell ⟨b1,0,none⟩ (.int .i64 A.kind)).setCell ⟨b1,1,none⟩ (.string A.text)).setCell ⟨b1,2,none⟩ (.int .i64 st))=u):=⟨_,aA rfl⟩;rw[HW7.out]at hM7 hR7 hB7 hX7 hT7 hb1l hXl7 ⊢;clear HW7 hM6 hB6 hO6 hR6 y0 y1 y2 z0 z1 z2 H3 HDO hP3 hXl3 a3 x0 x1 x2 hGb;have d7:=hM7.row.cell (j:=47) (by omega);have hP7:=hM7.row.lt;obtain⟨x0,x1,x2⟩:=bA hX7;obtain⟨y0,y1,y2⟩:=bA hR7;have nd:=((aD W7.heap.size W7).drew).alloc (aI _) (.cells #[.int .i64 (c:Int),.int .i64 r.k,.string r.key,.string r.val,.int .i64 A.kind,.string A.text,.int .i64 st] 70);have hM7a:=hM7.below nd;have hXd:=RowTo.whole W7.drew #[.int .i64 (c:Int),.int .i64 r.k,.string r.key,.string r.val,.int .i64 A.kind,.string A.text,.int .i64 st] 70
     obtain ⟨bd, od, cd, w8, hrun, u0, uz, hP8, hM8, hB8, hK8, hF8⟩ := hM7a.deeded (HIN.out.deeds hN) (ad := W7.heap.size) ⟨c, r, A, st⟩ (fun j u hu => by
      obtain⟨hj,hu⟩:=fN.1 hu;rw[<-hu]
      exact hXd.cell hj)
     have hrun':(Builtin.append_ #[26,26] 26 #[f6 47,.slice (some ⟨W7.heap.size,0,none⟩) 1 1]).run Tryz.prog (W7.drew.alloc (.cells #[.int .i64 (c:Int),.int .i64 r.k,.string r.key,.string r.val,.int .i64 A.kind,.string A.text,.int .i64 st] 70))= .ok (.slice (some ⟨bd,od,none⟩) (m.deeds.length+1) cd) w8:=hrun;have hFb:=hF8 b1 (bD hb1l nd.size) HFB.out;have hbk:w8.heap[b1]? =W7.heap[b1]? :=(hK8.2 b1 (bD hb1l nd.size) HFB.out).trans (nd.block b1 hb1l);have hFX:cX G w.heap.size:=fun i hi=>HFX.out i hi
     have hbkX:w8.heap[w.heap.size]? =W7.heap[w.heap.size]? :=(hK8.2 _ (bD hXl7 nd.size) hFX).trans (nd.block _ hXl7);have hR8:=(hR7.same hbk).other (p:=⟨P,47,none⟩) (Ne.symm hb1P) (.slice (some ⟨bd,od,none⟩) (m.deeds.length+1) cd);have hM8':PMem 0 (w8.setCell ⟨P,47,none⟩ (.slice (some ⟨bd,od,none⟩) (m.deeds.length+1) cd)) base P (aL f6 47 (.slice (some ⟨bd,od,none⟩) (m.deeds.length+1) cd)) (aL G 15 (some bd)) mode {(m.set c {m.get c with wait:=l})with e:=⟨V,m.e.kept⟩,deeds:=m.deeds++[⟨c,r,A,st⟩]}:=hM8;have hB8':Below base (W7.drew.alloc (.cells #[.int .i64 (c:Int),.int .i64 r.k,.string r.key,.string r.val,.int .i64 A.kind,.string A.text,.int .i64 st] 70)) (w8.setCell ⟨P,47,none⟩ (.slice (some ⟨bd,od,none⟩) (m.deeds.length+1) cd)):=hB8;have H8:=aA (aJ hM8' (aJ (hB7.trans ((nd.mono (bL hbP (dM hP7))).trans hB8')) (aJ hR8 ((hT7.below (nd.mono (bL hbP (dM hP7)))).below hB8'))));have HBK:=aA (aJ hbk hbkX);have HFb:=aA hFb;have HND:=aA nd;obtain⟨Af,cf,hf47,_⟩:=(hM7.sl 15 (by omega) (by omega) (by omega)).shape;have hf47':f6 47= .slice Af m.deeds.length cf:=(by rw[oC,dR]at hf47;exact hf47);have HXD:=aA hXd;clear hM7 hM7a hM8 hM8' hB7 hB8 hB8' hK8 hF8 hrun hR8 hX7 hT7 hFb hbk hbkX nd hf47 hFX hXd hR7;generalize f6 47=v47 at*;subst hf47';go_wp2_with fail;refine eF 13 (fun wx=>wx.cell? ⟨P,47,none⟩=some (.slice Af m.deeds.length cf)/\wx.cell? ⟨w.heap.size,0,none⟩=some (.int .i64 r.k)/\wx.cell? ⟨w.heap.size,1,none⟩=some (.string r.key)/\wx.cell? ⟨w.heap.size,2,none⟩=some (.string r.val)/\wx.cell? ⟨b1,0,none⟩=some (.int .i64 A.kind)/\wx.cell? ⟨b1,1,none⟩=some (.string A.text)/\wx.cell? ⟨b1,2,none⟩=some (.int .i64 st)) (by kernel_rfl) (show W7.drew.cell? ⟨P,47,none⟩=some (.slice Af m.deeds.length cf)/\W7.drew.cell? ⟨w.heap.size,0,none⟩=some (.int .i64 r.k)/\W7.drew.cell? ⟨w.heap.size,1,none⟩=some (.string r.key)/\W7.drew.cell? ⟨w.heap.size,2,none⟩=some (.string r.val)/\W7.drew.cell? ⟨b1,0,none⟩=some (.int .i64 A.kind)/\W7.drew.cell? ⟨b1,1,none⟩=some (.string A.text)/\W7.drew.cell? ⟨b1,2,none⟩=some (.int .i64 st)from⟨d7,x0,x1,x2,y0,y1,y2⟩) (fun hS=>?_);refine dF [(0,[]),(1,[]),(2,[]),(3,[]),(4,[]),(5,[]),(6,[]),(7,[])] ?_
     iterate 8
      refine dH (v:=?_) hS ?_ ?_;rotate_left
      ·(intro w hSw;(try dsimp only at hSw);(try simp only[aE,aB,aC]);go_simp;try with_reducible rfl)
      (try simp only[aE,aB,aC,aQ,aH,aG,aF])
     refine dG ?_;refine iI (i:=8) (v:= .agg #[.int .i64 (c:Int),.int .i64 r.k,.string r.key,.string r.val,.int .i64 A.kind,.string A.text,.int .i64 st]) rfl (by kernel_rfl) (by kernel_rfl) (by kernel_rfl) (by kernel_rfl) (fun _ _ _ h=>h) (Or.inl ⟨by rfl,?yqb8⟩) hS ?rqb8
     case yqb8=>exact fun w _=>xL rfl rfl rfl rfl w
     (try simp only[aE,aB,aC,aQ,aH,aG,aF])
     refine cK (i:=9) (fun K hK=>?_)
     (try simp only[aE,aB,aC])
     refine mZ (xM rfl rfl _) ?_;have hS2:=(show(W7.drew.alloc (.cells #[.int .i64 (c:Int),.int .i64 r.k,.string r.key,.string r.val,.int .i64 A.kind,.string A.text,.int .i64 st] 70)).cell? ⟨P,47,none⟩=some (.slice Af m.deeds.length cf)/\(W7.drew.alloc (.cells #[.int .i64 (c:Int),.int .i64 r.k,.string r.key,.string r.val,.int .i64 A.kind,.string A.text,.int .i64 st] 70)).cell? ⟨w.heap.size,0,none⟩=some (.int .i64 r.k)/\(W7.drew.alloc (.cells #[.int .i64 (c:Int),.int .i64 r.k,.string r.key,.string r.val,.int .i64 A.kind,.string A.text,.int .i64 st] 70)).cell? ⟨w.heap.size,1,none⟩=some (.string r.key)/\(W7.drew.alloc (.cells #[.int .i64 (c:Int),.int .i64 r.k,.string r.key,.string r.val,.int .i64 A.kind,.string A.text,.int .i64 st] 70)).cell? ⟨w.heap.size,2,none⟩=some (.string r.val)/\(W7.drew.alloc (.cells #[.int .i64 (c:Int),.int .i64 r.k,.string r.key,.string r.val,.int .i64 A.kind,.string A.text,.int .i64 st] 70)).cell? ⟨b1,0,none⟩=some (.int .i64 A.kind)/\(W7.drew.alloc (.cells #[.int .i64 (c:Int),.int .i64 r.k,.string r.key,.string r.val,.int .i64 A.kind,.string A.text,.int .i64 st] 70)).cell? ⟨b1,1,none⟩=some (.string A.text)/\(W7.drew.alloc (.cells #[.int .i64 (c:Int),.int .i64 r.k,.string r.key,.string r.val,.int .i64 A.kind,.string A.text,.int .i64 st] 70)).cell? ⟨b1,2,none⟩=some (.int .i64 st)from⟨(HND.out.cell (p:=⟨P,47,none⟩) hP7).trans d7,(HND.out.cell (p:=⟨w.heap.size,0,none⟩) hXl7).trans x0,(HND.out.cell (p:=⟨w.heap.size,1,none⟩) hXl7).trans x1,(HND.out.cell (p:=⟨w.heap.size,2,none⟩) hXl7).trans x2,(HND.out.cell (p:=⟨b1,0,none⟩) hb1l).trans y0,(HND.out.cell (p:=⟨b1,1,none⟩) hb1l).trans y1,(HND.out.cell (p:=⟨b1,2,none⟩) hb1l).trans y2⟩);refine hK.out _ _ hS2 ?_;clear hK K hS;have hS:=hS2;clear hS2
     (try simp only[aE,aB,aC,aQ,aH,aG,aF])
     refine cK (i:=10) (fun K hK=>?_)
     (try simp only[aE,aB,aC])
     refine Lib.wp_append_run _ _ _ _ _ rfl _ _ rfl rfl _ _ hrun' ?_;have hS2:=(show w8.cell? ⟨P,47,none⟩=some (.slice Af m.deeds.length cf)/\w8.cell? ⟨w.heap.size,0,none⟩=some (.int .i64 r.k)/\w8.cell? ⟨w.heap.size,1,none⟩=some (.string r.key)/\w8.cell? ⟨w.heap.size,2,none⟩=some (.string r.val)/\w8.cell? ⟨b1,0,none⟩=some (.int .i64 A.kind)/\w8.cell? ⟨b1,1,none⟩=some (.string A.text)/\w8.cell? ⟨b1,2,none⟩=some (.int .i64 st)from⟨u0,(aV (a:=⟨w.heap.size,0,none⟩) HBK.out.2).trans x0,(aV (a:=⟨w.heap.size,1,none⟩) HBK.out.2).trans x1,(aV (a:=⟨w.heap.size,2,none⟩) HBK.out.2).trans x2,(aV (a:=⟨b1,0,none⟩) HBK.out.1).trans y0,(aV (a:=⟨b1,1,none⟩) HBK.out.1).trans y1,(aV (a:=⟨b1,2,none⟩) HBK.out.1).trans y2⟩);refine hK.out _ _ hS2 ?_;clear hK K hS;have hS:=hS2;clear hS2
     (try simp only[aE,aB,aC,aQ,aH,aG,aF])
     refine dF [(11,[12]),(12,[])] ?_
     iterate 2
      refine dH (v:=?_) hS ?_ ?_;rotate_left
      ·(intro w hSw;(try dsimp only at hSw);(try simp only[aE,aB,aC]);go_simp;try with_reducible rfl)
      (try simp only[aE,aB,aC,aQ,aH,aG,aF])
     refine dG ?_;refine bY (fun K hK=>?_)
     (try simp only[aE,aB,aC])
     go_simp;refine hK.out _ _ ?_;clear hK K
     (try simp only[aE,aB,aC,aQ,aH,aG,aF])
     clear hS d7 x0 x1 x2 y0 y1 y2 hrun' HBK HND u0 uz HXD;obtain⟨W8,HW8⟩: ∃u,Hid (w8.setCell ⟨P,47,none⟩ (.slice (some ⟨bd,od,none⟩) (m.deeds.length+1) cd)=u):=⟨_,aA rfl⟩;rw[HW8.out]at H8 ⊢;clear HW8;obtain⟨y0,y1,y2⟩:=bA H8.out.2.2.1;have hb8:=H8.out.2.2.1.lt;have HS9:=aA (tO W8 H8.out.1 H8.out.2.2.2 HIN.out.ok.s6 c hc A st HA.out HSB.out (HIN.out.sent hN c));unfold cC at HS9;go_wp2_with fail;refine HS9.out.mono ?_;rintro e w9 ⟨f9,G9,rfl,hM9,hB9,hK9⟩;have hM9':PMem 0 w9 base P f9 G9 mode (Mach.tell (E:=PE) {(m.set c {m.get c with wait:=l})with e:=⟨V,m.e.kept⟩,deeds:=m.deeds++[⟨c,r,A,st⟩]} c A st):=hM9;rw[HM4.out]at hM9';clear hM9;have hM9:=hM9';clear hM9';have y9:=(aV (a:=⟨b1,2,none⟩) (hK9.2 b1 hb8 HFb.out)).trans y2;have hb9:b1<w9.heap.size:=bD hb8 hK9.1;have m9:=hM9.row.cell (j:=0) (by omega);rw[hM9.md]at m9;have hP9:=hM9.row.lt;have H9:=aA (aJ hM9 (H8.out.2.1.trans hB9));clear hM9 hB9 hK9 HS9 y0 y1 y2 H8
     by_cases hmo:mode=1
     ·have t1:(mode !=1)=false:=(by simp[hmo]);have HE2:=aA (HE.out.trans (if_neg (fun hh=>hh.1 hmo)));clear hmo HE;go_wp2;go_end0;rw[HE2.out];exact⟨f9,G9,rfl,H9.out.1,H9.out.2⟩
     have t1:(mode !=1)=true:=by simp[hmo]
     by_cases hst:st=0
     ·have t2:(st==0)=true:=(by simp[hst]);have HE2:=aA (HE.out.trans (if_pos ⟨hmo,hst⟩));have HRL:=aA (xA1 w9 H9.out.1 HK4.out.1 HK4.out.2.1 HK4.out.2.2.1 hc (s:=s) HK4.out.2.2.2);unfold cC at HRL;clear hmo hst HE;go_wp2_with fail;refine HRL.out.mono ?_;rintro e wA ⟨fA,rfl,hMA,hBA⟩;have HFF:=aA (aJ hMA (H9.out.2.trans hBA));clear hMA hBA HRL;go_wp2;go_end0;rw[HE2.out];exact⟨fA,G9,rfl,HFF.out.1,HFF.out.2⟩
     ·have t2:(st==0)=false:=(by simp[hst]);have HE2:=aA (HE.out.trans (if_neg (fun hh=>hst hh.2)));clear hmo hst HE;go_wp2;go_end0;rw[HE2.out];exact⟨f9,G9,rfl,H9.out.1,H9.out.2⟩
end
end Go.Proofs.YtpbaobmegomfpabGreatDoor

/-
  Texts of the proof.
-/
import Derived.Test.YtpbaobmegomfpabGreatDoorG23
import Derived.Lib.LaidTab
set_option linter.unusedVariables false
set_option linter.unusedSimpArgs false
set_option maxRecDepth 100000
set_option maxHeartbeats 16000000
open List renaming getElem_toArray→aE,getElem_cons_zero→aB,getElem_cons_succ→aC,setIfInBounds_toArray→aH,set_cons_zero→aG,set_cons_succ→aF,getD_cons_zero→aS,getD_cons_succ→aT,getElem?_eq_some_iff→fN,length_append→eN,length_map→dR,length_cons→fC
open Nat renaming le_refl→aI,lt_of_lt_of_le→bD,zero_add→cW
open Go.Lib renaming hid→aA
open Go.RowKit.Below renaming refl→aD
open And renaming intro→aJ
open Go.Act renaming put→aQ
open Go renaming below_drewN→aZ
namespace Go.Proofs.YtpbaobmegomfpabGreatDoor
open Go.RowKit
theorem mA9 (v v':Value)(l:PL)(w:World)(B:Nat)(hl:Lst w B v l)(hl':Lst w B v' l):
  Calls Tryz.prog 34 #[v,v'] w fun e w'=>e= .returned (.bool true)/\ ∃n,w'=w.drewN n:=by
 obtain⟨A,c,rfl,hc⟩:=hl.form;obtain⟨A',c',rfl,hc'⟩:=hl'.form;have hby:=hl.bytes;have HL:=aA hl;have HL':=aA hl';have hne:((l.length:Int) !=(l.length:Int))=false:=by simp
 clear hl hl';go_enter Tryz.func34,Tryz.ntmps34;go_wp2
 go_loopw [5] (fun i wr=> ∃k:Nat,k<=l.length/\i= .int .i64 k/\ ∃n,wr=w.drewN n) (fun i _=>l.length-(intOf i).toNat)
 case atStart=>exact⟨0,by omega,rfl,0,rfl⟩
 case round=>
  obtain⟨k,hk,rfl,n,rfl⟩:=hrel
  by_cases hlt:k<l.length
  ·obtain⟨b,off,rfl,hb,c0,c1⟩:=HL.out.pt hlt;obtain⟨b',off',rfl,hb',c0',c1'⟩:=HL'.out.pt hlt;go_wp2
   go_quiet (fail)
   go_wp2;go_roundw
   case rel=>exact⟨k+1,by omega,by go_num,n+nq,rfl⟩
   case measure=>simp[intOf];omega
  ·go_wp2;go_ret;exact⟨rfl,_,rfl⟩
theorem mAa (v1 v2 v3 u1 u2 u3:Value)(sent:List ByteArray)(deeds:List iD)(rows:PL)(w:World)(h:OutV w v1 v2 v3 sent deeds rows)(h':OutV w u1 u2 u3 sent deeds rows):
  Calls Tryz.prog 9 #[.agg #[v1,v2,v3],.agg #[u1,u2,u3]] w fun e w'=>e= .returned (.bool true)/\Below w.heap.size w w':=by
 obtain⟨A1,c1,rfl,_⟩:=h.s.form;obtain⟨A2,c2,rfl,_⟩:=h.d.form;obtain⟨A3,c3,rfl,_⟩:=h.r.form;obtain⟨E1,e1,rfl,_⟩:=h'.s.form;obtain⟨E2,e2,rfl,_⟩:=h'.d.form;obtain⟨E3,e3,rfl,_⟩:=h'.r.form;have hn1:=h.s.small;have hn2:=h.d.small;have X1:=(RowTo.whole w #[.slice A1 sent.length c1,.slice A2 deeds.length c2,.slice A3 rows.length c3] 29).alloc (.cells #[.slice E1 sent.length e1,.slice E2 deeds.length e2,.slice E3 rows.length e3] 29);have X2:=RowTo.whole (w.alloc (.cells #[.slice A1 sent.length c1,.slice A2 deeds.length c2,.slice A3 rows.length c3] 29)) #[.slice E1 sent.length e1,.slice E2 deeds.length e2,.slice E3 rows.length e3] 29;simp only[World.size_alloc]at X2;have nn:=((aD w.heap.size w).alloc (aI _) (.cells #[.slice A1 sent.length c1,.slice A2 deeds.length c2,.slice A3 rows.length c3] 29)).alloc (by simp) (.cells #[.slice E1 sent.length e1,.slice E2 deeds.length e2,.slice E3 rows.length e3] 29);have HN:=aA nn;have H1:=aA (h.step nn);have H2:=aA (h'.step nn);have t1:((sent.length:Int) !=(sent.length:Int))=false:=by simp
 have t2:((deeds.length:Int) !=(deeds.length:Int))=false:=by simp
 obtain⟨x0,x1,x2⟩:=bA X1;obtain⟨y0,y1,y2⟩:=bA X2;have hxl:=X1.lt;have hyl:=X2.lt;clear h h' nn X1 X2;go_enter Tryz.func9,Tryz.ntmps9;obtain⟨W2,HW2⟩: ∃u,Hid ((w.alloc (.cells #[.slice A1 sent.length c1,.slice A2 deeds.length c2,.slice A3 rows.length c3] 29)).alloc (.cells #[.slice E1 sent.length e1,.slice E2 deeds.length e2,.slice E3 rows.length e3] 29)=u):=⟨_,aA rfl⟩;rw[HW2.out]at HN H1 H2 x0 x1 x2 y0 y1 y2 hxl hyl;go_wp2_with fail;rw[HW2.out];refine(mA9 _ _ rows _ _ H1.out.r H2.out.r).mono ?_;rintro e w1 ⟨rfl,n1,rfl⟩;go_wp2_with fail
 go_loopw [5] (fun i wr=> ∃k:Nat,k<=sent.length/\i= .int .i64 k/\ ∃n,wr=W2.drewN n) (fun i _=>sent.length-(intOf i).toNat)
 case atStart=>exact⟨0,by omega,rfl,_,rfl⟩
 case round=>
  obtain⟨k,hk,rfl,n,rfl⟩:=hrel
  by_cases hlt:k<sent.length
  ·obtain⟨b,off,rfl,hb,c0⟩:=H1.out.s.pt hlt;obtain⟨b',off',rfl,hb',e0⟩:=H2.out.s.pt hlt;have hkI:(k:Int)<(sent.length:Int):=by omega
   go_wp2_with fail
   go_quiet (fail)
   go_wp2;go_roundw
   case rel=>exact⟨k+1,by omega,by go_num,n+nq,rfl⟩
   case measure=>simp[intOf];omega
  ·obtain rfl:k=sent.length:=by omega
   go_wp2_with fail
   go_loopw [6] (fun i wr=> ∃k:Nat,k<=deeds.length/\i= .int .i64 k/\ ∃n,wr=W2.drewN n) (fun i _=>deeds.length-(intOf i).toNat)
   case atStart=>exact⟨0,by omega,rfl,_,rfl⟩
   case round=>
    obtain⟨k,hk,rfl,n,rfl⟩:=hrel
    by_cases hlt:k<deeds.length
    ·obtain⟨b,off,rfl,hb,c0,c1,c2,c3,c4,c5,c6⟩:=H1.out.d.pt hlt;obtain⟨b',off',rfl,hb',e0,e1,e2,e3,e4,e5,e6⟩:=H2.out.d.pt hlt;have hkI:(k:Int)<(deeds.length:Int):=(by omega);go_wp2_with fail
     go_quiet (fail)
     go_wp2;go_roundw
     case rel=>exact⟨k+1,by omega,by go_num,n+nq,rfl⟩
     case measure=>simp[intOf];omega
    ·obtain rfl:k=deeds.length:=(by omega);go_wp2;go_ret;exact⟨rfl,aZ HN.out _⟩
theorem yAe {P:Program}{w:World}{n:String}{d:DataW Unit}: ∀{l:List (String×DataW Unit)} {ps:List MemPlace},DataW.LaidVars P w l ps->(n,d)∈l->
  ∃g t cs fuel p,P.globalNamed n=some g/\(P.globals[g]?).map (·.type)=some t/\w.var? P n=some cs/\DataW.trod (fun _=>()) P w 0 (fun _=>true) false fuel t cs.toList=some (d,p)
 |[],_,_,h=>by cases h
 |(m,e)::l,ps,hl,h=>by
  obtain⟨g,t,cs,fuel,p,q,h1,h2,h3,h4,h5,_⟩:=hl;rcases List.mem_cons.1 h with he|he
  ·cases he
   exact⟨g,t,cs,fuel,p,h1,h2,h3,h4⟩
  ·exact yAe h5 he
theorem mAb {P:Program}{w:World}{fuel:Nat}{t e:TypeId}{n:Nat}{cs:List Value}{ss:List (List UInt8)}{p:List MemPlace}
  (ht:P.underlying t=some (.array n e)) (he:P.underlying e=some .string) (hce:P.cellsOf e=1) (hct:P.cellsOf t=n)
  (h:DataW.trod (fun _=>()) P w 0 (fun _=>true) false fuel t cs=some (.agg (ss.map fun s=> .lit (.string s)),p)):cs=ss.map fun s=>Value.string ⟨s.toArray⟩:=by
 cases fuel with
 |zero=>simp[DataW.trod]at h
 |succ fuel=>
  simp only[DataW.trod,ht,hce,hct,Nat.mul_one]at h
  split at h
  ·obtain⟨xs,hm,hx⟩:=Option.map_eq_some_iff.1 h
   have hxs:xs.map (·.1)=ss.map fun s=>(DataW.lit (.string s):DataW Unit):=by
    have:=congrArg Prod.fst hx
    simpa using this
   have hxl:xs.length=n:=by simpa using Lib.mapM_length hm
   have hzl:ss.length=n:=by
    have:=congrArg List.length hxs;simp at this;omega
   apply List.ext_getElem?
   intro i
   by_cases hi:i<n
   ·obtain⟨b,hb,hf⟩:=Lib.mapM_at hm i i (by simp[hi]);obtain⟨z,hc,rfl,_⟩:=DataW.trod_string he hf
    have h1:cs[i]? =some (.string z):=by
     have:=congrArg (·[0]?) hc
     simpa [List.getElem?_take,List.getElem?_drop] using this
    have h2:(xs.map (·.1))[i]? =some (DataW.lit (.string z.data.toList):DataW Unit):=(by simp[hb]);rw[hxs]at h2;simp only[List.getElem?_map,Option.map_eq_some_iff,DataW.lit.injEq,Lit.string.injEq]at h2;obtain⟨s,hs,rfl⟩:=h2;simp[h1,hs]
   ·rw[List.getElem?_eq_none (by omega),List.getElem?_eq_none (by simp;omega)]
  ·cases h
theorem yAf {P:Program}{w:World}{n:String}{l:List (String×DataW Unit)}{ss:List (List UInt8)}{g:Nat}{t e:TypeId}{m:Nat}
  (hg:P.globalNamed n=some g) (hty:(P.globals[g]?).map (·.type)=some t) (ht:P.underlying t=some (.array m e)) (he:P.underlying e=some .string) (hce:P.cellsOf e=1) (hct:P.cellsOf t=m)
  (h:laidMet P l w) (hin:(n,DataW.agg (ss.map fun s=> .lit (.string s)))∈l):g<w.heap.size/\ ∀i,i<ss.length->w.cell? ⟨g,i,none⟩=some (.string ⟨(ss.getD i []).toArray⟩):=by
 obtain⟨ps,hl,_⟩:=h;obtain⟨g',t',cs,fuel,p,h1,h2,h3,h4⟩:=yAe hl hin;obtain rfl:=Option.some.inj (hg.symm.trans h1);obtain rfl:=Option.some.inj (hty.symm.trans h2);have hcs:=mAb ht he hce hct h4;refine⟨?_,fun i hi=>?_⟩
 ·simp only[World.var?,hg,Option.bind_some]at h3
  split at h3
  ·rename_i hh
   exact(Array.getElem?_eq_some_iff.1 hh).1
  ·cases h3
 ·rw[World.var?_cell hg h3 i];have:cs[i]? =cs.toList[i]? :=by simp
  rw[this,hcs];simp[List.getD,hi]
theorem mAc {l:List (String×DataW Unit)}{w:World}(h:laidMet Tryz.prog l w)(hin:("tillerman/say.words",DataW.agg ((List.range 12).map fun k=> .lit (.string (gD k))))∈l):Words w:=by
 have h2:("tillerman/say.words",DataW.agg (((List.range 12).map gD).map fun s=> .lit (.string s)))∈l:=by
  rw[List.map_map];exact hin
 obtain⟨h3,h4⟩:=yAf (P:=Tryz.prog) (g:=1) (t:=125) (e:=9) (m:=12) (by kernel_rfl) (by kernel_rfl) Tryz.underlying125 Tryz.underlying9 (by kernel_rfl) (by kernel_rfl) h h2;refine⟨h3,fun k hk=>?_⟩;rw[h4 k (by simp;omega)]
 have:((List.range 12).map gD).getD k []=gD k:=by
  simp[List.getD,show k<12 by omega]
 rw[this];rfl
theorem mAd {l:List (String×DataW Unit)}{w:World}(h:laidMet Tryz.prog l w)(hin:("tillerman/say.leads",DataW.agg ((List.range 5).map fun k=> .lit (.string (oW k))))∈l):Leads w:=by
 have h2:("tillerman/say.leads",DataW.agg (((List.range 5).map oW).map fun s=> .lit (.string s)))∈l:=by
  rw[List.map_map];exact hin
 obtain⟨h3,h4⟩:=yAf (P:=Tryz.prog) (g:=0) (t:=103) (e:=9) (m:=5) (by kernel_rfl) (by kernel_rfl) Tryz.underlying103 Tryz.underlying9 (by kernel_rfl) (by kernel_rfl) h h2;refine⟨h3,fun k hk=>?_⟩;rw[h4 k (by simp;omega)]
 have:((List.range 5).map oW).getD k []=oW k:=by
  simp[List.getD,show k<5 by omega]
 rw[this];rfl
theorem mAe {w:World}(h1:Words w)(h2:Leads w):Tabs w w.heap.size:=⟨h1,h2,h1.room,h2.room⟩
end Go.Proofs.YtpbaobmegomfpabGreatDoor
namespace Go.Proofs.YtpbaobmegomfpabGreatDoor
open Go.RowKit Go.ChangeShapes Go.WideShapes Go.Deep Go.Joins
section
variable {H:Type}{enc:TypeId×Value->H}{w:World}{base:Nat}{spare:Nat->Bool}{held:Bool}
theorem mAf {n:Nat}{cs:List Value}{x:DataW H×List MemPlace}(h:DataW.trod enc Tryz.prog w base spare held n 54 cs=some x)(hz: ∀n∈x.1.weights Tryz.prog 54,n<=reachBytes):
  ∃a:Act,cs=[.int .i64 a.kind,.int .i64 a.c,.string a.data]/\a.data.size<=140737488351232:=by
 obtain⟨xs,k,_,rfl,hl,hxl,hf⟩:=DataW.trod_struct Tryz.underlying54 h;rw[show Tryz.prog.cellsOf 54=3 by kernel_rfl]at hl
 match xs,hxl,cs,hl with
 |[y0,y1,y2],_,[c0,c1,c2],_=>
  have ei:Tryz.prog.cellsOf 3=1:=by kernel_rfl
  have es:Tryz.prog.cellsOf 9=1:=by kernel_rfl
  have g0:DataW.trod enc Tryz.prog w base spare held k 3 ((([c0,c1,c2]:List Value).drop 0).take (Tryz.prog.cellsOf 3))=some y0:=hf 0 _ rfl;have g1:DataW.trod enc Tryz.prog w base spare held k 3 ((([c0,c1,c2]:List Value).drop 1).take (Tryz.prog.cellsOf 3))=some y1:=hf 1 _ rfl;have g2:DataW.trod enc Tryz.prog w base spare held k 9 ((([c0,c1,c2]:List Value).drop 2).take (Tryz.prog.cellsOf 9))=some y2:=hf 2 _ rfl;rw[ei]at g0 g1;rw[es]at g2;obtain⟨n0,e0,_,w0⟩:=DataW.trod_int Tryz.underlying3 g0;obtain⟨n1,e1,_,w1⟩:=DataW.trod_int Tryz.underlying3 g1;obtain⟨s2,e2,d2,_⟩:=DataW.trod_string Tryz.underlying9 g2;obtain rfl:c0= .int .i64 n0:=by simpa using e0
  obtain rfl:c1= .int .i64 n1:=by simpa using e1
  obtain rfl:c2= .string s2:=by simpa using e2
  have z2 := hz s2.data.toList.length (by
   simp only[DataW.weights,Tryz.underlying54,List.map_cons,List.map_nil,DataW.weightsEach,List.mem_append,List.not_mem_nil,or_false]
   right
   right
   rw[d2]
   simp [DataW.weights])
  exact⟨⟨n0,n1,s2⟩,rfl,by simpa [reachBytes] using z2⟩
theorem mAg {r:Reach}{b0:Nat}{v:Value}{d:DataW H}{p:List MemPlace}(hv:Value.okWide Tryz.prog w r b0 24 v)(h:DataW.Trod enc Tryz.prog w base spare held 24 v d p)
  (hz: ∀n∈d.weights Tryz.prog 24,n<=reachBytes): ∃l:List Act,ALst w w.heap.size v l:=by
 obtain⟨a0,len0,cap0,rfl⟩:=okWide_slice Tryz.underlying24 hv;obtain⟨fuel,hf⟩:=h;rcases open_slice Tryz.underlying24 hf with⟨hcs,hx⟩|⟨a,len,cap,m,n,D,Pl,hcs,hb,hl,hm,hmm,hx,hi⟩
 ·have hv:(Value.slice a0 len0 cap0)= .slice none 0 0:=by simpa [Value.cells] using hcs
  rw[hv];exact⟨[],⟨none,0,rfl,aI _⟩,by simp,by simp,fun h=>absurd h (by simp)⟩
 ·have hv:(Value.slice a0 len0 cap0)= .slice (some a) len cap:=by simpa [Value.cells] using hcs
  rw[hv];have hlm:len<=m:=by rw[hmm];split<;>omega
  have hd:d= .slice ((List.range len).map D) ((List.range (m-len)).map fun j=>D (len+j)):=by injection hx
  have each: ∀i,i<len-> ∃s:Act,(∀j,j<3->w.cell? (a.add (i*3+j))=[Value.int .i64 s.kind,.int .i64 s.c,.string s.data][j]?)/\s.data.size<=140737488351232:=by
   intro i hil;obtain⟨cs,hc,ht⟩:=hi i (by omega);rw[show Tryz.prog.cellsOf 54=3 by kernel_rfl]at hc;obtain⟨_,_,hcell⟩:=World.cells?_some hc
   obtain ⟨s, rfl, hwf⟩ := mAf ht (fun n hn => hz n (by
    rw[hd];simp only[DataW.weights,Tryz.underlying24,List.mem_cons,List.mem_append]
    exact .inr (.inl (xAv (d := D i) (List.mem_map.2 ⟨i, List.mem_range.2 hil, rfl⟩) hn))))
   refine⟨s,fun j hj=>?_,hwf⟩;have:=hcell j hj
   rwa [Go.Deep.add_add]at this
  have:Inhabited Act:=⟨⟨0,0,⟨#[]⟩⟩⟩;obtain⟨f,hf'⟩:=choose_lt each
  have hby := hz ((len + (m - len)) * 32) (by
   rw[hd];simp only[DataW.weights,Tryz.underlying24,List.mem_cons,dR,List.length_range]
   exact .inl (by rw [show Tryz.prog.bytesOf 54 = 32 by kernel_rfl]))
  have hll:((List.range len).map f).length=len:=by simp
  refine⟨(List.range len).map f,⟨some a,cap,by rw[hll],by rw[hll];exact hl⟩,by rw[hll];unfold reachBytes at hby;omega,fun s hs=>?_,fun hn=>?_⟩
  ·obtain⟨i,hil,rfl⟩:=List.mem_map.1 hs;exact(hf' i (List.mem_range.1 hil)).2
  ·rw[hll]at hn;have h00:=(hf' 0 hn).1 0 (by omega);rw[show a.add (0*3+0)=a from rfl]at h00;have ha:=hAf (h00.trans rfl);refine⟨a.block,a.off,cap,by rw[hll,<-ha],World.block_lt_of_cell? w a (h00.trans rfl),fun i hil=>?_⟩;rw[hll]at hil;have hc:=(hf' i hil).1;rw[ha]at hc;simp only[add_plain]at hc;simp only[List.getElem_map,List.getElem_range];exact⟨hc 0 (by omega),hc 1 (by omega),hc 2 (by omega)⟩
end
end Go.Proofs.YtpbaobmegomfpabGreatDoor
namespace Go.Proofs.YtpbaobmegomfpabGreatDoor
open Go.RowKit
theorem poolRuns.laidFacts {W:World}(h:laidMetH Tryz.prog Rows.poolRunsRow.laid W):Tabs W W.heap.size:=
 mAe (mAc h (by simp[Rows.poolRunsRow,Rows.laid_tillerman_say_words,List.range,List.range.loop,gD])) (mAd h (by simp[Rows.poolRunsRow,Rows.laid_tillerman_say_leads,List.range,List.range.loop,oW]))
def fW (mode srv:Int)(l:List Act):List ByteArray×List iD×PL:=
 if eL mode srv l=0 then(((Mach.start (gA srv.toNat) srv.toNat).run aO mode l).sent,((Mach.start (gA srv.toNat) srv.toNat).run aO mode l).deeds,((Mach.start (gA srv.toNat) srv.toNat).run aO mode l).e.w.rows)else([],[],[])
def rL (er:Int)(S:List ByteArray)(D:List iD)(R:PL)(w:World)(e:Ending)(w':World):Prop:=
 ∃v1 v2 v3,e= .returned (.tuple #[.agg #[v1,v2,v3],.int .i64 er])/\OutV w' v1 v2 v3 S D R/\Below w.heap.size w w'
theorem yAg (w:World):OutV w (.slice none 0 0) (.slice none 0 0) (.slice none 0 0) [] [] []:=
 ⟨⟨⟨none,0,rfl,aI _⟩,by simp,by simp,fun h=>absurd h (by simp)⟩,⟨⟨none,0,rfl,aI _⟩,by simp,fun h=>absurd h (by simp)⟩,Lst.none_ _ _⟩
theorem yAh (mode srv:Int)(v:Value)(l:List Act)(w:World)(hl:ALst w w.heap.size v l)(hT:Tabs w w.heap.size):
  Calls Tryz.prog 7 #[.agg #[.int .i64 mode,.int .i64 srv],v] w (rL (eL mode srv l) (fW mode srv l).1 (fW mode srv l).2.1 (fW mode srv l).2.2 w):=by
 by_cases hE:eL mode srv l=0
 ·refine(fAz mode srv v l w hl hT hE).mono fun e w' h=>?_
  obtain⟨v1,v2,v3,rfl,ho,hb⟩:=h;unfold fW;rw[if_pos hE,hE];exact⟨v1,v2,v3,rfl,ho,hb⟩
 ·refine(dA0 mode srv v l w hl hE).mono fun e w' h=>?_
  obtain⟨rfl,hb⟩:=h;unfold fW;rw[if_neg hE];exact⟨_,_,_,rfl,yAg w',hb⟩
theorem mAh (mode srv:Int)(v:Value)(l:List Act)(w:World)(hl:ALst w w.heap.size v l):
  Calls Tryz.prog 8 #[.agg #[.int .i64 mode,.int .i64 srv],v] w (rL (eL mode srv l) (fW mode srv l).1 (fW mode srv l).2.1 (fW mode srv l).2.2 w):=by
 by_cases hE:eL mode srv l=0
 ·refine(mA8 mode srv v l w hl hE).mono fun e w' h=>?_
  obtain⟨v1,v2,v3,rfl,ho,hb⟩:=h;obtain⟨_,_,hs1,hs4,_,ha⟩:=xR hE;have hp:=hA9 (n:=srv.toNat) (by omega) mode ha;unfold fW;rw[if_pos hE,hE,hp.sent,hp.deeds,hp.rows];exact⟨v1,v2,v3,rfl,ho,hb⟩
 ·refine(bA6 mode srv v l w hl hE).mono fun e w' h=>?_
  obtain⟨rfl,hb⟩:=h;unfold fW;rw[if_neg hE];exact⟨_,_,_,rfl,yAg w',hb⟩
theorem yAi (w:World)(B:Nat):ALst w B (.slice none 0 0) []:=⟨⟨none,0,rfl,aI _⟩,by simp,by simp,fun h=>absurd h (by simp)⟩
theorem mAi {P:Program}{w w':World}{o:Oper}{ev:Operand->Value}(s x:Operand)(t tn:TypeId){vs vx v':Value}(ho:o.op= .call {callee:= .builtin .append,args:=#[s,x],argTypes:=#[t,tn]})(hs:ev s=vs)(hx:ev x=vx)(hr:(Builtin.append_ #[t,tn] o.type #[vs,vx]).run P w= .ok v' w'):
  (execOp ev o).run P w= .ok (.value v') w':=by
 unfold execOp;simp only[ho,resolve,invoke,builtin,Sem.run_bind,Sem.run_pure,Result.andThen_ok,List.map_toArray,List.map_cons,List.map_nil,hs,hx,hr]
def nI (a:Act):List Value:=[.int .i64 a.kind,.int .i64 a.c,.string a.data]
theorem mAj:(Tryz.prog.info? 54).map (fun i=>(i.zero,i.size,i.bytes))=some (some (.agg #[.int .i64 0,.int .i64 0,.string ⟨#[]⟩]),3,32):=by kernel_rfl
theorem yAj (l:List Act):(l.map nI).flatten.length=l.length*3:=by
 induction l with
 |nil=>rfl
 |cons a l ih=>rw[List.map_cons,List.flatten_cons,eN,ih,fC];show 3+_=_;omega
theorem mAk (l:List Act): ∀u∈(l.map nI).flatten,u.oneCell'=true:=fun u hu=>by
 obtain⟨x,hx,hux⟩:=List.mem_flatten.1 hu;obtain⟨a,_,rfl⟩:=List.mem_map.1 hx;unfold nI at hux;simp at hux;rcases hux with rfl|rfl|rfl<;>rfl
theorem yAk {l:List Act}{i j:Nat}(hi:i<l.length)(hj:j<3):(l.map nI).flatten[i*3+j]? =(nI l[i])[j]? :=by
 have:=oZ (d:=l.map nI) (size:=3) (fun e he=>by obtain⟨x,_,rfl⟩:=List.mem_map.1 he;rfl) (i:=i) (by simpa using hi) hj;rw[this,List.getElem_map]
theorem mAl {v:Value}{l:List Act}(w:World)(hl:ALst w w.heap.size v l):
  ∃A c w',(Builtin.append_ #[24,24] 24 #[.slice none 0 0,v]).run Tryz.prog w= .ok (.slice A l.length c) w'/\ALst w' w'.heap.size (.slice A l.length c) l/\Below w.heap.size w w':=by
 obtain⟨i0,hi,hz0,hz1,hz2⟩:=info_parts mAj;obtain⟨A,c,rfl,hc⟩:=hl.form;rcases Nat.eq_zero_or_pos l.length with h0|hpos
 ·obtain rfl:l=[]:=List.eq_nil_of_length_eq_zero h0
  have hs:Src Tryz.prog i0.size 24 (.slice A 0 c) 0 [] w:=by
   cases A with
   |none=>exact Src.ofNil w Tryz.underlying24 c
   |some ad=>exact Src.ofSlice w Tryz.underlying24 ad 0 c [] (by simp) (fun j u hu=>by simp at hu) (fun u hu=>by cases hu)
  have hrun:=run_append_nothing (P:=Tryz.prog) w 24 24 24 54 i0 Tryz.underlying24 hi none 0 0 (aI _) (.slice A 0 c) hs;exact⟨none,0,w,hrun,yAi _ _,aD _ _⟩
 ·obtain⟨b,off,c',e,hb,hcs⟩:=hl.cells hpos;rw[e];have hby:=hl.bytes
  obtain ⟨v', w', hrun, hown, hgr, _⟩ := run_append_own (P := Tryz.prog) w w.heap.size 24 24 54 i0 _ 3 32 Tryz.underlying24 hi hz0 hz1 hz2 rfl (by omega) _ 0 [] (World.ownsRow_nil w w.heap.size 54 3) ⟨b, off, none⟩ l.length c' (l.map nI).flatten (yAj l) (fun j u hu => by
   have hj:=(fN.1 hu).1;rw[yAj]at hj;have hi':j/3<l.length:=by omega
   have hjm:j%3<3:=Nat.mod_lt _ (by omega);have ej:j/3*3+j%3=j:=by omega
   rw[<-ej,yAk hi' hjm]at hu;obtain⟨q0,q1,q2⟩:=hcs (j/3) hi';rw[Addr.add_lit];obtain h|h|h:j%3=0\/j%3=1\/j%3=2:=by omega
   ·rw[h]at hu;injection hu with hu;rw[<-hu,show off+j=off+j/3*3 by omega];exact q0
   ·rw[h]at hu;injection hu with hu;rw[<-hu,show off+j=off+j/3*3+1 by omega];exact q1
   ·rw [h] at hu; injection hu with hu; rw [← hu, show off + j = off + j / 3 * 3 + 2 by omega]; exact q2) (mAk l) (by unfold maxLen; omega) (by omega) (aI _)
  rw[cW,List.nil_append]at hown;obtain⟨b2,cap,rfl,hb1,hb2,hs⟩:=qR hown hpos;obtain⟨b3,o3,cap3,h1,h2,h3,h4⟩:=hs.at hpos;refine⟨some ⟨b2,0,none⟩,cap,w',hrun,⟨⟨_,_,rfl,by injection h2 with _ _ h2;omega⟩,hl.bytes,hl.sizes,fun _=>⟨b2,0,cap,rfl,hb2,fun i hi=>?_⟩⟩,(aD _ _).grown hgr (aI _) (fun k hk=>by cases hk)⟩;injection h2 with h2 _ _;injection h2 with h2;injection h2 with h2a h2b
  have hq: ∀j u,j<3->(nI l[i])[j]? =some u->w'.cell? ⟨b2,0+i*3+j,none⟩=some u:=fun j u hj hu=>by
   rw[<-yAk hi hj]at hu;obtain⟨hlt,hv⟩:=fN.1 hu;have:=h4 (i*3+j) hlt;rw[hv,<-h2a,<-h2b,<-Nat.add_assoc]at this;exact this
  exact⟨hq 0 _ (by omega) rfl,hq 1 _ (by omega) rfl,hq 2 _ (by omega) rfl⟩
theorem mAm (mode srv:Int)(v:Value)(l:List Act)(w:World)(hm:(Lit.int .i64 mode).wf=true)(hs:(Lit.int .i64 srv).wf=true)(hl:ALst w w.heap.size v l)(hT:Tabs w w.heap.size):
  Calls Tryz.prog 3 #[.agg #[.int .i64 mode,.int .i64 srv],v] w fun e w'=>e= .returned (.bool true)/\Below w.heap.size w w':=by
 have HR:Hid (∀(vv:Value) (wc:World),ALst wc wc.heap.size vv l->Below w.heap.size w wc->Calls Tryz.prog 7 #[.agg #[.int .i64 mode,.int .i64 srv],vv] wc (rL (eL mode srv l) (fW mode srv l).1 (fW mode srv l).2.1 (fW mode srv l).2.2 wc)):=aA (fun vv wc h hb=>yAh mode srv vv l wc h ((hT.below hb).up hb.size));have HSC:Hid (∀wc:World,Below w.heap.size w wc->Calls Tryz.prog 8 #[.agg #[.int .i64 mode,.int .i64 srv],v] wc (rL (eL mode srv l) (fW mode srv l).1 (fW mode srv l).2.1 (fW mode srv l).2.2 wc)):=aA (fun wc hb=>mAh mode srv v l wc (hl.step hb))
 obtain⟨S1,D1,R1,h6,HR1⟩: ∃S1 D1 R1,S1.length=6/\Hid (∀wc:World,Below w.heap.size w wc->Calls Tryz.prog 7 #[.agg #[.int .i64 1,.int .i64 1],.slice none 0 0] wc (rL 0 S1 D1 R1 wc)):=
  ⟨(fW 1 1 []).1,(fW 1 1 []).2.1,(fW 1 1 []).2.2,by unfold fW;rw[if_pos (by decide)];rfl,aA (fun wc hb=>yAh 1 1 (.slice none 0 0) [] wc (yAi _ _) ((hT.below hb).up hb.size))⟩
 have hn6:((S1.length:Int) !=6)=false:=by rw[h6];decide
 obtain⟨A,c,rfl,hc⟩:=hl.form;have hby:=hl.bytes;have HL:=aA hl;obtain⟨er,HER⟩: ∃u,Hid (eL mode srv l=u):=⟨_,aA rfl⟩;obtain⟨so,HSO⟩: ∃u,Hid ((fW mode srv l).1=u):=⟨_,aA rfl⟩;obtain⟨de,HDE⟩: ∃u,Hid ((fW mode srv l).2.1=u):=⟨_,aA rfl⟩;obtain⟨ro,HRO⟩: ∃u,Hid ((fW mode srv l).2.2=u):=⟨_,aA rfl⟩;rw[HER.out,HSO.out,HDE.out,HRO.out]at HR HSC;have hee:(er==er)=true:=by simp
 have n0:=(aD w.heap.size w).alloc (aI _) (.cells #[.int .i64 mode,.int .i64 srv] 23);have X0:=RowTo.whole w #[.int .i64 mode,.int .i64 srv] 23;have HB0:=aA n0;have HX0:=aA X0;clear hl hT hm hs n0 X0 HER HSO HDE HRO h6;go_enter Tryz.func3,Tryz.ntmps3;go_wp2_with fail;refine(HR1.out _ HB0.out).mono ?_;rintro e1 w1 ⟨v1,v2,v3,rfl,ho,hb1⟩;obtain⟨A1,c1,rfl,_⟩:=ho.s.form;obtain⟨A2,c2,rfl,_⟩:=ho.d.form;obtain⟨A3,c3,rfl,_⟩:=ho.r.form;have n2:=hb1.alloc hb1.size (.cells #[.slice A1 S1.length c1,.slice A2 D1.length c2,.slice A3 R1.length c3] 29);have X2:=RowTo.whole w1 #[.slice A1 S1.length c1,.slice A2 D1.length c2,.slice A3 R1.length c3] 29;have HX2:=aA (HX0.out.below n2 HX0.out.lt);have HB2:=aA (aR HB0.out n2 HB0.out.size);obtain⟨x0,x1⟩:=bR HX2.out;obtain⟨y0,y1,y2⟩:=bA X2;have hxl:=HX2.out.lt;have hyl:=X2.lt;clear ho hb1 n2 X2 HX0 HB0 HR1;go_wp2_with fail;obtain⟨W2,HW2⟩: ∃u,Hid (w1.alloc (.cells #[.slice A1 S1.length c1,.slice A2 D1.length c2,.slice A3 R1.length c3] 29)=u):=⟨_,aA rfl⟩;rw[HW2.out]at HX2 HB2 x0 x1 hxl ⊢;clear HW2 y0 y1 y2 hyl;have HL2:=aA (HL.out.step HB2.out);refine mJ 9 [6] [] [] [(0,25),(1,26),(2,27),(3,28),(4,24),(5,29),(6,30),(7,7)] [[],[],[(1,26)],[(0,25),(2,27)],[(3,28)],[(4,24)],[(4,24)],[]] (fun i v wv=>match i with|0=>v= .agg #[.int .i64 mode,.int .i64 srv]|1=>v= .slice A l.length c|2=> ∃A' c',v= .slice A' l.length c'/\ALst wv wv.heap.size (.slice A' l.length c') l|3=> ∃v1 v2 v3,v= .tuple #[.agg #[v1,v2,v3],.int .i64 er]/\OutV wv v1 v2 v3 so de ro|4=> ∃v1 v2 v3,v= .tuple #[.agg #[v1,v2,v3],.int .i64 er]/\OutV wv v1 v2 v3 so de ro|5=> ∃v1 v2 v3,v= .agg #[v1,v2,v3]/\OutV wv v1 v2 v3 so de ro|6=>v= .int .i64 er|7=> ∃b,v= .pointer (some ⟨b,0,none⟩)/\W2.heap.size<=b/\RowTo wv b 29 3 [.slice none 0 0,.slice none 0 0,.slice none 0 0]|_=>True) (fun _ w w'=>Below w.heap.size w w') (fun wc=>Below W2.heap.size W2 wc) 2 (by kernel_rfl) (by rfl) (by kernel_rfl) (fun _ _ _ _ _ h=>h) (aD _ _).drew (fun _ _=>aD _ _) ?pfmo (fun k w w' h hb=>bU h hb) ?pfob ?pfof ?pffi
 case pfmo=>
  intro k i v w w' hk1 hk2 hk3 h hb;rcases i with _|_|_|_|_|_|_|_|i
  ·exact h
  ·exact h
  ·obtain⟨A',c',e,ha⟩:=h;exact⟨A',c',e,ha.step hb⟩
  ·obtain⟨v1,v2,v3,e,ho⟩:=h;exact⟨v1,v2,v3,e,ho.step hb⟩
  ·obtain⟨v1,v2,v3,e,ho⟩:=h;exact⟨v1,v2,v3,e,ho.step hb⟩
  ·obtain⟨v1,v2,v3,e,ho⟩:=h;exact⟨v1,v2,v3,e,ho.step hb⟩
  ·exact h
  ·obtain⟨b,e,l,hr⟩:=h;exact⟨b,e,l,hr.below hb hr.lt⟩
  ·exact h
 case pfob=>
  intro i hi hnf vals wc hR hV;rcases i with _|_|_|_|_|_|_|_|i
  ·clear hV hnf hi;have x0':=(hR.cell (p:=⟨w.heap.size,0,none⟩) hxl).trans x0;have x1':=(hR.cell (p:=⟨w.heap.size,1,none⟩) hxl).trans x1;refine⟨_,rfl,Or.inl ⟨by rfl,Or.inl ⟨.agg #[.int .i64 mode,.int .i64 srv],wc,?_,rfl,(aD _ _)⟩⟩⟩
   (try simp only[aN,aT,aS,aQ,aH,aG,aF])
   go_simp
   try rfl
  ·clear hV hnf hi;refine⟨_,rfl,Or.inl ⟨by rfl,Or.inl ⟨.slice A l.length c,wc,?_,rfl,(aD _ _)⟩⟩⟩
   (try simp only[aN,aT,aS,aQ,aH,aG,aF])
   go_simp
   try rfl
  ·have h1:(vals 1)= .slice A l.length c:=hV (1,26) (by decide);clear hV hnf hi;obtain⟨A',c',w',hrun,ha,hb⟩:=mAl wc (HL2.out.step hR);refine⟨_,rfl,Or.inl ⟨by rfl,Or.inl ⟨.slice A' l.length c',w',?_,⟨A',c',rfl,ha⟩,hb⟩⟩⟩;exact mAi _ _ _ _ rfl rfl (by(try simp only[aN,aT,aS,aQ,aH,aG,aF,h1]);rfl) hrun
  ·have h0:(vals 0)= .agg #[.int .i64 mode,.int .i64 srv]:=hV (0,25) (by decide);have h2: ∃A' c',(vals 2)= .slice A' l.length c'/\ALst wc wc.heap.size (.slice A' l.length c') l:=hV (2,27) (by decide);clear hV hnf hi;obtain⟨A',c',e2,ha⟩:=h2;refine⟨_,rfl,Or.inl ⟨by rfl,Or.inr ⟨7,#[.agg #[.int .i64 mode,.int .i64 srv],.slice A' l.length c'],?_,?_⟩⟩⟩
   ·(try simp only[aN,aT,aS,aQ,aH,aG,aF,h0,e2])
    go_simp
    try rfl
   ·refine(HR.out _ wc ha (HB2.out.trans (hR.mono HB2.out.size))).mono ?_;rintro e w3 ⟨v1,v2,v3,rfl,ho,hb⟩;exact⟨_,rfl,⟨v1,v2,v3,rfl,ho⟩,hb⟩
  ·have h3: ∃v1 v2 v3,(vals 3)= .tuple #[.agg #[v1,v2,v3],.int .i64 er]/\OutV wc v1 v2 v3 so de ro:=hV (3,28) (by decide);clear hV hnf hi;obtain⟨v1,v2,v3,e3,ho⟩:=h3;refine⟨_,rfl,Or.inl ⟨by rfl,Or.inl ⟨.tuple #[.agg #[v1,v2,v3],.int .i64 er],wc,?_,⟨v1,v2,v3,rfl,ho⟩,(aD _ _)⟩⟩⟩
   (try simp only[aN,aT,aS,aQ,aH,aG,aF,e3])
   go_simp
   try rfl
  ·have h4: ∃v1 v2 v3,(vals 4)= .tuple #[.agg #[v1,v2,v3],.int .i64 er]/\OutV wc v1 v2 v3 so de ro:=hV (4,24) (by decide);clear hV hnf hi;obtain⟨v1,v2,v3,e4,ho⟩:=h4;refine⟨_,rfl,Or.inl ⟨by rfl,Or.inl ⟨.agg #[v1,v2,v3],wc,?_,⟨v1,v2,v3,rfl,ho⟩,(aD _ _)⟩⟩⟩
   (try simp only[aN,aT,aS,aQ,aH,aG,aF,e4])
   go_simp
   try rfl
  ·exact absurd (by decide) hnf
  ·clear hV hnf hi;refine⟨_,rfl,Or.inl ⟨by rfl,Or.inl ⟨.pointer (some ⟨wc.heap.size,0,none⟩),wc.alloc (.cells #[.slice none 0 0,.slice none 0 0,.slice none 0 0] 29),?_,⟨_,rfl,hR.size,RowTo.whole wc _ _⟩,(aD _ _).alloc (aI _) _⟩⟩⟩
   (try simp only[aN,aT,aS,aQ,aH,aG,aF])
   go_simp
   try rfl
  ·exact absurd hi (by simp)
 case pfof=>
  intro i hi vals wc hR hV;obtain rfl:=List.mem_singleton.1 hi
  ·have h4: ∃v1 v2 v3,(vals 4)= .tuple #[.agg #[v1,v2,v3],.int .i64 er]/\OutV wc v1 v2 v3 so de ro:=hV (4,24) (by decide);clear hV hi;obtain⟨v1,v2,v3,e4,ho⟩:=h4;refine⟨_,.int .i64 er,rfl,by rfl,fun w'=>?_,rfl⟩
   (try simp only[aN,aT,aS,aQ,aH,aG,aF,e4])
   go_simp
   try rfl
 case pffi=>
  intro vals wf hR hV;have hS:=True.intro;have f5: ∃v1 v2 v3,(vals 5)= .agg #[v1,v2,v3]/\OutV wf v1 v2 v3 so de ro:=hV 5 (by decide) (fun k hk=>by simp at hk);have f6:(vals 6)= .int .i64 er:=hV 6 (by decide) (fun k hk=>by simp at hk);have f7: ∃b,(vals 7)= .pointer (some ⟨b,0,none⟩)/\W2.heap.size<=b/\RowTo wf b 29 3 [.slice none 0 0,.slice none 0 0,.slice none 0 0]:=hV 7 (by decide) (fun k hk=>by simp at hk);clear hV;obtain⟨v1,v2,v3,e5,hO⟩:=f5;obtain⟨b,e7,hlo,hY0⟩:=f7;obtain⟨B1,b1,rfl,_⟩:=hO.s.form;obtain⟨B2,b2,rfl,_⟩:=hO.d.form;obtain⟨B3,b3,rfl,_⟩:=hO.r.form
  (try simp only[aN,aT,aS,aQ,aH,aG,aF,e5,e7,f6])
  obtain⟨r0,r1,r2⟩:=bA hY0;have g0:=hY0.frozen 0;have g1:=hY0.frozen 1;have g2:=hY0.frozen 2;have hbl:=hY0.lt;have H8:=aA (aJ (hO.off3 hY0 (.slice B1 so.length b1) (.slice B2 de.length b2) (.slice B3 ro.length b3)) (aJ (hY0.set3 (.slice B1 so.length b1) (.slice B2 de.length b2) (.slice B3 ro.length b3)) (mE hR hlo (.slice B1 so.length b1) (.slice B2 de.length b2) (.slice B3 ro.length b3))));clear hO hY0 hR hlo e5 e7 f6;refine cK (i:=8) (fun K hK=>?_)
  (try simp only[aE,aB,aC])
  go_simp;have hS2:=True.intro;refine hK.out _ _ hS2 ?_;clear hK K hS;have hS:=hS2;clear hS2
  (try simp only[aE,aB,aC,aQ,aH,aG,aF])
  obtain⟨W8,HW8⟩: ∃u,Hid ((((wf.setCell ⟨b,0,none⟩ (.slice B1 so.length b1)).setCell ⟨b,1,none⟩ (.slice B2 de.length b2)).setCell ⟨b,2,none⟩ (.slice B3 ro.length b3))=u):=⟨_,aA rfl⟩;rw[HW8.out]at H8 ⊢;clear HW8 r0 r1 r2 g0 g1 g2 hbl;refine bY (fun K hK=>?_)
  (try simp only[aE,aB,aC])
  go_simp;refine hK.out _ _ ?_;clear hK K
  (try simp only[aE,aB,aC,aQ,aH,aG,aF])
  have HX8:=aA (HX2.out.below H8.out.2.2 HX2.out.lt);have HB8:=aA (aR HB2.out H8.out.2.2 HB2.out.size);obtain⟨x0,x1⟩:=bR HX8.out;have hxl:=HX8.out.lt;clear HX2 HB2 HL2 HL;go_wp2_with fail;refine(HSC.out _ HB8.out).mono ?_;rintro e1 w9 ⟨u1,u2,u3,rfl,ho,hb9⟩;obtain⟨E1,e1,rfl,_⟩:=ho.s.form;obtain⟨E2,e2,rfl,_⟩:=ho.d.form;obtain⟨E3,e3,rfl,_⟩:=ho.r.form;have n9:=(aD w9.heap.size w9).alloc (aI _) (.cells #[.slice E1 so.length e1,.slice E2 de.length e2,.slice E3 ro.length e3] 29);have X9:=RowTo.whole w9 #[.slice E1 so.length e1,.slice E2 de.length e2,.slice E3 ro.length e3] 29;have hb10:=aR hb9 n9 hb9.size;obtain⟨y0,y1,y2⟩:=bA (H8.out.2.1.below hb10 H8.out.2.1.lt);have hyl:=bD H8.out.2.1.lt hb10.size;obtain⟨z0,z1,z2⟩:=bA X9;have hzl:=X9.lt;have HSM:=aA (mAa _ _ _ _ _ _ so de ro _ (H8.out.1.step hb10) (ho.step n9));have HB10:=aA (aR HB8.out hb10 HB8.out.size);clear ho hb9 n9 X9 hb10 H8 HX8 HB8 HSC x0 x1 hxl;go_wp2_with fail;refine HSM.out.mono ?_;rintro e w10 ⟨rfl,hb11⟩;have HF:=aA (aR HB10.out hb11 HB10.out.size);clear hb11 HSM y0 y1 y2 z0 z1 z2;go_wp2;go_ret;exact⟨rfl,HF.out⟩
end Go.Proofs.YtpbaobmegomfpabGreatDoor

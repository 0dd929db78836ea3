/-
  Texts of the proof.
-/
import Derived.Test.YtpbaobmegomfpabGreatDoorG22
set_option linter.unusedVariables false
set_option linter.unusedSimpArgs false
set_option maxRecDepth 100000
set_option maxHeartbeats 16000000
open List renaming getElem_toArray→aE,getElem_cons_zero→aB,getElem_cons_succ→aC,setIfInBounds_toArray→aH,set_cons_zero→aG,set_cons_succ→aF,getD_cons_zero→aS,getD_cons_succ→aT,getElem?_eq_getElem→dP,getD_eq_getElem?_getD→eU,take_succ_eq_append_getElem→gO,length_map→dR,take_of_length_le→jR
open Nat renaming le_refl→aI,lt_of_lt_of_le→bD,le_trans→bL
open Go.Lib renaming hid→aA
open Go.RowKit.Below renaming refl→aD
open Go.World renaming cell?_of_block→aV
open And renaming intro→aJ
open Go.Act renaming put→aQ
open Bool renaming and_eq_true→eB
open Go renaming bodyPost_ret→bE
namespace Go.Proofs.YtpbaobmegomfpabGreatDoor
open Go.RowKit
theorem bAs:(Tryz.prog.info? 94).map (fun i=>(i.zero,i.size,i.bytes))=some (some (.agg #[.string ⟨#[]⟩,.slice none 0 0,.int .i64 0,.string ⟨#[]⟩]),4,64):=by kernel_rfl
theorem bAt (w:World):(Instr.makeSlice 89 (.int .i64 6) (.int .i64 6)).run Tryz.prog w= .ok (.slice (some ⟨w.heap.size,0,none⟩) 6 6) (w.alloc (.cells (madeCells #[.string ⟨#[]⟩,.slice none 0 0,.int .i64 0,.string ⟨#[]⟩] 24) 94)):=by
 obtain⟨i0,hi,hz0,hz1,hz2⟩:=info_parts bAs;have hr:=run_make (P:=Tryz.prog) w 89 94 i0 _ Tryz.underlying89 hi hz0 .i64 .i64 6 6 (by omega) (Int.le_refl _) (by rw[hz2];omega) (by omega);rw[hz1]at hr;exact hr
theorem bAu (w:World):(Instr.makeSlice 37 (.int .i64 6) (.int .i64 6)).run Tryz.prog w= .ok (.slice (some ⟨w.heap.size,0,none⟩) 6 6) (w.alloc (.cells (madeCells #[.int .i64 0,.slice none 0 0,.slice none 0 0,.slice none 0 0,.slice none 0 0] 30) 115)):=wJ 6 (by omega) w
theorem bAv (mode:Int)(n:Int)(a:Nat):Tryz.prog.built 91 [(0,.agg #[.int .i64 mode,.int .i64 n]),(2,.slice (some ⟨a,0,none⟩) 6 6)]=some #[.int .i64 mode,.int .i64 n,.slice none 0 0,.slice none 0 0,.slice (some ⟨a,0,none⟩) 6 6,.slice none 0 0,.slice none 0 0,.slice none 0 0]:=by kernel_rfl
theorem bAw {ev:Operand->Value}{o:Oper}{x y:Operand}{mode n:Int}{a:Nat}(ho:o.op= .build 91 #[(0,x),(2,y)])(hx:ev x= .agg #[.int .i64 mode,.int .i64 n])(hy:ev y= .slice (some ⟨a,0,none⟩) 6 6)(w:World):
  (execOp ev o).run Tryz.prog w= .ok (.value (.agg #[.int .i64 mode,.int .i64 n,.slice none 0 0,.slice none 0 0,.slice (some ⟨a,0,none⟩) 6 6,.slice none 0 0,.slice none 0 0,.slice none 0 0])) w:=by
 have h:=run_build (P:=Tryz.prog) w 91 #[(0,.agg #[.int .i64 mode,.int .i64 n]),(2,.slice (some ⟨a,0,none⟩) 6 6)] _ (bAv mode n a);unfold execOp;simp only[ho,Sem.run_bind,Sem.run_pure,List.map_toArray,List.map_cons,List.map_nil,hx,hy,h,Result.andThen_ok]
def uU (mode srv:Int)(A:Nat)(j:Nat):Value:=[Value.int .i64 mode,.int .i64 srv,.slice none 0 0,.slice none 0 0,.slice (some ⟨A,0,none⟩) 6 6,.slice none 0 0,.slice none 0 0,.slice none 0 0].getD j (.int .i64 0)
theorem FRow.congr {w:World}{P t n:Nat}{f f':Nat->Value}(h:FRow w P t n f)(e: ∀j,j<n->f j=f' j):FRow w P t n f':=by
 obtain⟨cur,hh,hs,hc⟩:=h;exact⟨cur,hh,hs,fun j hj=>by rw[<-e j hj];exact hc j hj⟩
theorem bAx (w:World):FRow (w.alloc (.cells (madeCells #[.string ⟨#[]⟩,.slice none 0 0,.int .i64 0,.string ⟨#[]⟩] 24) 94)) w.heap.size 94 24 gZ:=by
 refine FRow.new w _ _ (by simp[madeCells]) gZ fun j hj=>?_
 rw[bA4 _ _ _ hj];unfold gZ;have h4:j%4<4:=Nat.mod_lt _ (by omega);show some (#[Value.string ⟨#[]⟩,.slice none 0 0,.int .i64 0,.string ⟨#[]⟩][j%4]!)=_;obtain e|e|e|e:j%4=0\/j%4=1\/j%4=2\/j%4=3:=by omega
 all_goals (rw[e];rfl)
theorem bAy (w:World)(mode srv:Int)(A:Nat):FRow (w.alloc (.cells #[.int .i64 mode,.int .i64 srv,.slice none 0 0,.slice none 0 0,.slice (some ⟨A,0,none⟩) 6 6,.slice none 0 0,.slice none 0 0,.slice none 0 0] 91)) w.heap.size 91 8 (uU mode srv A):=by
 refine FRow.new (n:=8) w _ _ rfl _ fun j hj=>?_
 obtain rfl|rfl|rfl|rfl|rfl|rfl|rfl|rfl:j=0\/j=1\/j=2\/j=3\/j=4\/j=5\/j=6\/j=7:=by omega
 all_goals rfl
theorem bAz {w:World}{base H A:Nat}{mode srv:Int}(hH:FRow w H 91 8 (uU mode srv A))(hA:FRow w A 94 24 gZ)(h1:H≠A)(l1:base<=H)(l2:base<=A):
  HMem 0 ((w.alloc (.cells (madeCells #[.int .i64 0,.slice none 0 0,.slice none 0 0,.slice none 0 0,.slice none 0 0] 30) 115)).setCell ⟨H,3,none⟩ (.slice (some ⟨w.heap.size,0,none⟩) 6 6)) base H A w.heap.size (uO mode srv A w.heap.size) gZ (pV H A w.heap.size) mode (jI 0) (fun _=>[]) []:=by
 have hHl:=hH.lt;have hAl:=hA.lt;have n1:=(aD w.heap.size w).alloc (aI _) (.cells (madeCells #[.int .i64 0,.slice none 0 0,.slice none 0 0,.slice none 0 0,.slice none 0 0] 30) 115);have hS:=RowTo.whole w (madeCells #[.int .i64 0,.slice none 0 0,.slice none 0 0,.slice none 0 0,.slice none 0 0] 30) 115;rw[wC]at hS;refine HMem.start (((hH.same (n1.block H hHl)).set 3 _).congr fun j hj=>?_) ((hA.same (n1.block A hAl)).same (cM _ H 3 _ A (fun e=>h1 e.symm))) (hS.other (p:=⟨H,3,none⟩) (by show H≠_;omega) _) h1 (by omega) (by omega) l1 l2 (by omega);obtain rfl|rfl|rfl|rfl|rfl|rfl|rfl|rfl:j=0\/j=1\/j=2\/j=3\/j=4\/j=5\/j=6\/j=7:=by omega
 all_goals rfl
def pY (w3:World)(H A S:Nat)(mode:Int)(N:Nat)(m:Mach Wd)(wr:World):Prop:=
 ∃f g G q ow,HMem 0 wr w3.heap.size H A S f g G mode m q ow/\HRel m q ow/\HInv mode m N/\m.busy.length<=8/\Below w3.heap.size w3 wr
def yM (w3:World)(H A S:Nat)(mode:Int)(N c:Nat)(Q:Mach Wd)(gg:Nat)(wr:World):Prop:=
 ∃m1 n,(m1.get c).bytes.size<=gg/\(m1.get c).bytes.size<n/\m1.feed bC mode n c=Q/\pY w3 H A S mode N m1 wr
def mA0 (w:World)(m:Mach Wd)(e:Ending)(w':World):Prop:= ∃v1 v2 v3,e= .returned (.tuple #[.agg #[v1,v2,v3],.int .i64 0])/\OutV w' v1 v2 v3 m.sent m.deeds m.e.rows/\Below w.heap.size w w'
theorem mA1 {m:Mach Wd}{c:Nat}(hc:c<m.cl.length)(b:ByteArray)(wt:List Req):(m.setB c b).set c {(m.setB c b).get c with wait:=wt}=m.set c {m.get c with bytes:=b,wait:=wt}:=by
 rw[oE hc,if_pos rfl];unfold Mach.setB Mach.set;simp
theorem mA2 {w3 W:World}{H A S:Nat}{mode:Int}{N c nn j:Nat}{Q m5:Mach Wd}{f g:Nat->Value}{G:Nat->Option Nat}{q5:Nat->List Ask}{ow5:List Int}{a:Ask}{kk:UInt8}{t bs:ByteArray}(hn6:m5.cl.length=6)(hc:c<6)(hbs:(m5.get c).bytes=bs)(hA:a.req=fK kk t/\(a.ok=true->a.r.ok))
  (hfd:(m5.set c {m5.get c with bytes:=(m5.get c).bytes.extract j (m5.get c).bytes.size,wait:=(m5.get c).wait++[fK kk t]}).feed bC mode nn c=Q)
  (hI:HInv mode (m5.set c {m5.get c with bytes:=(m5.get c).bytes.extract j (m5.get c).bytes.size,wait:=(m5.get c).wait++[fK kk t]}) N) (hR:HRel m5 q5 ow5) (hb8:m5.busy.length<=8) (hsz:(bs.extract j bs.size).size<nn)
  (hM:HMem 0 W w3.heap.size H A S f g G mode ((m5.setB c (bs.extract j bs.size)).set c {(m5.setB c (bs.extract j bs.size)).get c with wait:=(m5.get c).wait++[a.req]}) (aL q5 c (q5 c++[a])) ow5) (hB:Below w3.heap.size w3 W):
  yM w3 H A S mode N c Q (bs.extract j bs.size).size W:=by
 have hcl:c<m5.cl.length:=by omega
 rw[mA1 hcl,hA.1,<-hbs]at hM;rw[<-hbs]at hsz ⊢;refine⟨_,nn,?_,?_,hfd,_,_,_,_,_,hM,?_,hI,hb8,hB⟩
 ·rw[cZ hcl,if_pos rfl];exact aI _
 ·rw[cZ hcl,if_pos rfl];exact hsz
 ·refine hR.turn hc hn6 ?_ fun x hx hxo=>?_
  ·show(m5.get c).wait++[fK kk t]=_;rw[hR.wait c hc,List.map_append,<-hA.1];rfl
  ·rcases List.mem_append.1 hx with hx|hx
   ·exact hR.good c hc x hx hxo
   ·rw[List.mem_singleton]at hx;subst hx;exact hA.2 hxo
theorem mA3 (k:Int)(key val:ByteArray)(ok:Bool):Tryz.prog.built 100 [(0,.agg #[.int .i64 k,.string key,.string val]),(1,.bool ok)]=some #[.int .i64 k,.string key,.string val,.bool ok]:=by kernel_rfl
theorem mA4 {ev:Operand->Value}{o:Oper}{x y:Operand}{k:Int}{key val:ByteArray}{ok:Bool}(ho:o.op= .build 100 #[(0,x),(1,y)])(hx:ev x= .agg #[.int .i64 k,.string key,.string val])(hy:ev y= .bool ok)(w:World):
  (execOp ev o).run Tryz.prog w= .ok (.value (.agg #[.int .i64 k,.string key,.string val,.bool ok])) w:=by
 have h:=run_build (P:=Tryz.prog) w 100 #[(0,.agg #[.int .i64 k,.string key,.string val]),(1,.bool ok)] _ (mA3 k key val ok);unfold execOp;simp only[ho,Sem.run_bind,Sem.run_pure,List.map_toArray,List.map_cons,List.map_nil,hx,hy,h,Result.andThen_ok]
theorem mA5 {ev:Operand->Value}{o:Oper}{x:Operand}{k:Int}{key val:ByteArray}{ok:Bool}(ho:o.op= .buildSlice 92 1 #[(0,x)])(hx:ev x= .agg #[.int .i64 k,.string key,.string val,.bool ok])(w:World):
  (execOp ev o).run Tryz.prog w= .ok (.value (.slice (some ⟨w.heap.size,0,none⟩) 1 1)) (w.alloc (.cells #[.int .i64 k,.string key,.string val,.bool ok] 100)):=by
 unfold execOp;simp only[ho,Sem.run_bind,Sem.run_pure,List.map_toArray,List.map_cons,List.map_nil,hx];go_simp
theorem Only.trans2 {P:Nat}{w w1 w2:World}(h:Only P w w1)(h2: ∀b,b<w.heap.size->b≠P->w2.heap[b]? =w1.heap[b]?)(hs:w1.heap.size<=w2.heap.size):Only P w w2:=⟨bL h.1 hs,fun b hb hne=>(h2 b hb hne).trans (h.2 b hb hne)⟩
theorem mA6 {w:World}{B R:Nat}{v:Value}{l:PL}(h:Lst w B v l)(hR:RowTo w R 29 3 [.slice none 0 0,.slice none 0 0,.slice none 0 0]):InP (fun b=>b≠R) v l:=fun hn b off n c e hb=>by
 obtain⟨b',off',c',e',_,hc⟩:=h.cells hn;rw[e']at e;injection e with e;injection e with e;injection e with e;have hu:=(hc 0 hn).1;rw[e,hb]at hu;obtain⟨cur,hh,hz,ht⟩:=hR;have ec:w.cell? ⟨R,off'+0*2,none⟩=cur[off'+0*2]? :=by unfold World.cell?;simp only[hh];rfl
 rw[ec]at hu;have ht':cur.toList=[.slice none 0 0,.slice none 0 0,.slice none 0 0]:=by rw[<-ht];exact(jR (by simp[hz])).symm
 rw[<-Array.getElem?_toList,ht']at hu;generalize off'+0*2=i at hu
 match i,hu with
 |0,hu=>cases hu
 |1,hu=>cases hu
 |2,hu=>cases hu
 |n+3,hu=>simp at hu
def yN (wa W:World)(R:Nat)(v2 v3:Value)(sent:List ByteArray)(k:Nat)(wi:World):Prop:=
 ∃vs gs,RowTo wi R 29 3 [vs,v2,v3]/\Sl wi 9 1 vs gs k ((sent.take k).map Value.string)/\(∀b,gs=some b->W.heap.size<=b)/\Only R W wi/\Below wa.heap.size wa wi
theorem mA7 {wa W wi wc:World}{R k ad:Nat}{v2 v3 vs:Value}{gs:Option Nat}{sent:List ByteArray}(hX:RowTo wi R 29 3 [vs,v2,v3])(hs:Sl wi 9 1 vs gs k ((sent.take k).map Value.string))(hg: ∀b,gs=some b->W.heap.size<=b)(ho:Only R W wi)(hb:Below wa.heap.size wa wi)
  (hRl:wa.heap.size<=R) (hRW:R<W.heap.size) (hWa:wa.heap.size<=W.heap.size) (hk:k<sent.length) (hk6:k<=1000) (hbc:Below wi.heap.size wi wc) (hx:wc.cell? ⟨ad,0,none⟩=some (.string sent[k])):
  ∃b off cap w',(Builtin.append_ #[25,25] 25 #[vs,.slice (some ⟨ad,0,none⟩) 1 1]).run Tryz.prog wc= .ok (.slice (some ⟨b,off,none⟩) (k+1) cap) w'/\w'.cell? ⟨R,0,none⟩=some vs/\w'.frozen? ⟨R,0,none⟩=false/\R<w'.heap.size/\yN wa W R v2 v3 sent (k+1) (w'.setCell ⟨R,0,none⟩ (.slice (some ⟨b,off,none⟩) (k+1) cap)):=by
 obtain⟨i0,hi,hz0,hz1,hz2⟩:=info_parts xAe;have hXc:=hX.below hbc hX.lt
 obtain ⟨b, off, cap, w', hrun, hs2, hg2, hb2⟩ := (hs.below hbc).append (P := Tryz.prog) 25 25 i0 _ 16 Tryz.underlying25 hi hz0 hz1 hz2 rfl (by omega) ⟨ad, 0, none⟩ 1 [.string sent[k]] rfl (fun j u hu => by
  cases j with
  |zero=>simp at hu;rw[<-hu];exact hx
  | succ j => simp at hu) (fun u hu => by simp at hu; rw [hu]; rfl) (by unfold maxLen; omega) (by omega)
 have hne: ∀x,x<W.heap.size->some x≠gs:=fun x hx e=>by have:=hg x e.symm;omega
 have hRb:=hg2.block R hXc.lt (hne R hRW);have hbW:W.heap.size<=b:=hb2.elim (fun h=>hg b h) (fun h=>by have:=ho.1;have:=hbc.size;omega);have hXw:=hXc.same hRb;have c0:=hXw.cell (j:=0) (by simp);have htk:(sent.take (k+1)).map Value.string=(sent.take k).map Value.string++[.string sent[k]]:=by rw[gO hk,List.map_append];rfl
 have hOw:Only R W w':=(ho.trans (Only.below hbc)).trans2 (fun x hx hxR=>hg2.block x (bD hx (bL ho.1 hbc.size)) (hne x hx)) hg2.size;refine⟨b,off,cap,w',hrun,c0,hXw.frozen 0,hXw.lt,.slice (some ⟨b,off,none⟩) (k+1) cap,some b,hXw.put (j:=0) (by simp) _,?_,fun x hx=>by injection hx with hx;omega,hOw.set 0 _,?_⟩
 ·rw[htk];exact hs2.keep fun x hx=>cM w' R 0 _ x (by injection hx with hx;omega)
 ·exact((hb.trans (hbc.mono hb.size)).grown hg2 (bL hb.size hbc.size) (fun x hx=>bL hWa (hg x hx))).setCell (p:=⟨R,0,none⟩) hRl _
theorem mA8 (mode srv:Int)(v:Value)(l:List Act)(w:World)(hl:ALst w w.heap.size v l)(hE:eL mode srv l=0):
  Calls Tryz.prog 8 #[.agg #[.int .i64 mode,.int .i64 srv],v] w (mA0 w ((Mach.start jO srv.toNat).run bC mode l)):=by
 obtain⟨hm1,hm3,hs1,hs4,hl300,hacts⟩:=xR hE;obtain⟨n,hn⟩: ∃n:Nat,srv=n:=⟨srv.toNat,by omega⟩;subst hn;rw[Int.toNat_natCast];have hn8:n<=8:=by omega
 have hs0:dY mode (n:Int)=0:=by unfold dY;rw[if_neg (by omega),if_neg (by omega)]
 have n0:=((aD w.heap.size w).alloc (aI _) (.cells #[.int .i64 mode,.int .i64 (n:Int)] 23)).alloc (by simp) (.cells #[.slice none 0 0,.slice none 0 0,.slice none 0 0] 29);have X1:=(RowTo.whole w #[.int .i64 mode,.int .i64 (n:Int)] 23).alloc (.cells #[.slice none 0 0,.slice none 0 0,.slice none 0 0] 29);have X2:=RowTo.whole (w.alloc (.cells #[.int .i64 mode,.int .i64 (n:Int)] 23)) #[.slice none 0 0,.slice none 0 0,.slice none 0 0] 29;simp only[World.size_alloc]at X2;obtain⟨x0,x1⟩:=bR X1;have HSF:=aA (fun wc=>xAx mode (n:Int) wc);obtain⟨Al,cAl,rfl,hcAl⟩:=hl.form;have hby:=hl.bytes;have HL:=aA (hl.step n0);have HX:=aA (aJ X1 X2);have HN0:=aA n0;have hz0:((w.alloc (.cells #[.int .i64 mode,.int .i64 (n:Int)] 23)).alloc (.cells #[.slice none 0 0,.slice none 0 0,.slice none 0 0] 29)).heap.size=w.heap.size+1+1:=by simp
 have hXs:=X1;have HAC:=aA hacts;rw[hs0]at HSF;have t3:decide (300<(l.length:Int))=false:=aY (by omega);have hacA: ∀k (hk:k<l.length),dZ l[k]=0:=fun k hk=>xT hacts hk
 have HAA:=aA hacA;clear hl n0 X1 X2 hE hs0 hacts hacA hm1 hm3 hXs;go_enter Tryz.func8,Tryz.ntmps8;go_wp2_with fail;refine(HSF.out _).mono ?_;rintro e w1 ⟨rfl,hb1⟩;have hX2:=HX.out.2.below hb1 HX.out.2.lt;have hbw:=aR HN0.out hb1 HN0.out.size;have hX1:=HX.out.1.below hb1 HX.out.1.lt;have HX2:=aA (aJ hX2 (aJ hX1 hbw));have HL1:=aA (HL.out.step hb1);have hsz1:w.heap.size+1+1<=w1.heap.size:=by have:=hb1.size;omega
 clear hb1 HSF HX HN0 x0 x1 hz0 hX1 hX2 hbw HL;go_wp2_with fail
 go_loopw [6,7] (fun e i wr=> ∃k:Nat,k<=l.length/\i= .int .i64 k/\e= .int .i64 0/\w1=wr) (fun _ i _=>l.length-(intOf i).toNat)
 case atStart=>exact⟨0,by omega,rfl,rfl,rfl⟩
 case round=>
  obtain⟨k,hk,rfl,rfl,rfl⟩:=hrel
  by_cases hlt:k<l.length
  ·obtain⟨b,off,rfl,hb,d0,d1,d2⟩:=HL1.out.pt hlt;have hkI:(k:Int)<(l.length:Int):=by omega
   obtain⟨hk1,hc0,hc6,hd⟩:=tQ (HAA.out k hlt);generalize l[k]=x at*;obtain⟨kd,cl,da⟩:=x;simp only at d0 d1 d2 hk1 hc0 hc6 hd;have q1:(decide (1<=kd)&&decide (kd<=2))=true:=by rw[eB,decide_eq_true_eq,decide_eq_true_eq];omega
   have q2:(decide (0<=cl)&&decide (cl<=5))=true:=by rw[eB,decide_eq_true_eq,decide_eq_true_eq];omega
   have q3:decide (1000<(da.size:Int))=false:=aY (by omega);clear hk1 hc0 hc6 hd;go_wp2_with fail;refine(jH kd 1 2 _).mono ?_;rw[q1];rintro e w2 ⟨rfl,rfl⟩;go_wp2_with fail;refine(jH cl 0 5 _).mono ?_;rw[q2];rintro e w2 ⟨rfl,rfl⟩;go_wp2;go_roundw
   case rel=>exact⟨k+1,by omega,by go_num,by trivial,by trivial⟩
   case measure=>simp[intOf];omega
  ·obtain rfl:k=l.length:=by omega
   clear hlt hk;obtain⟨y0,y1⟩:=bR HX2.out.2.1;have hUl:=HX2.out.2.1.lt;have hmk:=bAt;go_wp2_with fail;refine mJ 4 [] [] [] [(0,65),(1,66),(2,67),(3,68)] [[],[],[(0,65),(1,66)],[(2,67)]] (fun i v wv=>match i with|0=>v= .agg #[.int .i64 mode,.int .i64 (n:Int)]|1=> ∃b,v= .slice (some ⟨b,0,none⟩) 6 6/\FRow wv b 94 24 gZ/\w1.heap.size<=b|2=> ∃b,v= .agg #[.int .i64 mode,.int .i64 (n:Int),.slice none 0 0,.slice none 0 0,.slice (some ⟨b,0,none⟩) 6 6,.slice none 0 0,.slice none 0 0,.slice none 0 0]/\FRow wv b 94 24 gZ/\w1.heap.size<=b|3=> ∃H A,v= .pointer (some ⟨H,0,none⟩)/\FRow wv H 91 8 (uU mode (n:Int) A)/\FRow wv A 94 24 gZ/\H≠A/\w1.heap.size<=H/\w1.heap.size<=A|_=>True) (fun _ w w'=>Below w.heap.size w w') (fun wc=>Below w1.heap.size w1 wc) 1 (by kernel_rfl) (by rfl) (by kernel_rfl) (fun _ _ _ _ _ h=>h) (aD _ _).drew (fun _ _=>aD _ _) ?pamo (fun k w w' h hb=>bU h hb) ?paob ?paof ?pafi
   case pamo=>
    intro k i v w w' hk1 hk2 hk3 h hb;rcases i with _|_|_|_|i
    ·exact h
    ·obtain⟨b,e,hA,l⟩:=h;exact⟨b,e,hA.same (hb.block b hA.lt),l⟩
    ·obtain⟨b,e,hA,l⟩:=h;exact⟨b,e,hA.same (hb.block b hA.lt),l⟩
    ·obtain⟨H,A,e,hH,hA,h3,l1,l2⟩:=h;exact⟨H,A,e,hH.same (hb.block H hH.lt),hA.same (hb.block A hA.lt),h3,l1,l2⟩
    ·exact h
   case paob=>
    intro i hi hnf vals wc hR hV;rcases i with _|_|_|_|i
    ·clear hV hnf hi;have y0':=(hR.cell (p:=⟨w.heap.size,0,none⟩) hUl).trans y0;have y1':=(hR.cell (p:=⟨w.heap.size,1,none⟩) hUl).trans y1;refine⟨_,rfl,Or.inl ⟨by rfl,Or.inl ⟨.agg #[.int .i64 mode,.int .i64 (n:Int)],wc,?_,rfl,(aD _ _)⟩⟩⟩
     (try simp only[aN,aT,aS,aQ,aH,aG,aF])
     go_simp
     try rfl
    ·clear hV hnf hi;refine⟨_,rfl,Or.inl ⟨by rfl,Or.inl ⟨.slice (some ⟨wc.heap.size,0,none⟩) 6 6,wc.alloc (.cells (madeCells #[.string ⟨#[]⟩,.slice none 0 0,.int .i64 0,.string ⟨#[]⟩] 24) 94),?_,⟨_,rfl,bAx wc,hR.size⟩,(aD _ _).alloc (aI _) _⟩⟩⟩
     (try simp only[aN,aT,aS,aQ,aH,aG,aF])
     go_simp
     try rfl
    ·have h0:(vals 0)= .agg #[.int .i64 mode,.int .i64 (n:Int)]:=hV (0,65) (by decide);have h1: ∃b,(vals 1)= .slice (some ⟨b,0,none⟩) 6 6/\FRow wc b 94 24 gZ/\w1.heap.size<=b:=hV (1,66) (by decide);clear hV hnf hi;obtain⟨b,e1,hA,lA⟩:=h1;refine⟨_,rfl,Or.inl ⟨by rfl,Or.inl ⟨.agg #[.int .i64 mode,.int .i64 (n:Int),.slice none 0 0,.slice none 0 0,.slice (some ⟨b,0,none⟩) 6 6,.slice none 0 0,.slice none 0 0,.slice none 0 0],wc,?_,⟨b,rfl,hA,lA⟩,(aD _ _)⟩⟩⟩;exact bAw rfl (by(try simp only[aN,aT,aS,aQ,aH,aG,aF,h0,e1]);rfl) (by(try simp only[aN,aT,aS,aQ,aH,aG,aF,h0,e1]);rfl) wc
    ·have h2: ∃b,(vals 2)= .agg #[.int .i64 mode,.int .i64 (n:Int),.slice none 0 0,.slice none 0 0,.slice (some ⟨b,0,none⟩) 6 6,.slice none 0 0,.slice none 0 0,.slice none 0 0]/\FRow wc b 94 24 gZ/\w1.heap.size<=b:=hV (2,67) (by decide);clear hV hnf hi;obtain⟨b,e2,hA,lA⟩:=h2;refine⟨_,rfl,Or.inl ⟨by rfl,Or.inl ⟨.pointer (some ⟨wc.heap.size,0,none⟩),wc.alloc (.cells #[.int .i64 mode,.int .i64 (n:Int),.slice none 0 0,.slice none 0 0,.slice (some ⟨b,0,none⟩) 6 6,.slice none 0 0,.slice none 0 0,.slice none 0 0] 91),?_,⟨_,b,rfl,bAy wc mode n b,hA.same (Below.heap_alloc _ _ _ hA.lt),(by have:=hA.lt;omega),hR.size,lA⟩,(aD _ _).alloc (aI _) _⟩⟩⟩
     (try simp only[aN,aT,aS,aQ,aH,aG,aF,e2])
     go_simp
     try rfl
    ·exact absurd hi (by simp)
   case paof=>
    intro i hi;cases hi
   case pafi=>
    intro vals wf hR hV;have hS:=True.intro;have f3: ∃H A,(vals 3)= .pointer (some ⟨H,0,none⟩)/\FRow wf H 91 8 (uU mode (n:Int) A)/\FRow wf A 94 24 gZ/\H≠A/\w1.heap.size<=H/\w1.heap.size<=A:=hV 3 (by decide) (fun k hk=>by simp at hk);clear hV;obtain⟨H,A,e3,hH,hA,hHA,lH,lA⟩:=f3
    (try simp only[aN,aT,aS,aQ,aH,aG,aF,e3])
    refine bY (fun K hK=>?_)
    (try simp only[aE,aB,aC])
    go_simp;refine hK.out _ _ ?_;clear hK K
    (try simp only[aE,aB,aC,aQ,aH,aG,aF])
    have hHl:=hH.lt;have hAl:=hA.lt;have hH3:=hH.cell (j:=3) (by omega);have hz3:=hH.frozen 3;have hH3':wf.cell? ⟨H,3,none⟩=some (.slice none 0 0):=hH3;have hM0:=bAz hH hA hHA lH lA;have hb5:=(hR.alloc hR.size (.cells (madeCells #[.int .i64 0,.slice none 0 0,.slice none 0 0,.slice none 0 0,.slice none 0 0] 30) 115)).setCell (p:=⟨H,3,none⟩) lH (.slice (some ⟨wf.heap.size,0,none⟩) 6 6);have H0:=aA (aJ hM0 hb5);have hmk2:=bAu;clear hM0 hb5 hH hA hHA hH3 hR y0 y1 e3 hmk;go_wp2_with fail;obtain⟨S,HS⟩: ∃u,Hid (wf.heap.size=u):=⟨_,aA rfl⟩;rw[HS.out]at H0 ⊢;rw[World.setCell_alloc_past _ _ _ _ hHl]at H0;obtain⟨W5,HW5⟩: ∃u,Hid ((wf.setCell ⟨H,3,none⟩ (.slice (some ⟨S,0,none⟩) 6 6)).alloc (.cells (madeCells #[.int .i64 0,.slice none 0 0,.slice none 0 0,.slice none 0 0,.slice none 0 0] 30) 115)=u):=⟨_,aA rfl⟩;rw[HW5.out]at H0 ⊢;clear HW5 HS hH3' hz3 hHl hAl hmk2
    go_loopw [9] (fun i wi=> ∃k:Nat,k<=n/\i= .int .i64 k/\Hid ((∃f G,HMem 0 wi w1.heap.size H A S f gZ G mode (jI 0) (fun _=>[]) (List.replicate k (-1)))/\Below w1.heap.size w1 wi)) (fun i _=>n-(intOf i).toNat)
    case atStart=>exact⟨0,by omega,rfl,⟨_,_,H0.out.1⟩,H0.out.2⟩
    case round=>
     obtain⟨k,hk,rfl,HZ⟩:=hrel;obtain⟨⟨f2,G2,hM⟩,hB⟩:=HZ.out;have y1:=(hB.cell (p:=⟨w.heap.size,1,none⟩) hUl).trans (bR HX2.out.2.1).2;have hUr:=bD hUl hB.size;have hHl:=hM.h.lt
     by_cases hlt:k<n
     ·have hkI:(k:Int)<(n:Int):=(by omega);have n1:=(aD wr.heap.size wr).alloc (aI _) (.cells #[.int .i64 (-1)] 3);have X:=(RowTo.whole wr #[.int .i64 (-1)] 3).cell (j:=0) (by simp);obtain⟨b,off,cap,w2,hrun,u0,z0,hH2,hM2,hB2⟩:=(hM.below n1).ownRun (n:=k) (by simp) (by omega) (ad:=wr.heap.size) (-1) X;have h5:=hM.h.cell (j:=5) (by omega);have h51:=(n1.cell (p:=⟨H,5,none⟩) hHl).trans h5;have HF:=aA (aJ (show∃f G,HMem 0 _ w1.heap.size H A S f gZ G mode (jI 0) (fun _=>[]) (List.replicate (k+1) (-1))from⟨_,_,by rw[List.replicate_succ'];exact hM2⟩) (hB.trans ((n1.mono hM.bH.2.2).trans hB2)));obtain⟨A',c',hv,_⟩:=hM.ownSl.shape;rw[List.length_replicate]at hv;rw[hv]at hrun u0 h5 h51;clear hM hB hM2 hB2 n1 X hv HZ H0;go_wp2_with (at_builtin;refine Lib.wpList_append_run _ rfl _ _ _ _ rfl _ _ rfl rfl _ _ hrun ?_);go_roundw
      case rel=>exact⟨k+1,by omega,by go_num,HF.out⟩
      case measure=>simp[intOf];omega
     ·obtain rfl:n=k:=(by omega);have HM5:=aA (aJ hM hB);clear hM hB HZ H0 hlt hk;go_wp2_with fail
      go_loopw [10] (fun i wj=> ∃k:Nat,k<=6/\i= .int .i64 k/\Hid ((∃g,HMem 0 wj w1.heap.size H A S f2 g G2 mode (jI k) (fun _=>[]) (List.replicate n (-1)))/\Below w1.heap.size w1 wj)) (fun i _=>6-(intOf i).toNat)
      case atStart=>exact⟨0,by omega,rfl,⟨_,HM5.out.1⟩,HM5.out.2⟩
      case round=>
       obtain⟨j,hj,rfl,HZ⟩:=hrel;obtain⟨⟨g3,hM⟩,hB⟩:=HZ.out;have hHl:=hM.h.lt;have hAl:=hM.a.lt;have h4:wr.cell? ⟨H,4,none⟩=some (.slice (some ⟨A,0,none⟩) 6 6):=by rw[hM.h.cell (by omega),hM.f4]
       by_cases hlt:j<6
       ·have hjI:(j:Int)<6:=(by omega);have ga:=hM.a.cell (j:=j*4+2) (by omega);have gf:=hM.a.frozen (j*4+2);have hM2:=hM.setSrv hlt (bA1 (by omega)) none;rw[bA2 hlt]at hM2;have HF:=aA (aJ (show∃g,HMem 0 _ w1.heap.size H A S f2 g G2 mode (jI (j+1)) (fun _=>[]) (List.replicate n (-1))from⟨_,hM2⟩) (hB.setCell (p:=⟨A,j*4+2,none⟩) hM.bH.2.1 (.int .i64 (-1))));clear hM2 hM hB HZ;go_wp2_with fail;go_roundw
        case rel=>exact⟨j+1,by omega,by go_num,HF.out⟩
        case measure=>simp[intOf];omega
       ·obtain rfl:j=6:=(by omega);have hS0:Hid (pY w1 H A S mode 0 (Mach.start jO n) wr):=aA ⟨_,_,_,_,_,by rw[<-bA3 n];exact hM.busy (List.replicate n false),HRel.start n,HInv.start hn8,by simp[Mach.start];omega,hB⟩;clear hM hB HZ HM5 hHl hAl h4 hlt hj;obtain⟨m0,Hm0⟩: ∃u,Hid (Mach.start jO n=u):=⟨_,aA rfl⟩;rw[Hm0.out]at hS0;clear y1 hUr;rw[show((6:Nat):Int)=6 from rfl];go_wp2_with fail
        go_loopw [11,12,13,14,15,16,17,18] (fun i _ _ _ _ _ _ _ wi=> ∃k:Nat,k<=l.length/\i= .int .i64 k/\Hid (pY w1 H A S mode (1000*k) (m0.run bC mode (l.take k)) wi)) (fun i _ _ _ _ _ _ _ _=>l.length-(intOf i).toNat)
        case atStart=>exact⟨0,by omega,rfl,hS0.out⟩
        case round=>
         obtain⟨k,hk,rfl,HZ⟩:=hrel;clear hS0
         by_cases hlt:k<l.length
         ·obtain⟨f3,g3,G3,q3,ow3,hM,hR,hI,hb8,hB⟩:=HZ.out;obtain⟨b,off,rfl,hbl,c0,c1,c2⟩:=(HL1.out.step hB).pt hlt;have hkI:(k:Int)<(l.length:Int):=(by omega);obtain⟨hk1,hc0,hc6,hd⟩:=tQ (HAA.out k hlt);obtain⟨c,hc⟩: ∃c:Nat,l[k].c=c:=⟨l[k].c.toNat,by omega⟩;have hc6':c<6:=(by omega);have hcI:(c:Int)<6:=(by omega);have HNX:=aA (show m0.run bC mode (l.take (k+1))=(m0.run bC mode (l.take k)).act bC mode l[k]from cAu hlt);have hct:l[k].c.toNat=c:=(by omega);obtain⟨m3,HM3⟩: ∃u,Hid (m0.run bC mode (l.take k)=u):=⟨_,aA rfl⟩;rw[HM3.out]at HNX hM hR hI hb8;rw[hc]at c1;have hN3:1000*k+1000<=300000:=(by omega);have hN4:1000*k+1000<=1000*(k+1):=(by omega);obtain⟨m4,HM4⟩: ∃u,Hid (m0.run bC mode (l.take (k+1))=u):=⟨_,aA rfl⟩;rw[HM4.out]at HNX;unfold Mach.act at HNX;rw[hct]at HNX;have hda:l[k].data.size<=1000:=hd;obtain⟨da,HDA⟩: ∃u,Hid (l[k].data=u):=⟨_,aA rfl⟩;rw[HDA.out]at c2 hda HNX;obtain⟨kd,HKD⟩: ∃u,Hid (l[k].kind=u):=⟨_,aA rfl⟩;rw[HKD.out]at c0 hk1 HNX;have h4:wr.cell? ⟨H,4,none⟩=some (.slice (some ⟨A,0,none⟩) 6 6):=(by rw[hM.h.cell (by omega),hM.f4]);have hHl:=hM.h.lt;have hAl:=hM.a.lt;have HO:=aA (aJ hM (aJ hR (aJ hI (aJ hb8 hB))));clear hM hR hI hb8 hB hc0 hc6 hd hc hct HDA HKD HZ hk;rcases hk1 with rfl|rfl
          ·obtain⟨Q,HQ⟩: ∃u,Hid (m3.deliver bC mode c da=u):=⟨_,aA rfl⟩;have HE:=aA (show m4=Q.all bC mode by rw[HNX.out,if_pos rfl,HQ.out]);clear HNX;have ga:=HO.out.1.a.cell (j:=c*4) (by omega);rw[HO.out.1.bytes c hc6']at ga;have hb0:=(HO.out.2.2.1.waits (by omega) c).2;obtain⟨b0,HB0⟩: ∃u,Hid ((m3.get c).bytes=u):=⟨_,aA rfl⟩;rw[HB0.out]at ga hb0;have hsum:=fun W=>run_string_add_sum (P:=Tryz.prog) W b0 da (by omega)
           have hbr:=hbl;go_wp2_with fail;refine fV 21 [(0,119),(1,120),(2,121),(3,122),(4,123),(5,124),(6,125),(7,126),(8,127),(9,128),(10,129),(11,130),(12,131),(13,132),(14,133),(15,134),(16,135),(17,136),(18,137),(19,138),(20,139)] [[],[(0,119)],[(1,120)],[(2,121)],[],[],[(5,124)],[(6,125)],[(7,126)],[],[(8,127),(9,128)],[(10,129)],[(11,130)],[],[],[(13,132),(14,133)],[(15,134)],[(16,135)],[(12,131),(17,136)],[(3,122),(4,123)],[(19,138)]] [.pointer (some ⟨H,0,none⟩),.pointer (some ⟨H,0,none⟩),.pointer (some ⟨H,4,none⟩),.slice (some ⟨A,0,none⟩) 6 6,.int .i64 c,.pointer (some ⟨H,0,none⟩),.pointer (some ⟨H,0,none⟩),.pointer (some ⟨H,4,none⟩),.slice (some ⟨A,0,none⟩) 6 6,.int .i64 c,.pointer (some ⟨A,c*4,none⟩),.pointer (some ⟨A,c*4,none⟩),.string b0,.slice (some ⟨b,off,none⟩) l.length cAl,.int .i64 k,.pointer (some ⟨b,off+k*3,none⟩),.pointer (some ⟨b,off+k*3+2,none⟩),.string da,.string (b0++da),.pointer (some ⟨A,c*4,none⟩),.pointer (some ⟨A,c*4,none⟩)] (fun _ w w'=>Below w.heap.size w w') (fun wc=>Below wr.heap.size wr wc) 1 (by kernel_rfl) (by rfl) (by kernel_rfl) (fun _ _ _ _ _ h=>h) (aD _ _).drew (fun _ _=>aD _ _) (fun k w w' h hb=>bU h hb) ?pbob ?pbfi
           case pbob=>
            intro i hi wc hR;have h4':=(hR.cell (p:=⟨H,4,none⟩) hHl).trans h4;have ga':=(hR.cell (p:=⟨A,c*4,none⟩) hAl).trans ga;have c2':=(hR.cell (p:=⟨b,off+k*3+2,none⟩) hbl).trans c2;rcases i with _|_|_|_|_|_|_|_|_|_|_|_|_|_|_|_|_|_|_|_|_|i
            all_goals (first|contradiction|exact fU|exact absurd hi (by simp))
           case pbfi=>
            intro wf hR;have hS:=True.intro
            (try simp only[aN,aT,aS,aQ,aH,aG,aF])
            have hM:=HO.out.1.below hR;have hbs:=hM.a.cell (j:=c*4) (by omega);have gf:=hM.a.frozen (c*4);rw[hM.bytes c hc6',HB0.out]at hbs;have hAl':=hM.a.lt;have hMb:=hM.setBy hc6' HO.out.2.2.1.n6 (b0++da);have hcl:c<m3.cl.length:=(by rw[HO.out.2.2.1.n6];exact hc6');have hIb:HInv mode (m3.setB c (b0++da)) (1000*k+1000):=(by have:=HO.out.2.2.1.bytes hc6' da;rw[HB0.out]at this;exact this.mono (by omega));have hbase:=HO.out.1.bH.2.2;have HI0:=aA (show yM w1 H A S mode (1000*k+1000) c Q (b0.size+da.size) (wf.setCell ⟨A,c*4,none⟩ (.string (b0++da)))from⟨m3.setB c (b0++da),b0.size+da.size+1,by rw[oE hcl,if_pos rfl];simp[ByteArray.size_append],by rw[oE hcl,if_pos rfl];simp[ByteArray.size_append],by rw[<-HQ.out];unfold Mach.deliver Mach.setB;rw[HB0.out],_,_,_,_,_,hMb,HO.out.2.1.setB hcl _,hIb,HO.out.2.2.2.1,(HO.out.2.2.2.2.trans (hR.mono hbase)).setCell (p:=⟨A,c*4,none⟩) HO.out.1.bH.2.1 _⟩);clear hM hMb hIb hR h4 ga c2 hHl hAl hbase hsum;refine bY (fun K hK=>?_)
            (try simp only[aE,aB,aC])
            go_simp;refine hK.out _ _ ?_;clear hK K
            (try simp only[aE,aB,aC,aQ,aH,aG,aF])
            clear hbs gf hAl';obtain⟨W7,HW7⟩: ∃u,Hid (wf.setCell ⟨A,c*4,none⟩ (.string (b0++da))=u):=⟨_,aA rfl⟩;rw[HW7.out]at HI0 ⊢;clear HW7;obtain⟨gs,HGS⟩: ∃u,Hid (b0.size+da.size=u):=⟨_,aA rfl⟩;rw[HGS.out]at HI0;clear HGS HO HB0 hb0;go_wp2_with fail
            go_loopg [13] gs (fun gg v wi=>v= .bool false/\Hid (yM w1 H A S mode (1000*k+1000) c Q gg wi))
            case atStart=>exact⟨rfl,HI0.out⟩
            case round=>
             obtain⟨rfl,hrel⟩:=hrel;obtain⟨m5,nn,hgg,hnn,hfd,f5,g5,G5,q5,ow5,hM,hR,hI,hb8,hB⟩:=hrel.out;clear hrel HI0;obtain⟨nn,rfl⟩: ∃j,nn=j+1:=⟨nn-1,by omega⟩;have hwN:=(hI.waits hN3 c).2;have HU:=aA (fun wc=>cAz (m5.get c).bytes wc (by unfold maxLen;omega));have h4:wr.cell? ⟨H,4,none⟩=some (.slice (some ⟨A,0,none⟩) 6 6):=(by rw[hM.h.cell (by omega),hM.f4]);have hHl:=hM.h.lt;have hAl:=hM.a.lt;have ga:=hM.a.cell (j:=c*4) (by omega);rw[hM.bytes c hc6']at ga;have hcl:c<m5.cl.length:=(by rw[hI.n6];exact hc6');have HO:=aA (aJ hM (aJ hR (aJ hI (aJ hb8 hB))));clear hM hR hI hb8 hB
             cases hp:pull (m5.get c).bytes with
             |none=>
              have hfe:m5=Q:=(cAr (n:=nn) (mode:=mode) (o:=bC) hp).symm.trans hfd;subst hfe;have hV:kC (m5.get c).bytes= .tuple #[.int .u8 0,.string ⟨#[]⟩,.int .i64 0]:=(by unfold kC;rw[hp]);rw[hV]at HU;clear hfd hV hgg hnn hp hwN;generalize(m5.get c).bytes=bs at*;go_wp2_with fail;refine(HU.out _).mono ?_;rintro e w8 ⟨rfl,hb⟩;have HON:=aA (uS w8 (HO.out.1.below hb) HO.out.2.2.1 hN3 HO.out.2.1 HO.out.2.2.2.1);have HB8:=aA (HO.out.2.2.2.2.trans (hb.mono HO.out.1.bH.2.2));clear hb HU ga h4 hHl hAl;go_wp2_with fail;refine HON.out.mono ?_;rintro e w9 ⟨q9,ow9,⟨f9,g9,G9,rfl,hM9,hB9⟩,hR9⟩;have HF:=aA (show pY w1 H A S mode (1000*(k+1)) m4 w9 from by rw[HE.out];exact⟨f9,g9,G9,q9,ow9,hM9,hR9,HO.out.2.2.1.all.mono hN4,by rw[pG];exact HO.out.2.2.2.1,HB8.out.trans hB9⟩);clear hM9 hB9 hR9 HON;go_wp2_with fail;go_roundw
              case rel=>exact⟨k+1,by omega,by go_num,by rw[HM4.out];exact HF.out⟩
              case measure=>simp[intOf];omega
             |some pr=>
              obtain⟨kk,t,j⟩:=pr;have hj:=xH hp;have hV:kC (m5.get c).bytes= .tuple #[.int .u8 kk.toNat,.string t,.int .i64 (j:Int)]:=(by unfold kC;rw[hp]);rw[hV]at HU;have hj0:((j:Int)==0)=false:=bJ.2 (by omega);have HP:=aA hp;have HFD:=aA hfd;have HGN:=aA (aJ hgg hnn);obtain⟨bs,HBS⟩: ∃u,Hid ((m5.get c).bytes=u):=⟨_,aA rfl⟩;rw[HBS.out]at HU ga hj hwN HP HGN;have hjI:(j:Int)<=(bs.size:Int):=(by omega);have hjt:(j:Int).toNat=j:=(by omega);clear hfd hV hgg hnn hp;go_wp2_with fail;refine(HU.out _).mono ?_;rintro e w8 ⟨rfl,hb⟩;have HM8:=aA (aJ (HO.out.1.below hb) (HO.out.2.2.2.2.trans (hb.mono HO.out.1.bH.2.2)));have h4:=(hb.cell (p:=⟨H,4,none⟩) hHl).trans h4;have ga:=(hb.cell (p:=⟨A,c*4,none⟩) hAl).trans ga;have hHl:=HM8.out.1.h.lt;have hAl:=HM8.out.1.a.lt;clear hb HU;go_wp2_with fail;refine fV 17 [(0,157),(1,158),(2,159),(3,160),(4,161),(5,162),(6,163),(7,164),(8,165),(9,166),(10,167),(11,168),(12,169),(13,170),(14,171),(15,172),(16,173)] [[],[(0,157)],[(1,158)],[(2,159)],[],[],[(5,162)],[(6,163)],[(7,164)],[],[(8,165),(9,166)],[(10,167)],[(11,168)],[],[(12,169),(13,170)],[(3,160),(4,161)],[(15,172)]] [.pointer (some ⟨H,0,none⟩),.pointer (some ⟨H,0,none⟩),.pointer (some ⟨H,4,none⟩),.slice (some ⟨A,0,none⟩) 6 6,.int .i64 c,.pointer (some ⟨H,0,none⟩),.pointer (some ⟨H,0,none⟩),.pointer (some ⟨H,4,none⟩),.slice (some ⟨A,0,none⟩) 6 6,.int .i64 c,.pointer (some ⟨A,c*4,none⟩),.pointer (some ⟨A,c*4,none⟩),.string bs,.int .i64 j,.string (bs.extract j bs.size),.pointer (some ⟨A,c*4,none⟩),.pointer (some ⟨A,c*4,none⟩)] (fun _ w w'=>Below w.heap.size w w') (fun wc=>Below w8.heap.size w8 wc) 1 (by kernel_rfl) (by rfl) (by kernel_rfl) (fun _ _ _ _ _ h=>h) (aD _ _).drew (fun _ _=>aD _ _) (fun k w w' h hb=>bU h hb) ?pcob ?pcfi
              case pcob=>
               intro i hi wc hR;have h4':=(hR.cell (p:=⟨H,4,none⟩) hHl).trans h4;have ga':=(hR.cell (p:=⟨A,c*4,none⟩) hAl).trans ga;rcases i with _|_|_|_|_|_|_|_|_|_|_|_|_|_|_|_|_|i
               all_goals (first|contradiction|exact fU|exact absurd hi (by simp))
              case pcfi=>
               intro wf hR;have hS:=True.intro
               (try simp only[aN,aT,aS,aQ,aH,aG,aF])
               have hM:=HM8.out.1.below hR;have hbs:=hM.a.cell (j:=c*4) (by omega);have gf:=hM.a.frozen (c*4);rw[hM.bytes c hc6',HBS.out]at hbs;have hAl':=hM.a.lt;have hMb:=hM.setBy hc6' HO.out.2.2.1.n6 (bs.extract j bs.size);have hIb:=HO.out.2.2.1.cutB hc6' (b:=bs.extract j bs.size) (by rw[HBS.out,tU];omega);have HC:=aA (aJ hMb (aJ (HO.out.2.1.setB hcl (bs.extract j bs.size)) (aJ hIb ((HM8.out.2.trans (hR.mono HM8.out.1.bH.2.2)).setCell (p:=⟨A,c*4,none⟩) HO.out.1.bH.2.1 (.string (bs.extract j bs.size))))));clear hM hMb hIb hR h4 ga hHl hAl;refine bY (fun K hK=>?_)
               (try simp only[aE,aB,aC])
               go_simp;refine hK.out _ _ ?_;clear hK K
               (try simp only[aE,aB,aC,aQ,aH,aG,aF])
               clear hbs gf hAl' HM8;obtain⟨W9,HW9⟩: ∃u,Hid (wf.setCell ⟨A,c*4,none⟩ (.string (bs.extract j bs.size))=u):=⟨_,aA rfl⟩;rw[HW9.out]at HC ⊢;clear HW9
               by_cases hkk:kk=88
               case pos=>
                subst hkk;have hk8:(((88:UInt8).toNat:Int)==88)=true:=(by decide);have HFE:=aA (show((m5.setB c (bs.extract j bs.size)).all bC mode).leave bC c=Q from(cAq hcl _).trans ((cAs (n:=nn) (by rw[HBS.out];exact HP.out)).symm.trans HFD.out));have HON:=aA (uS W9 HC.out.1 HC.out.2.2.1 hN3 HC.out.2.1 HO.out.2.2.2.1);clear HP HFD HGN hj hwN;go_wp2_with fail;refine HON.out.mono ?_;rintro e w10 ⟨qa,owa,⟨fa,ga,Ga,rfl,hMa,hBa⟩,hRa⟩;have HL:=aA (yAd _ hMa HC.out.2.2.1.all hN3 hRa c hc6');have HBa:=aA (HC.out.2.2.2.trans hBa);clear hMa hBa hRa HON;go_wp2_with fail;refine HL.out.mono ?_;rintro e w11 ⟨qb,owb,⟨fb,gb,Gb,rfl,hMb,hBb⟩,hRb⟩;rw[HFE.out]at hMb hRb;have hIQ:HInv mode Q (1000*k+1000):=(by rw[<-HFE.out];exact HC.out.2.2.1.all.leave hc6');have hbQ:Q.busy.length<=8:=(by rw[<-HFE.out,pH,pG];exact HO.out.2.2.2.1);have HON:=aA (uS w11 hMb hIQ hN3 hRb hbQ);have HBb:=aA (HBa.out.trans hBb);clear hMb hBb hRb HL;go_wp2_with fail;refine HON.out.mono ?_;rintro e w12 ⟨q9,ow9,⟨f9,g9,G9,rfl,hM9,hB9⟩,hR9⟩;have HF:=aA (show pY w1 H A S mode (1000*(k+1)) m4 w12 from by rw[HE.out];exact⟨f9,g9,G9,q9,ow9,hM9,hR9,hIQ.all.mono hN4,by rw[pG];exact hbQ,HBb.out.trans hB9⟩);clear hM9 hB9 hR9 HON;go_wp2_with fail;go_roundw
                case rel=>exact⟨k+1,by omega,by go_num,by rw[HM4.out];exact HF.out⟩
                case measure=>simp[intOf];omega
               have hk8:((kk.toNat:Int)==88)=false:=bJ.2 (fun e=>hkk (UInt8.toNat_inj.1 (by show kk.toNat=88;omega)));have HFR:=aA ((cAt (n:=nn) (mode:=mode) (o:=bC) (by rw[HBS.out];exact HP.out) hkk).symm.trans HFD.out);have HIP:=aA (HO.out.2.2.1.pull hc6' (by rw[HBS.out];exact HP.out));have HST:=aA (fun wc=>cAy kk t wc);have HAQ:=aA (aJ (cAv kk t) (cAw kk t));have hok:=cAx kk t;obtain⟨a,HA⟩: ∃u,Hid (kD kk t=u):=⟨_,aA rfl⟩;rw[HA.out]at HST HAQ hok;obtain⟨er,HER⟩: ∃u,Hid (dI t=u):=⟨_,aA rfl⟩;rw[HER.out]at HST hok;have hext:(bs.extract j bs.size).size<nn/\(bs.extract j bs.size).size<gk:=(by rw[tU];have:=HGN.out;omega);clear hkk HP HFD HGN HA HER;go_wp2_with fail;refine(HST.out _).mono ?_;rintro e w10 ⟨rfl,hb⟩;have n1:=hb.alloc hb.size (.cells #[.int .i64 a.r.k,.string a.r.key,.string a.r.val] 41);have X:=RowTo.whole w10 #[.int .i64 a.r.k,.string a.r.key,.string a.r.val] 41;have HM10:=aA (aJ (HC.out.1.below n1) (aJ (HC.out.2.2.2.trans (n1.mono HC.out.1.bH.2.2)) X));have hZn:=aA hb.size;clear n1 X hb HST;go_wp2_with fail;obtain⟨Z,HZZ⟩: ∃u,Hid (w10.heap.size=u):=⟨_,aA rfl⟩;rw[HZZ.out]at HM10 hZn ⊢;obtain⟨W10,HW10⟩: ∃u,Hid (w10.alloc (.cells #[.int .i64 a.r.k,.string a.r.key,.string a.r.val] 41)=u):=⟨_,aA rfl⟩;rw[HW10.out]at HM10 ⊢;have h4:W10.cell? ⟨H,4,none⟩=some (.slice (some ⟨A,0,none⟩) 6 6):=(by rw[HM10.out.1.h.cell (by omega),HM10.out.1.f4]);have ga:=HM10.out.1.a.cell (j:=c*4+1) (by omega);obtain⟨x0,x1,x2⟩:=bA HM10.out.2.2;have hHl:=HM10.out.1.h.lt;have hAl:=HM10.out.1.a.lt;have hZl:=HM10.out.2.2.lt;have hZH:Z≠H:=fun e=>(by have:=HC.out.1.h.lt;have:=hZn.out;omega);have hZA:Z≠A:=fun e=>(by have:=HC.out.1.a.lt;have:=hZn.out;omega);clear HW10 HZZ;obtain⟨Aw,cw,hwv,_⟩:=(HM10.out.1.waitSl hc6').shape;rw[hwv]at ga;have HWV:=aA hwv;have hql:(q5 c).length<=300000:=(by have:=(HO.out.2.2.1.waits hN3 c).1;rw[HO.out.2.1.wait c hc6',dR]at this;exact this);obtain⟨nq,HNQ⟩: ∃u,Hid ((q5 c).length=u):=⟨_,aA rfl⟩;rw[HNQ.out]at ga;clear hwv
               have hor:(((kk.toNat:Int)==81)=true/\Hid ((er==0)=a.ok))\/(((kk.toNat:Int)==81)=false/\Hid (false=a.ok)):=by
                by_cases h81:kk=81
                ·exact .inl ⟨by rw[h81];decide,aA (by rw[hok];by_cases e0:er=0<;>simp[h81,e0])⟩
                ·exact .inr ⟨bJ.2 (fun e=>h81 (UInt8.toNat_inj.1 (by show kk.toNat=81;omega))),aA (by rw[hok];simp[h81])⟩
               have nD:=(aD W10.heap.size W10).drew.alloc (by simp) (.cells #[.int .i64 a.r.k,.string a.r.key,.string a.r.val,.bool a.ok] 100);have XD:=RowTo.whole W10.drew #[.int .i64 a.r.k,.string a.r.key,.string a.r.val,.bool a.ok] 100
               obtain ⟨bq, oq, cq, nn2, w12, hrun, gab, gz, hA12, hM12, hB12, hs12, hk12⟩ := (HM10.out.1.below nD).waitRun hc6' (by rw [cAg]; exact HO.out.2.2.1.n6) hql (ad := W10.heap.size) a (((m5.get c).wait) ++ [a.req]) (fun i u hu => by
                have:=hu;match i,hu with
                |0,hu=>injection hu with hu;rw[<-hu];exact XD.cell (j:=0) (by simp)
                |1,hu=>injection hu with hu;rw[<-hu];exact XD.cell (j:=1) (by simp)
                |2,hu=>injection hu with hu;rw[<-hu];exact XD.cell (j:=2) (by simp)
                |3,hu=>injection hu with hu;rw[<-hu];exact XD.cell (j:=3) (by simp)
                | i + 4, hu => simp [fT] at hu)
               have hG: ∀x,x<W10.heap.size->(x=H\/x=A\/x=Z)->w12.heap[x]? =W10.heap[x]? :=fun x hx hh=>by
                have hx2:x<(W10.drew.alloc (.cells #[.int .i64 a.r.k,.string a.r.key,.string a.r.val,.bool a.ok] 100)).heap.size:=(by simp;omega);refine(hk12 x hx2 (fun e=>?_)).trans (nD.block x hx);have hlo:=HC.out.1.lo (c+3) x e;rcases hh with rfl|rfl|rfl
                ·exact HC.out.1.ne (i:=c+3) (j:=0) e HC.out.1.g0 (by omega) rfl
                ·exact HC.out.1.ne (i:=c+3) (j:=1) e HC.out.1.g1 (by omega) rfl
                ·have:=hZn.out;omega
               have h4b:=(aV (a:=⟨H,4,none⟩) (hG H hHl (.inl rfl))).trans h4;have x0b:=(aV (a:=⟨Z,0,none⟩) (hG Z hZl (.inr (.inr rfl)))).trans x0;have x1b:=(aV (a:=⟨Z,1,none⟩) (hG Z hZl (.inr (.inr rfl)))).trans x1;have x2b:=(aV (a:=⟨Z,2,none⟩) (hG Z hZl (.inr (.inr rfl)))).trans x2;rw[HWV.out,HNQ.out]at hrun gab;have HFF:=aA (mA2 HO.out.2.2.1.n6 hc6' HBS.out HAQ.out HFR.out HIP.out HO.out.2.1 HO.out.2.2.2.1 hext.1 hM12 ((HM10.out.2.1.trans (nD.mono HM10.out.1.bH.2.2)).trans hB12));clear hM12 hB12 hG hk12 XD;rcases hor with⟨hk81,HOK⟩|⟨hk81,HOK⟩
               all_goals
                refine eF 25 (fun wx=>wx.cell? ⟨H,4,none⟩=some (.slice (some ⟨A,0,none⟩) 6 6)/\wx.cell? ⟨A,c*4+1,none⟩=some (.slice Aw nq cw)/\wx.cell? ⟨Z,0,none⟩=some (.int .i64 a.r.k)/\wx.cell? ⟨Z,1,none⟩=some (.string a.r.key)/\wx.cell? ⟨Z,2,none⟩=some (.string a.r.val)) (by kernel_rfl) (show W10.drew.cell? ⟨H,4,none⟩=some (.slice (some ⟨A,0,none⟩) 6 6)/\W10.drew.cell? ⟨A,c*4+1,none⟩=some (.slice Aw nq cw)/\W10.drew.cell? ⟨Z,0,none⟩=some (.int .i64 a.r.k)/\W10.drew.cell? ⟨Z,1,none⟩=some (.string a.r.key)/\W10.drew.cell? ⟨Z,2,none⟩=some (.string a.r.val)from⟨h4,ga,x0,x1,x2⟩) (fun hS=>?_);refine dF [(0,[]),(1,[]),(2,[]),(3,[]),(4,[]),(5,[]),(6,[]),(7,[]),(8,[]),(9,[]),(10,[]),(11,[]),(12,[]),(13,[]),(14,[]),(15,[]),(16,[])] ?_
                iterate 17
                 refine dH (v:=?_) hS ?_ ?_;rotate_left
                 ·(intro w hSw;(try dsimp only at hSw);(try simp only[aE,aB,aC]);go_simp;try with_reducible rfl)
                 (try simp only[aE,aB,aC,aQ,aH,aG,aF])
                refine dG ?_
                first
                |(refine dF [(17,[])] ?_;refine dH (v:=?_) hS ?_ ?_;rotate_left;(focus (intro w hSw;(try dsimp only at hSw);(try simp only[aE,aB,aC]);go_simp;try with_reducible rfl));(try simp only[aE,aB,aC,aQ,aH,aG,aF]);refine dG ?_)
                |(refine iI (i:=17) (v:=undef) rfl (by kernel_rfl) (by kernel_rfl) (by kernel_rfl) (by kernel_rfl) (fun _ _ _ h=>h) (Or.inr ⟨by rfl,rfl⟩) hS ?_;(try simp only[aE,aB,aC,aQ,aH,aG,aF]))
                first
                |(refine dF [(18,[])] ?_;refine dH (v:=?_) hS ?_ ?_;rotate_left;(focus (intro w hSw;(try dsimp only at hSw);(try simp only[aE,aB,aC]);go_simp;try with_reducible rfl));(try simp only[aE,aB,aC,aQ,aH,aG,aF]);refine dG ?_)
                |(refine iI (i:=18) (v:=undef) rfl (by kernel_rfl) (by kernel_rfl) (by kernel_rfl) (by kernel_rfl) (fun _ _ _ h=>h) (Or.inr ⟨by rfl,rfl⟩) hS ?_;(try simp only[aE,aB,aC,aQ,aH,aG,aF]))
                refine dF [(19,[])] ?_
                iterate 1
                 refine dH (v:=?_) hS ?_ ?_;rotate_left
                 ·(intro w hSw;(try dsimp only at hSw);(try simp only[aE,aB,aC]);go_simp;try with_reducible rfl)
                 (try simp only[aE,aB,aC,aQ,aH,aG,aF])
                refine dG ?_;refine iI (i:=20) (v:= .agg #[.int .i64 a.r.k,.string a.r.key,.string a.r.val,.bool a.ok]) rfl (by kernel_rfl) (by kernel_rfl) (by kernel_rfl) (by kernel_rfl) (fun _ _ _ h=>h) (Or.inl ⟨by rfl,fun w _=>mA4 rfl rfl (congrArg Value.bool HOK.out) w⟩) hS ?_
                (try simp only[aE,aB,aC,aQ,aH,aG,aF])
                refine cK (i:=21) (fun K hK=>?_)
                (try simp only[aE,aB,aC])
                refine mZ (mA5 rfl rfl _) ?_;have hS2:=(show(W10.drew.alloc (.cells #[.int .i64 a.r.k,.string a.r.key,.string a.r.val,.bool a.ok] 100)).cell? ⟨H,4,none⟩=some (.slice (some ⟨A,0,none⟩) 6 6)/\(W10.drew.alloc (.cells #[.int .i64 a.r.k,.string a.r.key,.string a.r.val,.bool a.ok] 100)).cell? ⟨A,c*4+1,none⟩=some (.slice Aw nq cw)/\(W10.drew.alloc (.cells #[.int .i64 a.r.k,.string a.r.key,.string a.r.val,.bool a.ok] 100)).cell? ⟨Z,0,none⟩=some (.int .i64 a.r.k)/\(W10.drew.alloc (.cells #[.int .i64 a.r.k,.string a.r.key,.string a.r.val,.bool a.ok] 100)).cell? ⟨Z,1,none⟩=some (.string a.r.key)/\(W10.drew.alloc (.cells #[.int .i64 a.r.k,.string a.r.key,.string a.r.val,.bool a.ok] 100)).cell? ⟨Z,2,none⟩=some (.string a.r.val)from⟨(nD.cell (p:=⟨H,4,none⟩) hHl).trans h4,(nD.cell (p:=⟨A,c*4+1,none⟩) hAl).trans ga,(nD.cell (p:=⟨Z,0,none⟩) hZl).trans x0,(nD.cell (p:=⟨Z,1,none⟩) hZl).trans x1,(nD.cell (p:=⟨Z,2,none⟩) hZl).trans x2⟩);refine hK.out _ _ hS2 ?_;clear hK K hS;have hS:=hS2;clear hS2
                (try simp only[aE,aB,aC,aQ,aH,aG,aF])
                refine cK (i:=22) (fun K hK=>?_)
                (try simp only[aE,aB,aC])
                refine Lib.wp_append_run _ _ _ _ _ rfl _ _ rfl rfl _ _ hrun ?_;have hS2:=(show w12.cell? ⟨H,4,none⟩=some (.slice (some ⟨A,0,none⟩) 6 6)/\w12.cell? ⟨A,c*4+1,none⟩=some (.slice Aw nq cw)/\w12.cell? ⟨Z,0,none⟩=some (.int .i64 a.r.k)/\w12.cell? ⟨Z,1,none⟩=some (.string a.r.key)/\w12.cell? ⟨Z,2,none⟩=some (.string a.r.val)from⟨h4b,gab,x0b,x1b,x2b⟩);refine hK.out _ _ hS2 ?_;clear hK K hS;have hS:=hS2;clear hS2
                (try simp only[aE,aB,aC,aQ,aH,aG,aF])
                refine dF [(23,[24]),(24,[])] ?_
                iterate 2
                 refine dH (v:=?_) hS ?_ ?_;rotate_left
                 ·(intro w hSw;(try dsimp only at hSw);(try simp only[aE,aB,aC]);go_simp;try with_reducible rfl)
                 (try simp only[aE,aB,aC,aQ,aH,aG,aF])
                refine dG ?_;refine bY (fun K hK=>?_)
                (try simp only[aE,aB,aC])
                go_simp;refine hK.out _ _ ?_;clear hK K
                (try simp only[aE,aB,aC,aQ,aH,aG,aF])
                go_wp2
                go_roundg (bs.extract j bs.size).size
                case measure=>exact hext.2
                case rel=>exact⟨rfl,HFF.out⟩
          ·skip;have HE:=aA (show m4=(m3.leave bC c).all bC mode by rw[HNX.out,if_neg (by decide)]);clear HNX h4 c2 hda;go_wp2_with fail
           go_loopw [13] (fun v wi=>v= .bool true/\wr=wi) (fun _ _=>0)
           case atStart=>exact⟨rfl,rfl⟩
           case round=>
            obtain⟨rfl,rfl⟩:=hrel;have HL:=aA (yAd _ HO.out.1 HO.out.2.2.1 (by omega) HO.out.2.1 c hc6');go_wp2_with fail;refine HL.out.mono ?_;rintro e w5 ⟨q5,ow5,⟨f5,g5,G5,rfl,hM5,hB5⟩,hR5⟩;have HON:=aA (uS w5 hM5 (HO.out.2.2.1.leave hc6') (by omega) hR5 (by rw[pH];exact HO.out.2.2.2.1));have HB5:=aA (HO.out.2.2.2.2.trans hB5);clear hM5 hB5 hR5 HL;go_wp2_with fail;refine HON.out.mono ?_;rintro e w6 ⟨q6,ow6,⟨f6,g6,G6,rfl,hM6,hB6⟩,hR6⟩;have HF:=aA (show pY w1 H A S mode (1000*(k+1)) m4 w6 from by rw[HE.out];exact⟨f6,g6,G6,q6,ow6,hM6,hR6,(HO.out.2.2.1.leave hc6').all.mono (by omega),by rw[pG,pH];exact HO.out.2.2.2.1,HB5.out.trans hB6⟩);clear hM6 hB6 hR6 HON;go_wp2_with fail;go_roundw
            case rel=>exact⟨k+1,by omega,by go_num,by rw[HM4.out];exact HF.out⟩
            case measure=>simp[intOf];omega
         ·obtain rfl:k=l.length:=(by omega);clear hlt hk;obtain⟨f3,g3,G3,q3,ow3,hM,hR3,hI,hb8,hB⟩:=HZ.out;rw[List.take_length]at hM hR3 hI hb8;have hN3:1000*l.length<=300000:=(by omega);obtain⟨m3,HM3⟩: ∃u,Hid (m0.run bC mode l=u):=⟨_,aA rfl⟩;rw[HM3.out]at hM hR3 hI hb8;obtain⟨Ad,cd,hf7,_⟩:=hM.deedSl.shape;obtain⟨Ar,cr,hf2,_⟩:=hM.ref.rows.form;have h7:=hM.h.cell (j:=7) (by omega);have h2:=hM.h.cell (j:=2) (by omega);rw[hf7]at h7;rw[hf2]at h2;have hHl:=hM.h.lt;have HRW:=aA (show Lst wr wr.heap.size (.slice Ar m3.e.rows.length cr) m3.e.rows by rw[<-hf2];exact hM.ref.rows);have HDL:=aA (show Sl wr 70 7 (.slice Ad m3.deeds.length cd) (G3 11) m3.deeds.length (m3.deeds.map gW).flatten/\(∀b,G3 11=some b->b<wr.heap.size)from⟨by rw[<-hf7];exact hM.deedSl,fun b hb=>(hM.lo 11 b hb).2⟩);have HO:=aA (aJ hM (aJ hI hB));clear hM hR3 hI hb8 hB HZ hf7 hf2;go_wp2_with fail;refine mJ 12 [] [] [] [(0,214),(1,215),(2,216),(3,217),(4,218),(5,219),(6,220),(7,221),(8,222),(9,223),(10,224),(11,19)] [[],[(0,214)],[(1,215)],[(2,216)],[],[(4,218)],[(5,219)],[(6,220)],[(7,221)],[(8,222)],[(3,217),(9,223)],[]] (fun i v wv=>match i with|0=>v= .pointer (some ⟨H,0,none⟩)|1=>v= .pointer (some ⟨H,0,none⟩)|2=>v= .pointer (some ⟨H,7,none⟩)|3=>v= .slice Ad m3.deeds.length cd|4=>v= .pointer (some ⟨H,0,none⟩)|5=>v= .pointer (some ⟨H,0,none⟩)|6=>v= .pointer (some ⟨H,2,none⟩)|7=>v= .pointer (some ⟨H,2,none⟩)|8=>v= .slice Ar m3.e.rows.length cr|9=> ∃A9 c9,v= .slice A9 m3.e.rows.length c9/\Lst wv wv.heap.size (.slice A9 m3.e.rows.length c9) m3.e.rows|10=> ∃A9 c9,v= .agg #[.slice none 0 0,.slice Ad m3.deeds.length cd,.slice A9 m3.e.rows.length c9]/\Lst wv wv.heap.size (.slice A9 m3.e.rows.length c9) m3.e.rows|11=> ∃R,v= .pointer (some ⟨R,0,none⟩)/\RowTo wv R 29 3 [.slice none 0 0,.slice none 0 0,.slice none 0 0]/\wr.heap.size<=R|_=>True) (fun _ w w'=>Below w.heap.size w w') (fun wc=>Below wr.heap.size wr wc) 1 (by kernel_rfl) (by rfl) (by kernel_rfl) (fun _ _ _ _ _ h=>h) (aD _ _).drew (fun _ _=>aD _ _) ?pdmo (fun k w w' h hb=>bU h hb) ?pdob ?pdof ?pdfi
          case pdmo=>
           intro k i v w w' hk1 hk2 hk3 h hb;rcases i with _|_|_|_|_|_|_|_|_|_|_|_|i
           ·exact h
           ·exact h
           ·exact h
           ·exact h
           ·exact h
           ·exact h
           ·exact h
           ·exact h
           ·exact h
           ·obtain⟨A9,c9,e,hl⟩:=h;exact⟨A9,c9,e,hl.step hb⟩
           ·obtain⟨A9,c9,e,hl⟩:=h;exact⟨A9,c9,e,hl.step hb⟩
           ·obtain⟨R,e,hr,l⟩:=h;exact⟨R,e,hr.below hb hr.lt,l⟩
           ·exact h
          case pdob=>
           intro i hi hnf vals wc hR hV;rcases i with _|_|_|_|_|_|_|_|_|_|_|_|i
           ·clear hV hnf hi;refine⟨_,rfl,Or.inl ⟨by rfl,Or.inl ⟨.pointer (some ⟨H,0,none⟩),wc,?_,rfl,(aD _ _)⟩⟩⟩
            (try simp only[aN,aT,aS,aQ,aH,aG,aF])
            go_simp
            try rfl
           ·have h0:(vals 0)= .pointer (some ⟨H,0,none⟩):=hV (0,214) (by decide);clear hV hnf hi;refine⟨_,rfl,Or.inl ⟨by rfl,Or.inl ⟨.pointer (some ⟨H,0,none⟩),wc,?_,rfl,(aD _ _)⟩⟩⟩
            (try simp only[aN,aT,aS,aQ,aH,aG,aF,h0])
            go_simp
            try rfl
           ·have h1:(vals 1)= .pointer (some ⟨H,0,none⟩):=hV (1,215) (by decide);clear hV hnf hi;refine⟨_,rfl,Or.inl ⟨by rfl,Or.inl ⟨.pointer (some ⟨H,7,none⟩),wc,?_,rfl,(aD _ _)⟩⟩⟩
            (try simp only[aN,aT,aS,aQ,aH,aG,aF,h1])
            go_simp
            try rfl
           ·have h2:(vals 2)= .pointer (some ⟨H,7,none⟩):=hV (2,216) (by decide);clear hV hnf hi;have h7':=(hR.cell (p:=⟨H,7,none⟩) hHl).trans h7;refine⟨_,rfl,Or.inl ⟨by rfl,Or.inl ⟨.slice Ad m3.deeds.length cd,wc,?_,rfl,(aD _ _)⟩⟩⟩
            (try simp only[aN,aT,aS,aQ,aH,aG,aF,h2])
            go_simp
            try rfl
           ·clear hV hnf hi;refine⟨_,rfl,Or.inl ⟨by rfl,Or.inl ⟨.pointer (some ⟨H,0,none⟩),wc,?_,rfl,(aD _ _)⟩⟩⟩
            (try simp only[aN,aT,aS,aQ,aH,aG,aF])
            go_simp
            try rfl
           ·have h4:(vals 4)= .pointer (some ⟨H,0,none⟩):=hV (4,218) (by decide);clear hV hnf hi;refine⟨_,rfl,Or.inl ⟨by rfl,Or.inl ⟨.pointer (some ⟨H,0,none⟩),wc,?_,rfl,(aD _ _)⟩⟩⟩
            (try simp only[aN,aT,aS,aQ,aH,aG,aF,h4])
            go_simp
            try rfl
           ·have h5:(vals 5)= .pointer (some ⟨H,0,none⟩):=hV (5,219) (by decide);clear hV hnf hi;refine⟨_,rfl,Or.inl ⟨by rfl,Or.inl ⟨.pointer (some ⟨H,2,none⟩),wc,?_,rfl,(aD _ _)⟩⟩⟩
            (try simp only[aN,aT,aS,aQ,aH,aG,aF,h5])
            go_simp
            try rfl
           ·have h6:(vals 6)= .pointer (some ⟨H,2,none⟩):=hV (6,220) (by decide);clear hV hnf hi;refine⟨_,rfl,Or.inl ⟨by rfl,Or.inl ⟨.pointer (some ⟨H,2,none⟩),wc,?_,rfl,(aD _ _)⟩⟩⟩
            (try simp only[aN,aT,aS,aQ,aH,aG,aF,h6])
            go_simp
            try rfl
           ·have h7:(vals 7)= .pointer (some ⟨H,2,none⟩):=hV (7,221) (by decide);clear hV hnf hi;have h2':=(hR.cell (p:=⟨H,2,none⟩) hHl).trans h2;refine⟨_,rfl,Or.inl ⟨by rfl,Or.inl ⟨.slice Ar m3.e.rows.length cr,wc,?_,rfl,(aD _ _)⟩⟩⟩
            (try simp only[aN,aT,aS,aQ,aH,aG,aF,h7])
            go_simp
            try rfl
           ·have h8:(vals 8)= .slice Ar m3.e.rows.length cr:=hV (8,222) (by decide);clear hV hnf hi;refine⟨_,rfl,Or.inl ⟨by rfl,Or.inr ⟨33,#[.slice Ar m3.e.rows.length cr],?_,?_⟩⟩⟩
            ·(try simp only[aN,aT,aS,aQ,aH,aG,aF,h8])
             go_simp
             try rfl
            ·refine(xV _ m3.e.rows wc ((HRW.out.below hR).more hR.size)).mono ?_;rintro e w9 ⟨v9,rfl,ho9,hb9⟩;have hl9:=kP ho9 HRW.out.bytes HRW.out.sizes;obtain⟨A9,c9,rfl,_⟩:=hl9.form;exact⟨_,rfl,⟨A9,c9,rfl,hl9⟩,hb9⟩
           ·have h3:(vals 3)= .slice Ad m3.deeds.length cd:=hV (3,217) (by decide);have h9: ∃A9 c9,(vals 9)= .slice A9 m3.e.rows.length c9/\Lst wc wc.heap.size (.slice A9 m3.e.rows.length c9) m3.e.rows:=hV (9,223) (by decide);clear hV hnf hi;obtain⟨A9,c9,e9,hl9⟩:=h9;refine⟨_,rfl,Or.inl ⟨by rfl,Or.inl ⟨.agg #[.slice none 0 0,.slice Ad m3.deeds.length cd,.slice A9 m3.e.rows.length c9],wc,?_,⟨A9,c9,rfl,hl9⟩,(aD _ _)⟩⟩⟩
            (try simp only[aN,aT,aS,aQ,aH,aG,aF,h3,e9])
            go_simp
            try rfl
           ·clear hV hnf hi;refine⟨_,rfl,Or.inl ⟨by rfl,Or.inl ⟨.pointer (some ⟨wc.heap.size,0,none⟩),wc.alloc (.cells #[.slice none 0 0,.slice none 0 0,.slice none 0 0] 29),?_,⟨_,rfl,RowTo.whole wc _ _,hR.size⟩,(aD _ _).alloc (aI _) _⟩⟩⟩
            (try simp only[aN,aT,aS,aQ,aH,aG,aF])
            go_simp
            try rfl
           ·exact absurd hi (by simp)
          case pdof=>
           intro i hi;cases hi
          case pdfi=>
           intro vals wf hR hV;have hS:=True.intro;have f10: ∃A9 c9,(vals 10)= .agg #[.slice none 0 0,.slice Ad m3.deeds.length cd,.slice A9 m3.e.rows.length c9]/\Lst wf wf.heap.size (.slice A9 m3.e.rows.length c9) m3.e.rows:=hV 10 (by decide) (fun k hk=>by simp at hk);have f11: ∃R,(vals 11)= .pointer (some ⟨R,0,none⟩)/\RowTo wf R 29 3 [.slice none 0 0,.slice none 0 0,.slice none 0 0]/\wr.heap.size<=R:=hV 11 (by decide) (fun k hk=>by simp at hk);clear hV;obtain⟨R,e11,hRR,lR⟩:=f11;obtain⟨A9,c9,e10,hl9⟩:=f10
           (try simp only[aN,aT,aS,aQ,aH,aG,aF,e10,e11])
           obtain⟨z0,z1,z2⟩:=bA hRR;have y0:=hRR.frozen 0;have y1:=hRR.frozen 1;have y2:=hRR.frozen 2;have hRl:=hRR.lt;have hip:=mA6 hl9 hRR;have HL9:=aA (show Lst (((wf.setCell ⟨R,0,none⟩ (.slice none 0 0)).setCell ⟨R,1,none⟩ (.slice Ad m3.deeds.length cd)).setCell ⟨R,2,none⟩ (.slice A9 m3.e.rows.length c9)) (((wf.setCell ⟨R,0,none⟩ (.slice none 0 0)).setCell ⟨R,1,none⟩ (.slice Ad m3.deeds.length cd)).setCell ⟨R,2,none⟩ (.slice A9 m3.e.rows.length c9)).heap.size (.slice A9 m3.e.rows.length c9) m3.e.rows/\InP (fun b=>b≠R) (.slice A9 m3.e.rows.length c9) m3.e.rows from⟨((((Only.refl R wf).set 0 (.slice none 0 0)).set 1 (.slice Ad m3.deeds.length cd)).set 2 (.slice A9 m3.e.rows.length c9)).lst hl9 hip,hip⟩);have HO9:=aA (show yN wr (((wf.setCell ⟨R,0,none⟩ (.slice none 0 0)).setCell ⟨R,1,none⟩ (.slice Ad m3.deeds.length cd)).setCell ⟨R,2,none⟩ (.slice A9 m3.e.rows.length c9)) R (.slice Ad m3.deeds.length cd) (.slice A9 m3.e.rows.length c9) m3.sent 0 (((wf.setCell ⟨R,0,none⟩ (.slice none 0 0)).setCell ⟨R,1,none⟩ (.slice Ad m3.deeds.length cd)).setCell ⟨R,2,none⟩ (.slice A9 m3.e.rows.length c9))from⟨_,none,hRR.set3 (.slice none 0 0) (.slice Ad m3.deeds.length cd) (.slice A9 m3.e.rows.length c9),Sl.nil_ _ _ _,(fun b hb=>by cases hb),Only.refl _ _,mE hR lR (.slice none 0 0) (.slice Ad m3.deeds.length cd) (.slice A9 m3.e.rows.length c9)⟩);have HR0:=aA (show wr.heap.size<=R/\R<(((wf.setCell ⟨R,0,none⟩ (.slice none 0 0)).setCell ⟨R,1,none⟩ (.slice Ad m3.deeds.length cd)).setCell ⟨R,2,none⟩ (.slice A9 m3.e.rows.length c9)).heap.size/\wr.heap.size<=(((wf.setCell ⟨R,0,none⟩ (.slice none 0 0)).setCell ⟨R,1,none⟩ (.slice Ad m3.deeds.length cd)).setCell ⟨R,2,none⟩ (.slice A9 m3.e.rows.length c9)).heap.size by rw[cT,cT,cT];exact⟨lR,hRl,hR.size⟩);clear hRR hl9 hip hR h7 h2 hHl;refine bY (fun K hK=>?_)
           (try simp only[aE,aB,aC])
           go_simp;refine hK.out _ _ ?_;clear hK K
           (try simp only[aE,aB,aC,aQ,aH,aG,aF])
           obtain⟨WW,HWW⟩: ∃u,Hid (((wf.setCell ⟨R,0,none⟩ (.slice none 0 0)).setCell ⟨R,1,none⟩ (.slice Ad m3.deeds.length cd)).setCell ⟨R,2,none⟩ (.slice A9 m3.e.rows.length c9)=u):=⟨_,aA rfl⟩;rw[HWW.out]at HL9 HO9 HR0 ⊢;clear HWW z0 z1 z2 y0 y1 y2 hRl;have hs6:=HO.out.2.1.s6;have HDN:=aA (HO.out.2.1.deeds hN3);obtain⟨nd,HND⟩: ∃u,Hid (m3.deeds.length=u):=⟨_,aA rfl⟩;rw[HND.out]at HO9;obtain⟨nr,HNR⟩: ∃u,Hid (m3.e.rows.length=u):=⟨_,aA rfl⟩;rw[HNR.out]at HO9;go_wp2_with fail
           go_loopw [20] (fun i wi=> ∃k:Nat,k<=6/\i= .int .i64 k/\Hid (yN wr WW R (.slice Ad nd cd) (.slice A9 nr c9) m3.sent k wi)) (fun i _=>6-(intOf i).toNat)
           case atStart=>exact⟨0,by omega,rfl,HO9.out⟩
           case round=>
            obtain⟨k,hk,rfl,HZ⟩:=hrel;clear HO9;obtain⟨vs,gs,hX,hs,hg,ho,hb⟩:=HZ.out;have HI:=aA (aJ hX (aJ hs (aJ hg (aJ ho hb))));have hM:=HO.out.1.below hb;have hRl:=hX.lt;obtain⟨r0,r1,r2⟩:=bA hX;obtain⟨As,cs,hvs,_⟩:=hs.shape;subst hvs
            by_cases hlt:k<6
            ·have hkI:(k:Int)<6:=(by omega);have hks:k<m3.sent.length:=(by omega);have hc4:wr.cell? ⟨H,4,none⟩=some (.slice (some ⟨A,0,none⟩) 6 6):=(by rw[hM.h.cell (by omega),hM.f4]);have ga:=hM.a.cell (j:=k*4+3) (by omega);rw[hM.sent k hlt]at ga;have hHl:=hM.h.lt;have hAl:=hM.a.lt;obtain⟨sk,HSK⟩: ∃u,Hid (m3.sent[k]=u):=⟨_,aA rfl⟩;rw[eU,dP hks,Option.getD_some,HSK.out]at ga;clear hX hs hg ho hb hM HZ;go_wp2_with fail;refine mJ 13 [] [] [] [(0,229),(1,230),(2,231),(3,232),(4,233),(5,234),(6,235),(7,236),(8,237),(9,238),(10,239)] [[],[(0,229)],[],[(2,231)],[(3,232)],[(4,233)],[],[(5,234),(6,235)],[(7,236)],[(8,237)],[(9,238)]] (fun i v wv=>match i with|0=>v= .pointer (some ⟨R,0,none⟩)|1=>v= .slice As k cs|2=>v= .pointer (some ⟨H,0,none⟩)|3=>v= .pointer (some ⟨H,0,none⟩)|4=>v= .pointer (some ⟨H,4,none⟩)|5=>v= .slice (some ⟨A,0,none⟩) 6 6|6=>v= .int .i64 k|7=>v= .pointer (some ⟨A,k*4,none⟩)|8=>v= .pointer (some ⟨A,k*4+3,none⟩)|9=>v= .string sk|10=> ∃bb,v= .slice (some ⟨bb,0,none⟩) 1 1/\wv.cell? ⟨bb,0,none⟩=some (.string sk)/\bb<wv.heap.size|_=>True) (fun _ w w'=>Below w.heap.size w w') (fun wc=>Below wr.heap.size wr wc) 3 (by kernel_rfl) (by rfl) (by kernel_rfl) (fun _ _ _ _ _ h=>h) (aD _ _).drew (fun _ _=>aD _ _) ?pemo (fun k w w' h hb=>bU h hb) ?peob ?peof ?pefi
             case pemo=>
              intro k i v w w' hk1 hk2 hk3 h hb;rcases i with _|_|_|_|_|_|_|_|_|_|_|i
              ·exact h
              ·exact h
              ·exact h
              ·exact h
              ·exact h
              ·exact h
              ·exact h
              ·exact h
              ·exact h
              ·exact h
              ·obtain⟨bb,e,hc,l⟩:=h;exact⟨bb,e,(hb.cell (p:=⟨bb,0,none⟩) l).trans hc,bD l hb.size⟩
              ·exact h
             case peob=>
              intro i hi hnf vals wc hR hV;rcases i with _|_|_|_|_|_|_|_|_|_|_|i
              ·clear hV hnf hi;refine⟨_,rfl,Or.inl ⟨by rfl,Or.inl ⟨.pointer (some ⟨R,0,none⟩),wc,?_,rfl,(aD _ _)⟩⟩⟩
               (try simp only[aN,aT,aS,aQ,aH,aG,aF])
               go_simp
               try rfl
              ·have h0:(vals 0)= .pointer (some ⟨R,0,none⟩):=hV (0,229) (by decide);clear hV hnf hi;have r0':=(hR.cell (p:=⟨R,0,none⟩) hRl).trans r0;refine⟨_,rfl,Or.inl ⟨by rfl,Or.inl ⟨.slice As k cs,wc,?_,rfl,(aD _ _)⟩⟩⟩
               (try simp only[aN,aT,aS,aQ,aH,aG,aF,h0])
               go_simp
               try rfl
              ·clear hV hnf hi;refine⟨_,rfl,Or.inl ⟨by rfl,Or.inl ⟨.pointer (some ⟨H,0,none⟩),wc,?_,rfl,(aD _ _)⟩⟩⟩
               (try simp only[aN,aT,aS,aQ,aH,aG,aF])
               go_simp
               try rfl
              ·have h2:(vals 2)= .pointer (some ⟨H,0,none⟩):=hV (2,231) (by decide);clear hV hnf hi;refine⟨_,rfl,Or.inl ⟨by rfl,Or.inl ⟨.pointer (some ⟨H,0,none⟩),wc,?_,rfl,(aD _ _)⟩⟩⟩
               (try simp only[aN,aT,aS,aQ,aH,aG,aF,h2])
               go_simp
               try rfl
              ·have h3:(vals 3)= .pointer (some ⟨H,0,none⟩):=hV (3,232) (by decide);clear hV hnf hi;refine⟨_,rfl,Or.inl ⟨by rfl,Or.inl ⟨.pointer (some ⟨H,4,none⟩),wc,?_,rfl,(aD _ _)⟩⟩⟩
               (try simp only[aN,aT,aS,aQ,aH,aG,aF,h3])
               go_simp
               try rfl
              ·have h4:(vals 4)= .pointer (some ⟨H,4,none⟩):=hV (4,233) (by decide);clear hV hnf hi;have h4':=(hR.cell (p:=⟨H,4,none⟩) hHl).trans hc4;refine⟨_,rfl,Or.inl ⟨by rfl,Or.inl ⟨.slice (some ⟨A,0,none⟩) 6 6,wc,?_,rfl,(aD _ _)⟩⟩⟩
               (try simp only[aN,aT,aS,aQ,aH,aG,aF,h4])
               go_simp
               try rfl
              ·clear hV hnf hi;refine⟨_,rfl,Or.inl ⟨by rfl,Or.inl ⟨.int .i64 k,wc,?_,rfl,(aD _ _)⟩⟩⟩
               (try simp only[aN,aT,aS,aQ,aH,aG,aF])
               go_simp
               try rfl
              ·have h5:(vals 5)= .slice (some ⟨A,0,none⟩) 6 6:=hV (5,234) (by decide);have h6:(vals 6)= .int .i64 k:=hV (6,235) (by decide);clear hV hnf hi;refine⟨_,rfl,Or.inl ⟨by rfl,Or.inl ⟨.pointer (some ⟨A,k*4,none⟩),wc,?_,rfl,(aD _ _)⟩⟩⟩
               (try simp only[aN,aT,aS,aQ,aH,aG,aF,h5,h6])
               go_simp
               try rfl
              ·have h7:(vals 7)= .pointer (some ⟨A,k*4,none⟩):=hV (7,236) (by decide);clear hV hnf hi;refine⟨_,rfl,Or.inl ⟨by rfl,Or.inl ⟨.pointer (some ⟨A,k*4+3,none⟩),wc,?_,rfl,(aD _ _)⟩⟩⟩
               (try simp only[aN,aT,aS,aQ,aH,aG,aF,h7])
               go_simp
               try rfl
              ·have h8:(vals 8)= .pointer (some ⟨A,k*4+3,none⟩):=hV (8,237) (by decide);clear hV hnf hi;have ga':=(hR.cell (p:=⟨A,k*4+3,none⟩) hAl).trans ga;refine⟨_,rfl,Or.inl ⟨by rfl,Or.inl ⟨.string sk,wc,?_,rfl,(aD _ _)⟩⟩⟩
               (try simp only[aN,aT,aS,aQ,aH,aG,aF,h8])
               go_simp
               try rfl
              ·have h9:(vals 9)= .string sk:=hV (9,238) (by decide);clear hV hnf hi;refine⟨_,rfl,Or.inl ⟨by rfl,Or.inl ⟨.slice (some ⟨wc.heap.size,0,none⟩) 1 1,wc.alloc (.cells #[.string sk] 9),?_,⟨_,rfl,(RowTo.whole wc #[.string sk] 9).cell (j:=0) (by simp),by simp⟩,(aD _ _).alloc (aI _) _⟩⟩⟩
               (try simp only[aN,aT,aS,aQ,aH,aG,aF,h9])
               go_simp
               try rfl
              ·exact absurd hi (by simp)
             case peof=>
              intro i hi;cases hi
             case pefi=>
              intro vals wf hR hV;have hS:=True.intro;have f1:(vals 1)= .slice As k cs:=hV 1 (by decide) (fun k hk=>by simp at hk);have f10: ∃bb,(vals 10)= .slice (some ⟨bb,0,none⟩) 1 1/\wf.cell? ⟨bb,0,none⟩=some (.string sk)/\bb<wf.heap.size:=hV 10 (by decide) (fun k hk=>by simp at hk);clear hV;obtain⟨bb,e10,hbb,_⟩:=f10
              (try simp only[aN,aT,aS,aQ,aH,aG,aF,e10,f1])
              obtain⟨bo,oo,co,w8,hrun,u0,uz,hR8,hO8⟩:=mA7 HI.out.1 HI.out.2.1 HI.out.2.2.1 HI.out.2.2.2.1 HI.out.2.2.2.2 HR0.out.1 HR0.out.2.1 HR0.out.2.2 hks (by omega) hR (ad:=bb) (by rw[HSK.out];exact hbb);have HF:=aA hO8;clear hO8 hR r0 hc4 ga hRl hHl hAl;refine cK (i:=11) (fun K hK=>?_)
              (try simp only[aE,aB,aC])
              refine Lib.wp_append_run _ _ _ _ _ rfl _ _ rfl rfl _ _ hrun ?_;have hS2:=True.intro;refine hK.out _ _ hS2 ?_;clear hK K hS;have hS:=hS2;clear hS2
              (try simp only[aE,aB,aC,aQ,aH,aG,aF])
              refine iI (i:=12) (v:=?vpz12) rfl (by kernel_rfl) (by kernel_rfl) (by kernel_rfl) (by kernel_rfl) (fun _ _ _ h=>h) (Or.inl ⟨by rfl,?ypz12⟩) hS ?rpz12
              case ypz12=>(intro w hSw;(try dsimp only at hSw);(try simp only[aE,aB,aC]);go_simp;try with_reducible rfl)
              (try simp only[aE,aB,aC,aQ,aH,aG,aF])
              refine bY (fun K hK=>?_)
              (try simp only[aE,aB,aC])
              go_simp;refine hK.out _ _ ?_;clear hK K
              (try simp only[aE,aB,aC,aQ,aH,aG,aF])
              go_wp2;go_roundw
              case rel=>exact⟨k+1,by omega,by go_num,HF.out⟩
              case measure=>simp[intOf];omega
            ·obtain rfl:k=6:=(by omega);have htk:m3.sent.take 6=m3.sent:=jR (by omega);rw[htk,<-hs6]at hs;have hTL:=bA5 hs (by omega) (fun t ht=>by obtain⟨i,hi,rfl⟩:=List.getElem_of_mem ht;have:=HO.out.2.1.sent hN3 i;rw[eU,dP hi]at this;exact this) (fun b hb'=>hs.lt hb');have hDL:=xAd (HDL.out.1.keep fun b hb'=>hb.block b (HDL.out.2 b hb')) (by have:=HDN.out;omega) (fun b hb'=>bD (HDL.out.2 b hb') hb.size);have hRL:=ho.lst HL9.out.1 HL9.out.2;rw[HND.out]at hDL;rw[HNR.out]at hRL;rw[hs6]at hTL;have hOV:=aA (show OutV wr (.slice As 6 cs) (.slice Ad nd cd) (.slice A9 nr c9) m3.sent m3.deeds m3.e.rows from⟨hTL,hDL,hRL⟩);have hbA:=HO.out.2.2.trans (hb.mono HO.out.2.2.size);have hXr:=HX2.out.1.below hbA HX2.out.1.lt;have hbel:=aR HX2.out.2.2 hbA HX2.out.2.2.size;obtain⟨x0,x1,x2⟩:=bA hXr;have z0:=hXr.frozen 0;have z1:=hXr.frozen 1;have z2:=hXr.frozen 2;have hXl:=hXr.lt;have hOff:=hOV.out.off3 hXr (.slice As 6 cs) (.slice Ad nd cd) (.slice A9 nr c9);have hBf:=((hbel.setCell (p:=⟨w.heap.size+1,0,none⟩) (by show w.heap.size<=w.heap.size+1;omega) (.slice As 6 cs)).setCell (p:=⟨w.heap.size+1,1,none⟩) (by show w.heap.size<=w.heap.size+1;omega) (.slice Ad nd cd)).setCell (p:=⟨w.heap.size+1,2,none⟩) (by show w.heap.size<=w.heap.size+1;omega) (.slice A9 nr c9);have hRf:=((hXr.put (j:=0) (by simp) (.slice As 6 cs)).put (j:=1) (by simp) (.slice Ad nd cd)).put (j:=2) (by simp) (.slice A9 nr c9);have HF:=aA (aJ hOff (aJ hBf hRf));clear hOff hBf hRf hbel hXr hX hs hg ho hM HZ hTL hDL hRL hOV HI hbA hb;go_wp2;obtain⟨hO,hBB,hRow⟩:=HF.out;obtain⟨t0,t1,t2⟩:=bA hRow;generalize((wr.setCell ⟨w.heap.size+1,0,none⟩ (.slice As 6 cs)).setCell ⟨w.heap.size+1,1,none⟩ (.slice Ad nd cd)).setCell ⟨w.heap.size+1,2,none⟩ (.slice A9 nr c9)=WF at*;refine bE (v:= .tuple #[.agg #[.slice As 6 cs,.slice Ad nd cd,.slice A9 nr c9],.int .i64 0]) (by simp[results,Tryz.results8,go_sem,t0,t1,t2]) rfl ?_;rw[Hm0.out,HM3.out];exact⟨_,_,_,rfl,hO,hBB⟩
end Go.Proofs.YtpbaobmegomfpabGreatDoor

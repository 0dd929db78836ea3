/-
  Texts of the proof.
-/
import Derived.Test.YtpbaobmegomfpabGreatDoorG5
set_option linter.unusedVariables false
set_option linter.unusedSimpArgs false
set_option maxRecDepth 100000
set_option maxHeartbeats 16000000
open List renaming getElem_cons_zero→aB,getElem_cons_succ→aC,getElem?_eq_getElem→dP,take_succ_eq_append_getElem→gO,length_cons→fC,length_take→gK
open Nat renaming le_refl→aI,lt_of_lt_of_le→bD,le_trans→bL
open Go.Lib renaming hid→aA
open Go.RowKit.Below renaming refl→aD,heap_setCell→bF
open Go.World renaming cell?_of_block→aV,setCell→cE
open And renaming intro→aJ
open Go renaming bodyPost_ret→bE,below_drewN→aZ
namespace Go.Proofs.YtpbaobmegomfpabGreatDoor
open Go.RowKit Go.Maps Go.WideMaps
theorem vAo (base X S gR cR:Nat)(G C:Nat->Nat->Nat)(W:Wd)(i:Nat)(key val:ByteArray)(w:World)(h:OwnD w X S gR cR G C W)(lo:LoD base X S gR G W.ss.length)(hw:bX W)(hb:base<=w.heap.size)(hi:i<W.ss.length)(hkz:key.size<=8)(hvz:val.size<=60)(hown:aM W.ss[i].wr key=false)(hc0:bK (W.ss.flatMap (·.wr)) key=0)(hfn:aM (aW W) key=true)(hst:W.ss[i].st=1):
  Calls Tryz.prog 71 #[.pointer (some ⟨X,0,none⟩),.int .i64 i,.agg #[.int .i64 10,.string key,.string val]] w (lC w base X S gR G W.ss.length (W.put i {W.ss[i]with wr:=cI W.ss[i].wr key val})):=by
 have HOWN:=aA hown;have HROOM:=aA (sT hw hi (key:=key) (fun hh=>by rw[hfn]at hh;cases hh.1));have HRR:=aA ((bW hw.rows).1);clear hown;have hz:=dN hw;have hXw:=h.box.lt;have hSw:=h.blk.lt;have hpr:=bW hw.rows;have HCW:=aA (fun(w9:World) (h9:Wld w9 w9.heap.size (slc gR W.rows.length cR) (slc S W.ss.length W.ss.length) W)=>mS _ _ W w9 h9 hpr.2.1 hpr.1 hw.many (fun j hj=>(bW (hw.sess j hj).wr).2.1));have HWR:=aA ((bW (hw.sess i hi).wr).1);have b0:Below w.heap.size w ((w.alloc (.cells #[.int .i64 10,.string key,.string val] 41)).alloc (.cells #[.int .i64 0,.string ⟨#[]⟩,.int .i64 0] 46)):=((aD _ _).alloc (aI _) _).alloc (by simp) _;have h0:=h.kept b0;have x0:=h.box.cell (j:=0) (by simp);have x1:=h.box.cell (j:=1) (by simp);simp only[aB,aC]at x0 x1;unfold slc at x0 x1
 have X0:RowTo ((w.alloc (.cells #[.int .i64 10,.string key,.string val] 41)).alloc (.cells #[.int .i64 0,.string ⟨#[]⟩,.int .i64 0] 46)) (w.heap.size+1) 46 3 [.int .i64 0,.string ⟨#[]⟩,.int .i64 0]:=by
  have:=RowTo.whole (w.alloc (.cells #[.int .i64 10,.string key,.string val] 41)) #[.int .i64 0,.string ⟨#[]⟩,.int .i64 0] 46
  simpa using this
 have Y0:RowTo ((w.alloc (.cells #[.int .i64 10,.string key,.string val] 41)).alloc (.cells #[.int .i64 0,.string ⟨#[]⟩,.int .i64 0] 46)) w.heap.size 41 3 [.int .i64 10,.string key,.string val]:=(RowTo.whole w #[.int .i64 10,.string key,.string val] 41).alloc _;have hzs:((w.alloc (.cells #[.int .i64 10,.string key,.string val] 41)).alloc (.cells #[.int .i64 0,.string ⟨#[]⟩,.int .i64 0] 46)).heap.size=w.heap.size+1+1:=by simp
 have hkey:=mC (s:=key) (by omega);have hii:(i:Int)<(W.ss.length:Int):=by omega
 have H:=aA h;have H0:=aA h0;have HZ:=aA hz;have HW:=aA hw;have B0:=aA b0;have HX0:=aA X0;have HY0:=aA Y0;have HZS:=aA hzs;clear h h0 hz hw b0 X0 Y0 hzs hpr;go_enter Tryz.func71,Tryz.ntmps71;go_wp2_with fail;refine(HCW.out _ (H0.out.wld HZ.out)).mono ?_;rintro e w1 ⟨bm,n,M,rfl,hown,hmap,hn,hbm,hb1⟩;have hs1:=hb1.size;have H1:=aA (H0.out.kept hb1);have B1:=aA (aR B0.out hb1 B0.out.size);have X1:=aA (HX0.out.below hb1 HX0.out.lt);have Y1:=HY0.out.below hb1 HY0.out.lt;have q1:=Y1.cell (j:=1) (by simp);simp only[aB,aC]at q1;have HY1:=aA Y1;have HO:=aA hown;have HM:=aA hmap;have HAT:=aA (hmap.at_ key);have hhas:Maps.has M (kl key)=aM (aW W) key:=hmap.has key;have hsize:Maps.size M=(aW W).length:=hmap.size;rw[HZS.out]at hs1;have hbm':w.heap.size+1+1<=bm:=by rw[HZS.out]at hbm;exact hbm
 clear hown hmap hb1 Y1 x0 x1 hbm;have g1:decide ((0:Int)<(bK (W.ss.flatMap (·.wr)) key:Int))=false:=aY (by omega);have g2:decide (0<bK (W.ss.flatMap (·.wr)) key)=false:=aY (by omega);rw[hfn]at hhas
 go_wp2_with (first
  |(at_lookup;refine wpList_lookup_own_ok_int _ rfl _ _ 162 rfl 9 3 .i64 jE Tryz.underlying162 Tryz.underlying3 (mR _) bm n _ rfl HO.out _ _ rfl hkey ?_;intro q hat hwq;obtain rfl:q=(bK (W.ss.flatMap (·.wr)) key:Int):=(lF (HAT.out.symm.trans hat)).symm;clear hat hwq)
  | go_in)
 have q4:w1.cell? ⟨S,i*5+4,none⟩=some (.slice (some ⟨G i 3,0,none⟩) W.ss[i].wr.length (C i 3)):=H1.out.cs i 3 hi (by omega);have hl4:=aA (show Lst w1 w1.heap.size (.slice (some ⟨G i 3,0,none⟩) W.ss[i].wr.length (C i 3)) W.ss[i].wr from H1.out.list HZ.out hi (j:=3) (by omega));have hz0:w.heap.size<w1.heap.size:=by omega
 have hz1:S<w1.heap.size:=H1.out.blk.lt;have kb:=aD w1.heap.size w1;have dS:=aA (show w1.drew.cell? ⟨S,i*5+4,none⟩=some (.slice (some ⟨G i 3,0,none⟩) W.ss[i].wr.length (C i 3))/\w1.drew.cell? ⟨w.heap.size,1,none⟩=some (.string key)from⟨q4,q1⟩)
 go_region_held3 (fun wx=>wx.cell? ⟨S,i*5+4,none⟩=some (.slice (some ⟨G i 3,0,none⟩) W.ss[i].wr.length (C i 3))/\wx.cell? ⟨w.heap.size,1,none⟩=some (.string key))
  (first
   |with_reducible exact⟨q4,q1⟩
   |with_reducible exact dS.out
   | with_reducible exact ⟨(kb.cell (p := ⟨S, i * 5 + 4, none⟩) hz1).trans q4, (kb.cell (p := ⟨w.heap.size, 1, none⟩) hz0).trans q1⟩)
  (first
   | (
    go_at_call 95
    refine(jA _ W.ss[i].wr key _ (by first|exact hl4.out|exact(hl4.out.step ((aD _ _).drew))|exact(hl4.out.step (aZ (aD _ _) _))) HWR.out).mono ?_
    rw[HOWN.out];rintro e w8 ⟨rfl,hy⟩
    have kb : Below w1.heap.size w1 w8 := by first | exact kb.trans (hy.mono kb.size) | exact kb.trans ⟨hy.os, hy.tape, hy.output, hy.size, fun i hi => hy.block i (bD hi kb.size)⟩))
 have hs8:=kb.size;have H8:=aA (H1.out.kept kb);have B8:=aA (aR B1.out kb B1.out.size);have X8:=aA (X1.out.below kb X1.out.lt);have Y8:=aA (HY1.out.below kb HY1.out.lt);have O8:=aA (HO.out.kept (jM kb none) (by simp));clear kb q1 q4 dS;have c0:=H8.out.st i hi;rw[hst]at c0;have pc:w8.cell? ⟨S,i*5+4,none⟩=some (.slice (some ⟨G i 3,0,none⟩) W.ss[i].wr.length (C i 3)):=H8.out.cs i 3 hi (by omega);have pf:=H8.out.blk.frozen (i*5+4);have hneg:S≠G i 3:=Ne.symm (H8.out.neGS i 3 hi (by omega));have hgw:G i 3<w.heap.size:=(H.out.ls i 3 hi (by omega)).row.lt;have hpw:S<w.heap.size:=hSw;have HSTORE:=aA (fun(w9:World) (ho9:OwnL w9 (G i 3) (C i 3) W.ss[i].wr) (hp9:w9.cell? ⟨S,i*5+4,none⟩=some (.slice (some ⟨G i 3,0,none⟩) W.ss[i].wr.length (C i 3))) (hf9:w9.frozen? ⟨S,i*5+4,none⟩=false)=>oT (G i 3) (C i 3) S (i*5+4) W.ss[i].wr 10 key val 100 w9 ho9 HWR.out (by have:=(HZ.out.li i 3 hi (by omega)).1;have e:(W.ss[i].li 3).length=W.ss[i].wr.length:=rfl;omega) ((HZ.out.li i 3 hi (by omega)).sz) hp9 hf9 hneg (by omega) (by omega) HROOM.out);have O9:=aA (show OwnL w8 (G i 3) (C i 3) W.ss[i].wr from H8.out.ls i 3 hi (by omega));have PC:=aA (aJ pc pf);have hw8:w.heap.size<w8.heap.size:=by omega
 have hR8:w.heap.size+1<w8.heap.size:=by omega
 have y0:=Y8.out.cell (j:=0) (by simp);have y1:=Y8.out.cell (j:=1) (by simp);have y2:=Y8.out.cell (j:=2) (by simp);simp only[aB,aC]at y0 y1 y2;clear pc pf;go_wp2;have dS:=aA (show w8.drew.cell? ⟨w.heap.size,0,none⟩=some (.int .i64 10)/\w8.drew.cell? ⟨w.heap.size,1,none⟩=some (.string key)/\w8.drew.cell? ⟨w.heap.size,2,none⟩=some (.string val)from⟨y0,y1,y2⟩);have hne1:w.heap.size≠G i 3:=by omega
 have hne2:w.heap.size≠S:=by omega
 have hne3:w.heap.size+1≠G i 3:=by omega
 have hne4:w.heap.size+1≠S:=by omega
 go_region_held3 (fun wx=>wx.cell? ⟨w.heap.size,0,none⟩=some (.int .i64 10)/\wx.cell? ⟨w.heap.size,1,none⟩=some (.string key)/\wx.cell? ⟨w.heap.size,2,none⟩=some (.string val))
  (first
   |with_reducible exact⟨y0,y1,y2⟩
   |with_reducible exact dS.out
   |with_reducible exact⟨eW z0 (by omega),eW z1 (by omega),eW z2 (by omega)⟩
   | with_reducible exact ⟨z0, z1, z2⟩)
  (first
   | (
    go_at_call 70
    refine(HSTORE.out _ (by first|exact O9.out|exact O9.out.same rfl) (by first|exact PC.out.1|assumption) (by first|exact PC.out.2|assumption)).mono ?_
    rintro e wB ⟨g',c',rfl,ho',hl',hc⟩;have hcB:Chg w8 wB (G i 3) S (i*5+4) (.slice (some ⟨g',0,none⟩) (cI W.ss[i].wr key val).length c'):=⟨hc.os,hc.tape,hc.output,hc.size,hc.other,hc.here⟩;have hlB:g'=G i 3\/w8.heap.size<=g':=hl';have z0:=(aV (a:=⟨w.heap.size,0,none⟩) (hcB.other _ hw8 hne1 hne2)).trans y0;have z1:=(aV (a:=⟨w.heap.size,1,none⟩) (hcB.other _ hw8 hne1 hne2)).trans y1;have z2:=(aV (a:=⟨w.heap.size,2,none⟩) (hcB.other _ hw8 hne1 hne2)).trans y2;have RB:=X8.out.same (hcB.other _ hR8 hne3 hne4);have r0:=RB.cell (j:=0) (by simp);have r1:=RB.cell (j:=1) (by simp);have r2:=RB.cell (j:=2) (by simp);have s0:=RB.frozen 0;have s1:=RB.frozen 1;have s2:=RB.frozen 2;simp only[aB,aC]at r0 r1 r2
    unfold bQ))
 have HZ8:=aA (aJ ho' (aJ hlB hcB));clear ho' hlB hcB hl' hc RB z0 z1 z2;go_wp2;refine bE (v:= .agg #[.int .i64 1,.string ⟨#[]⟩,.int .i64 0]) (by simp[results,Tryz.results71,go_sem,r0,r1,r2]) rfl ?_;obtain⟨a1,a2,a3⟩:=HZ8.out;have ch:=(((a3.pull B8.out hpw).setN (p:=⟨w.heap.size+1,0,none⟩) (by simp) hpw (.int .i64 1)).setN (p:=⟨w.heap.size+1,1,none⟩) (by simp) hpw (.string ⟨#[]⟩)).setN (p:=⟨w.heap.size+1,2,none⟩) (by simp) hpw (.int .i64 0);have hgR:w.heap.size+1≠g':=by rcases a2 with hh|hh<;>omega
 have oF:OwnL (((wB.setCell ⟨w.heap.size+1,0,none⟩ (.int .i64 1)).setCell ⟨w.heap.size+1,1,none⟩ (.string ⟨#[]⟩)).setCell ⟨w.heap.size+1,2,none⟩ (.int .i64 0)) g' c' (cI W.ss[i].wr key val):=⟨((a1.row.other hgR _).other hgR _).other hgR _,a1.len,a1.most⟩;have hlg:base<=g':=by have q1:=lo.g i 3 hi (by omega);rcases a2 with hh|hh<;>omega
 refine⟨rfl,H.out.stored lo hlg HZ.out hi (j:=3) (by omega) (by have h1:=kY W.ss[i].wr key val;rw[eS HWR.out]at h1;have:=(HZ.out.li i 3 hi (by omega)).1;have e:(W.ss[i].li 3).length=W.ss[i].wr.length:=rfl;show(cI W.ss[i].wr key val).length<=1000;omega) (((HZ.out.li i 3 hi (by omega)).sz).ins (by omega) (by omega)) oF ch rfl (fun k hk=>?_),ch.bel (lo.g i 3 hi (by omega)) lo.s hb,fun b hb _ h2 _ h4=>ch.other b hb (h4 i 3 hi (by omega)) h2⟩;rcases j4 hk with rfl|rfl|rfl|rfl<;>rfl
theorem vAp (base X S gR cR:Nat)(G C:Nat->Nat->Nat)(W:Wd)(i:Nat)(key val:ByteArray)(w:World)(h:OwnD w X S gR cR G C W)(lo:LoD base X S gR G W.ss.length)(hw:bX W)(hb:base<=w.heap.size)(hi:i<W.ss.length)(hkz:key.size<=8)(hvz:val.size<=60)(hown:aM W.ss[i].wr key=false)(hc0:bK (W.ss.flatMap (·.wr)) key=0)(hfn:aM (aW W) key=false)(hfl:(aW W).length<100)(hst:W.ss[i].st=1):
  Calls Tryz.prog 71 #[.pointer (some ⟨X,0,none⟩),.int .i64 i,.agg #[.int .i64 10,.string key,.string val]] w (lC w base X S gR G W.ss.length (W.put i {W.ss[i]with wr:=cI W.ss[i].wr key val})):=by
 have HOWN:=aA hown;have HROOM:=aA (sT hw hi (key:=key) (fun hh=>by omega));have HRR:=aA ((bW hw.rows).1);clear hown;have hz:=dN hw;have hXw:=h.box.lt;have hSw:=h.blk.lt;have hpr:=bW hw.rows;have HCW:=aA (fun(w9:World) (h9:Wld w9 w9.heap.size (slc gR W.rows.length cR) (slc S W.ss.length W.ss.length) W)=>mS _ _ W w9 h9 hpr.2.1 hpr.1 hw.many (fun j hj=>(bW (hw.sess j hj).wr).2.1));have HWR:=aA ((bW (hw.sess i hi).wr).1);have b0:Below w.heap.size w ((w.alloc (.cells #[.int .i64 10,.string key,.string val] 41)).alloc (.cells #[.int .i64 0,.string ⟨#[]⟩,.int .i64 0] 46)):=((aD _ _).alloc (aI _) _).alloc (by simp) _;have h0:=h.kept b0;have x0:=h.box.cell (j:=0) (by simp);have x1:=h.box.cell (j:=1) (by simp);simp only[aB,aC]at x0 x1;unfold slc at x0 x1
 have X0:RowTo ((w.alloc (.cells #[.int .i64 10,.string key,.string val] 41)).alloc (.cells #[.int .i64 0,.string ⟨#[]⟩,.int .i64 0] 46)) (w.heap.size+1) 46 3 [.int .i64 0,.string ⟨#[]⟩,.int .i64 0]:=by
  have:=RowTo.whole (w.alloc (.cells #[.int .i64 10,.string key,.string val] 41)) #[.int .i64 0,.string ⟨#[]⟩,.int .i64 0] 46
  simpa using this
 have Y0:RowTo ((w.alloc (.cells #[.int .i64 10,.string key,.string val] 41)).alloc (.cells #[.int .i64 0,.string ⟨#[]⟩,.int .i64 0] 46)) w.heap.size 41 3 [.int .i64 10,.string key,.string val]:=(RowTo.whole w #[.int .i64 10,.string key,.string val] 41).alloc _;have hzs:((w.alloc (.cells #[.int .i64 10,.string key,.string val] 41)).alloc (.cells #[.int .i64 0,.string ⟨#[]⟩,.int .i64 0] 46)).heap.size=w.heap.size+1+1:=by simp
 have hkey:=mC (s:=key) (by omega);have hii:(i:Int)<(W.ss.length:Int):=by omega
 have H:=aA h;have H0:=aA h0;have HZ:=aA hz;have HW:=aA hw;have B0:=aA b0;have HX0:=aA X0;have HY0:=aA Y0;have HZS:=aA hzs;clear h h0 hz hw b0 X0 Y0 hzs hpr;go_enter Tryz.func71,Tryz.ntmps71;go_wp2_with fail;refine(HCW.out _ (H0.out.wld HZ.out)).mono ?_;rintro e w1 ⟨bm,n,M,rfl,hown,hmap,hn,hbm,hb1⟩;have hs1:=hb1.size;have H1:=aA (H0.out.kept hb1);have B1:=aA (aR B0.out hb1 B0.out.size);have X1:=aA (HX0.out.below hb1 HX0.out.lt);have Y1:=HY0.out.below hb1 HY0.out.lt;have q1:=Y1.cell (j:=1) (by simp);simp only[aB,aC]at q1;have HY1:=aA Y1;have HO:=aA hown;have HM:=aA hmap;have HAT:=aA (hmap.at_ key);have hhas:Maps.has M (kl key)=aM (aW W) key:=hmap.has key;have hsize:Maps.size M=(aW W).length:=hmap.size;rw[HZS.out]at hs1;have hbm':w.heap.size+1+1<=bm:=by rw[HZS.out]at hbm;exact hbm
 clear hown hmap hb1 Y1 x0 x1 hbm;have g1:decide ((0:Int)<(bK (W.ss.flatMap (·.wr)) key:Int))=false:=aY (by omega);have g2:decide (0<bK (W.ss.flatMap (·.wr)) key)=false:=aY (by omega);rw[hfn]at hhas;have g3:decide ((100:Int)<=((aW W).length:Int))=false:=aY (by omega);have g4:decide (100<=(aW W).length)=false:=aY (by omega)
 go_wp2_with (first
  |(at_lookup;refine wpList_lookup_own_ok_int _ rfl _ _ 162 rfl 9 3 .i64 jE Tryz.underlying162 Tryz.underlying3 (mR _) bm n _ rfl HO.out _ _ rfl hkey ?_;intro q hat hwq;obtain rfl:q=(bK (W.ss.flatMap (·.wr)) key:Int):=(lF (HAT.out.symm.trans hat)).symm;clear hat hwq)
  | go_in)
 have q4:w1.cell? ⟨S,i*5+4,none⟩=some (.slice (some ⟨G i 3,0,none⟩) W.ss[i].wr.length (C i 3)):=H1.out.cs i 3 hi (by omega);have hl4:=aA (show Lst w1 w1.heap.size (.slice (some ⟨G i 3,0,none⟩) W.ss[i].wr.length (C i 3)) W.ss[i].wr from H1.out.list HZ.out hi (j:=3) (by omega));have hz0:w.heap.size<w1.heap.size:=by omega
 have hz1:S<w1.heap.size:=H1.out.blk.lt;have kb:=aD w1.heap.size w1;have dS:=aA (show w1.drew.cell? ⟨S,i*5+4,none⟩=some (.slice (some ⟨G i 3,0,none⟩) W.ss[i].wr.length (C i 3))/\w1.drew.cell? ⟨w.heap.size,1,none⟩=some (.string key)from⟨q4,q1⟩)
 go_region_held3 (fun wx=>wx.cell? ⟨S,i*5+4,none⟩=some (.slice (some ⟨G i 3,0,none⟩) W.ss[i].wr.length (C i 3))/\wx.cell? ⟨w.heap.size,1,none⟩=some (.string key))
  (first
   |with_reducible exact⟨q4,q1⟩
   |with_reducible exact dS.out
   | with_reducible exact ⟨(kb.cell (p := ⟨S, i * 5 + 4, none⟩) hz1).trans q4, (kb.cell (p := ⟨w.heap.size, 1, none⟩) hz0).trans q1⟩)
  (first
   | (
    go_at_call 95
    refine(jA _ W.ss[i].wr key _ (by first|exact hl4.out|exact(hl4.out.step ((aD _ _).drew))|exact(hl4.out.step (aZ (aD _ _) _))) HWR.out).mono ?_
    rw[HOWN.out];rintro e w8 ⟨rfl,hy⟩
    have kb : Below w1.heap.size w1 w8 := by first | exact kb.trans (hy.mono kb.size) | exact kb.trans ⟨hy.os, hy.tape, hy.output, hy.size, fun i hi => hy.block i (bD hi kb.size)⟩))
 have hs8:=kb.size;have H8:=aA (H1.out.kept kb);have B8:=aA (aR B1.out kb B1.out.size);have X8:=aA (X1.out.below kb X1.out.lt);have Y8:=aA (HY1.out.below kb HY1.out.lt);have O8:=aA (HO.out.kept (jM kb none) (by simp));clear kb q1 q4 dS;have hlen:=O8.out.len (t:=162) (e:=3) Tryz.underlying162;have c0:=H8.out.st i hi;rw[hst]at c0;have pc:w8.cell? ⟨S,i*5+4,none⟩=some (.slice (some ⟨G i 3,0,none⟩) W.ss[i].wr.length (C i 3)):=H8.out.cs i 3 hi (by omega);have pf:=H8.out.blk.frozen (i*5+4);have hneg:S≠G i 3:=Ne.symm (H8.out.neGS i 3 hi (by omega));have hgw:G i 3<w.heap.size:=(H.out.ls i 3 hi (by omega)).row.lt;have hpw:S<w.heap.size:=hSw;have HSTORE:=aA (fun(w9:World) (ho9:OwnL w9 (G i 3) (C i 3) W.ss[i].wr) (hp9:w9.cell? ⟨S,i*5+4,none⟩=some (.slice (some ⟨G i 3,0,none⟩) W.ss[i].wr.length (C i 3))) (hf9:w9.frozen? ⟨S,i*5+4,none⟩=false)=>oT (G i 3) (C i 3) S (i*5+4) W.ss[i].wr 10 key val 100 w9 ho9 HWR.out (by have:=(HZ.out.li i 3 hi (by omega)).1;have e:(W.ss[i].li 3).length=W.ss[i].wr.length:=rfl;omega) ((HZ.out.li i 3 hi (by omega)).sz) hp9 hf9 hneg (by omega) (by omega) HROOM.out);have O9:=aA (show OwnL w8 (G i 3) (C i 3) W.ss[i].wr from H8.out.ls i 3 hi (by omega));have PC:=aA (aJ pc pf);have hw8:w.heap.size<w8.heap.size:=by omega
 have hR8:w.heap.size+1<w8.heap.size:=by omega
 have y0:=Y8.out.cell (j:=0) (by simp);have y1:=Y8.out.cell (j:=1) (by simp);have y2:=Y8.out.cell (j:=2) (by simp);simp only[aB,aC]at y0 y1 y2;clear pc pf;go_wp2;have dS:=aA (show w8.drew.cell? ⟨w.heap.size,0,none⟩=some (.int .i64 10)/\w8.drew.cell? ⟨w.heap.size,1,none⟩=some (.string key)/\w8.drew.cell? ⟨w.heap.size,2,none⟩=some (.string val)from⟨y0,y1,y2⟩);have hne1:w.heap.size≠G i 3:=by omega
 have hne2:w.heap.size≠S:=by omega
 have hne3:w.heap.size+1≠G i 3:=by omega
 have hne4:w.heap.size+1≠S:=by omega
 go_region_held3 (fun wx=>wx.cell? ⟨w.heap.size,0,none⟩=some (.int .i64 10)/\wx.cell? ⟨w.heap.size,1,none⟩=some (.string key)/\wx.cell? ⟨w.heap.size,2,none⟩=some (.string val))
  (first
   |with_reducible exact⟨y0,y1,y2⟩
   |with_reducible exact dS.out
   |with_reducible exact⟨eW z0 (by omega),eW z1 (by omega),eW z2 (by omega)⟩
   | with_reducible exact ⟨z0, z1, z2⟩)
  (first
   | (
    go_at_call 70
    refine(HSTORE.out _ (by first|exact O9.out|exact O9.out.same rfl) (by first|exact PC.out.1|assumption) (by first|exact PC.out.2|assumption)).mono ?_
    rintro e wB ⟨g',c',rfl,ho',hl',hc⟩;have hcB:Chg w8 wB (G i 3) S (i*5+4) (.slice (some ⟨g',0,none⟩) (cI W.ss[i].wr key val).length c'):=⟨hc.os,hc.tape,hc.output,hc.size,hc.other,hc.here⟩;have hlB:g'=G i 3\/w8.heap.size<=g':=hl';have z0:=(aV (a:=⟨w.heap.size,0,none⟩) (hcB.other _ hw8 hne1 hne2)).trans y0;have z1:=(aV (a:=⟨w.heap.size,1,none⟩) (hcB.other _ hw8 hne1 hne2)).trans y1;have z2:=(aV (a:=⟨w.heap.size,2,none⟩) (hcB.other _ hw8 hne1 hne2)).trans y2;have RB:=X8.out.same (hcB.other _ hR8 hne3 hne4);have r0:=RB.cell (j:=0) (by simp);have r1:=RB.cell (j:=1) (by simp);have r2:=RB.cell (j:=2) (by simp);have s0:=RB.frozen 0;have s1:=RB.frozen 1;have s2:=RB.frozen 2;simp only[aB,aC]at r0 r1 r2
    unfold bQ))
 have HZ8:=aA (aJ ho' (aJ hlB hcB));clear ho' hlB hcB hl' hc RB z0 z1 z2;go_wp2;refine bE (v:= .agg #[.int .i64 1,.string ⟨#[]⟩,.int .i64 0]) (by simp[results,Tryz.results71,go_sem,r0,r1,r2]) rfl ?_;obtain⟨a1,a2,a3⟩:=HZ8.out;have ch:=(((a3.pull B8.out hpw).setN (p:=⟨w.heap.size+1,0,none⟩) (by simp) hpw (.int .i64 1)).setN (p:=⟨w.heap.size+1,1,none⟩) (by simp) hpw (.string ⟨#[]⟩)).setN (p:=⟨w.heap.size+1,2,none⟩) (by simp) hpw (.int .i64 0);have hgR:w.heap.size+1≠g':=by rcases a2 with hh|hh<;>omega
 have oF:OwnL (((wB.setCell ⟨w.heap.size+1,0,none⟩ (.int .i64 1)).setCell ⟨w.heap.size+1,1,none⟩ (.string ⟨#[]⟩)).setCell ⟨w.heap.size+1,2,none⟩ (.int .i64 0)) g' c' (cI W.ss[i].wr key val):=⟨((a1.row.other hgR _).other hgR _).other hgR _,a1.len,a1.most⟩;have hlg:base<=g':=by have q1:=lo.g i 3 hi (by omega);rcases a2 with hh|hh<;>omega
 refine⟨rfl,H.out.stored lo hlg HZ.out hi (j:=3) (by omega) (by have h1:=kY W.ss[i].wr key val;rw[eS HWR.out]at h1;have:=(HZ.out.li i 3 hi (by omega)).1;have e:(W.ss[i].li 3).length=W.ss[i].wr.length:=rfl;show(cI W.ss[i].wr key val).length<=1000;omega) (((HZ.out.li i 3 hi (by omega)).sz).ins (by omega) (by omega)) oF ch rfl (fun k hk=>?_),ch.bel (lo.g i 3 hi (by omega)) lo.s hb,fun b hb _ h2 _ h4=>ch.other b hb (h4 i 3 hi (by omega)) h2⟩;rcases j4 hk with rfl|rfl|rfl|rfl<;>rfl
theorem vAq (base X S gR cR:Nat)(G C:Nat->Nat->Nat)(W:Wd)(i:Nat)(key val:ByteArray)(w:World)(h:OwnD w X S gR cR G C W)(lo:LoD base X S gR G W.ss.length)(hw:bX W)(hb:base<=w.heap.size)(hi:i<W.ss.length)(hkz:key.size<=8)(hvz:val.size<=60)(hown:aM W.ss[i].wr key=false)(hc0:bK (W.ss.flatMap (·.wr)) key=0)(hfn:aM (aW W) key=true)(hst:W.ss[i].st≠1):
  Calls Tryz.prog 71 #[.pointer (some ⟨X,0,none⟩),.int .i64 i,.agg #[.int .i64 10,.string key,.string val]] w (lC w base X S gR G W.ss.length ⟨cI W.rows key val,W.ss⟩):=by
 have HOWN:=aA hown;have HROOM:=aA (wG hw (key:=key) (fun hh=>by rw[hfn]at hh;cases hh.1));have HRR:=aA ((bW hw.rows).1);clear hown;have hz:=dN hw;have hXw:=h.box.lt;have hSw:=h.blk.lt;have hpr:=bW hw.rows;have HCW:=aA (fun(w9:World) (h9:Wld w9 w9.heap.size (slc gR W.rows.length cR) (slc S W.ss.length W.ss.length) W)=>mS _ _ W w9 h9 hpr.2.1 hpr.1 hw.many (fun j hj=>(bW (hw.sess j hj).wr).2.1));have HWR:=aA ((bW (hw.sess i hi).wr).1);have b0:Below w.heap.size w ((w.alloc (.cells #[.int .i64 10,.string key,.string val] 41)).alloc (.cells #[.int .i64 0,.string ⟨#[]⟩,.int .i64 0] 46)):=((aD _ _).alloc (aI _) _).alloc (by simp) _;have h0:=h.kept b0;have x0:=h.box.cell (j:=0) (by simp);have x1:=h.box.cell (j:=1) (by simp);simp only[aB,aC]at x0 x1;unfold slc at x0 x1
 have X0:RowTo ((w.alloc (.cells #[.int .i64 10,.string key,.string val] 41)).alloc (.cells #[.int .i64 0,.string ⟨#[]⟩,.int .i64 0] 46)) (w.heap.size+1) 46 3 [.int .i64 0,.string ⟨#[]⟩,.int .i64 0]:=by
  have:=RowTo.whole (w.alloc (.cells #[.int .i64 10,.string key,.string val] 41)) #[.int .i64 0,.string ⟨#[]⟩,.int .i64 0] 46
  simpa using this
 have Y0:RowTo ((w.alloc (.cells #[.int .i64 10,.string key,.string val] 41)).alloc (.cells #[.int .i64 0,.string ⟨#[]⟩,.int .i64 0] 46)) w.heap.size 41 3 [.int .i64 10,.string key,.string val]:=(RowTo.whole w #[.int .i64 10,.string key,.string val] 41).alloc _;have hzs:((w.alloc (.cells #[.int .i64 10,.string key,.string val] 41)).alloc (.cells #[.int .i64 0,.string ⟨#[]⟩,.int .i64 0] 46)).heap.size=w.heap.size+1+1:=by simp
 have hkey:=mC (s:=key) (by omega);have hii:(i:Int)<(W.ss.length:Int):=by omega
 have H:=aA h;have H0:=aA h0;have HZ:=aA hz;have HW:=aA hw;have B0:=aA b0;have HX0:=aA X0;have HY0:=aA Y0;have HZS:=aA hzs;clear h h0 hz hw b0 X0 Y0 hzs hpr;go_enter Tryz.func71,Tryz.ntmps71;go_wp2_with fail;refine(HCW.out _ (H0.out.wld HZ.out)).mono ?_;rintro e w1 ⟨bm,n,M,rfl,hown,hmap,hn,hbm,hb1⟩;have hs1:=hb1.size;have H1:=aA (H0.out.kept hb1);have B1:=aA (aR B0.out hb1 B0.out.size);have X1:=aA (HX0.out.below hb1 HX0.out.lt);have Y1:=HY0.out.below hb1 HY0.out.lt;have q1:=Y1.cell (j:=1) (by simp);simp only[aB,aC]at q1;have HY1:=aA Y1;have HO:=aA hown;have HM:=aA hmap;have HAT:=aA (hmap.at_ key);have hhas:Maps.has M (kl key)=aM (aW W) key:=hmap.has key;have hsize:Maps.size M=(aW W).length:=hmap.size;rw[HZS.out]at hs1;have hbm':w.heap.size+1+1<=bm:=by rw[HZS.out]at hbm;exact hbm
 clear hown hmap hb1 Y1 x0 x1 hbm;have g1:decide ((0:Int)<(bK (W.ss.flatMap (·.wr)) key:Int))=false:=aY (by omega);have g2:decide (0<bK (W.ss.flatMap (·.wr)) key)=false:=aY (by omega);rw[hfn]at hhas
 go_wp2_with (first
  |(at_lookup;refine wpList_lookup_own_ok_int _ rfl _ _ 162 rfl 9 3 .i64 jE Tryz.underlying162 Tryz.underlying3 (mR _) bm n _ rfl HO.out _ _ rfl hkey ?_;intro q hat hwq;obtain rfl:q=(bK (W.ss.flatMap (·.wr)) key:Int):=(lF (HAT.out.symm.trans hat)).symm;clear hat hwq)
  | go_in)
 have q4:w1.cell? ⟨S,i*5+4,none⟩=some (.slice (some ⟨G i 3,0,none⟩) W.ss[i].wr.length (C i 3)):=H1.out.cs i 3 hi (by omega);have hl4:=aA (show Lst w1 w1.heap.size (.slice (some ⟨G i 3,0,none⟩) W.ss[i].wr.length (C i 3)) W.ss[i].wr from H1.out.list HZ.out hi (j:=3) (by omega));have hz0:w.heap.size<w1.heap.size:=by omega
 have hz1:S<w1.heap.size:=H1.out.blk.lt;have kb:=aD w1.heap.size w1;have dS:=aA (show w1.drew.cell? ⟨S,i*5+4,none⟩=some (.slice (some ⟨G i 3,0,none⟩) W.ss[i].wr.length (C i 3))/\w1.drew.cell? ⟨w.heap.size,1,none⟩=some (.string key)from⟨q4,q1⟩)
 go_region_held3 (fun wx=>wx.cell? ⟨S,i*5+4,none⟩=some (.slice (some ⟨G i 3,0,none⟩) W.ss[i].wr.length (C i 3))/\wx.cell? ⟨w.heap.size,1,none⟩=some (.string key))
  (first
   |with_reducible exact⟨q4,q1⟩
   |with_reducible exact dS.out
   | with_reducible exact ⟨(kb.cell (p := ⟨S, i * 5 + 4, none⟩) hz1).trans q4, (kb.cell (p := ⟨w.heap.size, 1, none⟩) hz0).trans q1⟩)
  (first
   | (
    go_at_call 95
    refine(jA _ W.ss[i].wr key _ (by first|exact hl4.out|exact(hl4.out.step ((aD _ _).drew))|exact(hl4.out.step (aZ (aD _ _) _))) HWR.out).mono ?_
    rw[HOWN.out];rintro e w8 ⟨rfl,hy⟩
    have kb : Below w1.heap.size w1 w8 := by first | exact kb.trans (hy.mono kb.size) | exact kb.trans ⟨hy.os, hy.tape, hy.output, hy.size, fun i hi => hy.block i (bD hi kb.size)⟩))
 have hs8:=kb.size;have H8:=aA (H1.out.kept kb);have B8:=aA (aR B1.out kb B1.out.size);have X8:=aA (X1.out.below kb X1.out.lt);have Y8:=aA (HY1.out.below kb HY1.out.lt);have O8:=aA (HO.out.kept (jM kb none) (by simp));clear kb q1 q4 dS;have c0:=H8.out.st i hi;have e9:(W.ss[i].st==1)=false:=bJ.2 hst;have pc:w8.cell? ⟨X,0,none⟩=some (.slice (some ⟨gR,0,none⟩) W.rows.length cR):=by have:=H8.out.box.cell (j:=0) (by simp);simpa [slc] using this
 have pf:=H8.out.box.frozen 0;have hneg:X≠gR:=Ne.symm H8.out.neRX;have hgw:gR<w.heap.size:=H.out.rows.row.lt;have hpw:X<w.heap.size:=hXw;have HSTORE:=aA (fun(w9:World) (ho9:OwnL w9 gR cR W.rows) (hp9:w9.cell? ⟨X,0,none⟩=some (.slice (some ⟨gR,0,none⟩) W.rows.length cR)) (hf9:w9.frozen? ⟨X,0,none⟩=false)=>oT gR cR X 0 W.rows 10 key val 100 w9 ho9 HRR.out (by have:=HZ.out.rows.1;omega) (HZ.out.rows.sz) hp9 hf9 hneg (by omega) (by omega) HROOM.out);have O9:=aA (show OwnL w8 gR cR W.rows from H8.out.rows);have PC:=aA (aJ pc pf);have hw8:w.heap.size<w8.heap.size:=by omega
 have hR8:w.heap.size+1<w8.heap.size:=by omega
 have y0:=Y8.out.cell (j:=0) (by simp);have y1:=Y8.out.cell (j:=1) (by simp);have y2:=Y8.out.cell (j:=2) (by simp);simp only[aB,aC]at y0 y1 y2;clear pc pf;go_wp2;have dS:=aA (show w8.drew.cell? ⟨w.heap.size,0,none⟩=some (.int .i64 10)/\w8.drew.cell? ⟨w.heap.size,1,none⟩=some (.string key)/\w8.drew.cell? ⟨w.heap.size,2,none⟩=some (.string val)from⟨y0,y1,y2⟩);have hne1:w.heap.size≠gR:=by omega
 have hne2:w.heap.size≠X:=by omega
 have hne3:w.heap.size+1≠gR:=by omega
 have hne4:w.heap.size+1≠X:=by omega
 go_region_held3 (fun wx=>wx.cell? ⟨w.heap.size,0,none⟩=some (.int .i64 10)/\wx.cell? ⟨w.heap.size,1,none⟩=some (.string key)/\wx.cell? ⟨w.heap.size,2,none⟩=some (.string val))
  (first
   |with_reducible exact⟨y0,y1,y2⟩
   |with_reducible exact dS.out
   |with_reducible exact⟨eW z0 (by omega),eW z1 (by omega),eW z2 (by omega)⟩
   | with_reducible exact ⟨z0, z1, z2⟩)
  (first
   | (
    go_at_call 70
    refine(HSTORE.out _ (by first|exact O9.out|exact O9.out.same rfl) (by first|exact PC.out.1|assumption) (by first|exact PC.out.2|assumption)).mono ?_
    rintro e wB ⟨g',c',rfl,ho',hl',hc⟩;have hcB:Chg w8 wB gR X 0 (.slice (some ⟨g',0,none⟩) (cI W.rows key val).length c'):=⟨hc.os,hc.tape,hc.output,hc.size,hc.other,hc.here⟩;have hlB:g'=gR\/w8.heap.size<=g':=hl';have z0:=(aV (a:=⟨w.heap.size,0,none⟩) (hcB.other _ hw8 hne1 hne2)).trans y0;have z1:=(aV (a:=⟨w.heap.size,1,none⟩) (hcB.other _ hw8 hne1 hne2)).trans y1;have z2:=(aV (a:=⟨w.heap.size,2,none⟩) (hcB.other _ hw8 hne1 hne2)).trans y2;have RB:=X8.out.same (hcB.other _ hR8 hne3 hne4);have r0:=RB.cell (j:=0) (by simp);have r1:=RB.cell (j:=1) (by simp);have r2:=RB.cell (j:=2) (by simp);have s0:=RB.frozen 0;have s1:=RB.frozen 1;have s2:=RB.frozen 2;simp only[aB,aC]at r0 r1 r2
    unfold bQ))
 have HZ8:=aA (aJ ho' (aJ hlB hcB));clear ho' hlB hcB hl' hc RB z0 z1 z2;go_wp2;refine bE (v:= .agg #[.int .i64 1,.string ⟨#[]⟩,.int .i64 0]) (by simp[results,Tryz.results71,go_sem,r0,r1,r2]) rfl ?_;obtain⟨a1,a2,a3⟩:=HZ8.out;have ch:=(((a3.pull B8.out hpw).setN (p:=⟨w.heap.size+1,0,none⟩) (by simp) hpw (.int .i64 1)).setN (p:=⟨w.heap.size+1,1,none⟩) (by simp) hpw (.string ⟨#[]⟩)).setN (p:=⟨w.heap.size+1,2,none⟩) (by simp) hpw (.int .i64 0);have hgR:w.heap.size+1≠g':=by rcases a2 with hh|hh<;>omega
 have oF:OwnL (((wB.setCell ⟨w.heap.size+1,0,none⟩ (.int .i64 1)).setCell ⟨w.heap.size+1,1,none⟩ (.string ⟨#[]⟩)).setCell ⟨w.heap.size+1,2,none⟩ (.int .i64 0)) g' c' (cI W.rows key val):=⟨((a1.row.other hgR _).other hgR _).other hgR _,a1.len,a1.most⟩;have hlg:base<=g':=by have q1:=lo.r;rcases a2 with hh|hh<;>omega
 exact⟨rfl,H.out.storedR lo hlg HZ.out hi (by have h1:=kY W.rows key val;rw[eS HRR.out]at h1;have:=HZ.out.rows.1;omega) (HZ.out.rows.sz.ins (by omega) (by omega)) oF ch,ch.bel lo.r lo.x hb,fun b hb h1 _ h3 _=>ch.other b hb h3 h1⟩
theorem vAr (base X S gR cR:Nat)(G C:Nat->Nat->Nat)(W:Wd)(i:Nat)(key val:ByteArray)(w:World)(h:OwnD w X S gR cR G C W)(lo:LoD base X S gR G W.ss.length)(hw:bX W)(hb:base<=w.heap.size)(hi:i<W.ss.length)(hkz:key.size<=8)(hvz:val.size<=60)(hown:aM W.ss[i].wr key=false)(hc0:bK (W.ss.flatMap (·.wr)) key=0)(hfn:aM (aW W) key=false)(hfl:(aW W).length<100)(hst:W.ss[i].st≠1):
  Calls Tryz.prog 71 #[.pointer (some ⟨X,0,none⟩),.int .i64 i,.agg #[.int .i64 10,.string key,.string val]] w (lC w base X S gR G W.ss.length ⟨cI W.rows key val,W.ss⟩):=by
 have HOWN:=aA hown;have HROOM:=aA (wG hw (key:=key) (fun hh=>by omega));have HRR:=aA ((bW hw.rows).1);clear hown;have hz:=dN hw;have hXw:=h.box.lt;have hSw:=h.blk.lt;have hpr:=bW hw.rows;have HCW:=aA (fun(w9:World) (h9:Wld w9 w9.heap.size (slc gR W.rows.length cR) (slc S W.ss.length W.ss.length) W)=>mS _ _ W w9 h9 hpr.2.1 hpr.1 hw.many (fun j hj=>(bW (hw.sess j hj).wr).2.1));have HWR:=aA ((bW (hw.sess i hi).wr).1);have b0:Below w.heap.size w ((w.alloc (.cells #[.int .i64 10,.string key,.string val] 41)).alloc (.cells #[.int .i64 0,.string ⟨#[]⟩,.int .i64 0] 46)):=((aD _ _).alloc (aI _) _).alloc (by simp) _;have h0:=h.kept b0;have x0:=h.box.cell (j:=0) (by simp);have x1:=h.box.cell (j:=1) (by simp);simp only[aB,aC]at x0 x1;unfold slc at x0 x1
 have X0:RowTo ((w.alloc (.cells #[.int .i64 10,.string key,.string val] 41)).alloc (.cells #[.int .i64 0,.string ⟨#[]⟩,.int .i64 0] 46)) (w.heap.size+1) 46 3 [.int .i64 0,.string ⟨#[]⟩,.int .i64 0]:=by
  have:=RowTo.whole (w.alloc (.cells #[.int .i64 10,.string key,.string val] 41)) #[.int .i64 0,.string ⟨#[]⟩,.int .i64 0] 46
  simpa using this
 have Y0:RowTo ((w.alloc (.cells #[.int .i64 10,.string key,.string val] 41)).alloc (.cells #[.int .i64 0,.string ⟨#[]⟩,.int .i64 0] 46)) w.heap.size 41 3 [.int .i64 10,.string key,.string val]:=(RowTo.whole w #[.int .i64 10,.string key,.string val] 41).alloc _;have hzs:((w.alloc (.cells #[.int .i64 10,.string key,.string val] 41)).alloc (.cells #[.int .i64 0,.string ⟨#[]⟩,.int .i64 0] 46)).heap.size=w.heap.size+1+1:=by simp
 have hkey:=mC (s:=key) (by omega);have hii:(i:Int)<(W.ss.length:Int):=by omega
 have H:=aA h;have H0:=aA h0;have HZ:=aA hz;have HW:=aA hw;have B0:=aA b0;have HX0:=aA X0;have HY0:=aA Y0;have HZS:=aA hzs;clear h h0 hz hw b0 X0 Y0 hzs hpr;go_enter Tryz.func71,Tryz.ntmps71;go_wp2_with fail;refine(HCW.out _ (H0.out.wld HZ.out)).mono ?_;rintro e w1 ⟨bm,n,M,rfl,hown,hmap,hn,hbm,hb1⟩;have hs1:=hb1.size;have H1:=aA (H0.out.kept hb1);have B1:=aA (aR B0.out hb1 B0.out.size);have X1:=aA (HX0.out.below hb1 HX0.out.lt);have Y1:=HY0.out.below hb1 HY0.out.lt;have q1:=Y1.cell (j:=1) (by simp);simp only[aB,aC]at q1;have HY1:=aA Y1;have HO:=aA hown;have HM:=aA hmap;have HAT:=aA (hmap.at_ key);have hhas:Maps.has M (kl key)=aM (aW W) key:=hmap.has key;have hsize:Maps.size M=(aW W).length:=hmap.size;rw[HZS.out]at hs1;have hbm':w.heap.size+1+1<=bm:=by rw[HZS.out]at hbm;exact hbm
 clear hown hmap hb1 Y1 x0 x1 hbm;have g1:decide ((0:Int)<(bK (W.ss.flatMap (·.wr)) key:Int))=false:=aY (by omega);have g2:decide (0<bK (W.ss.flatMap (·.wr)) key)=false:=aY (by omega);rw[hfn]at hhas;have g3:decide ((100:Int)<=((aW W).length:Int))=false:=aY (by omega);have g4:decide (100<=(aW W).length)=false:=aY (by omega)
 go_wp2_with (first
  |(at_lookup;refine wpList_lookup_own_ok_int _ rfl _ _ 162 rfl 9 3 .i64 jE Tryz.underlying162 Tryz.underlying3 (mR _) bm n _ rfl HO.out _ _ rfl hkey ?_;intro q hat hwq;obtain rfl:q=(bK (W.ss.flatMap (·.wr)) key:Int):=(lF (HAT.out.symm.trans hat)).symm;clear hat hwq)
  | go_in)
 have q4:w1.cell? ⟨S,i*5+4,none⟩=some (.slice (some ⟨G i 3,0,none⟩) W.ss[i].wr.length (C i 3)):=H1.out.cs i 3 hi (by omega);have hl4:=aA (show Lst w1 w1.heap.size (.slice (some ⟨G i 3,0,none⟩) W.ss[i].wr.length (C i 3)) W.ss[i].wr from H1.out.list HZ.out hi (j:=3) (by omega));have hz0:w.heap.size<w1.heap.size:=by omega
 have hz1:S<w1.heap.size:=H1.out.blk.lt;have kb:=aD w1.heap.size w1;have dS:=aA (show w1.drew.cell? ⟨S,i*5+4,none⟩=some (.slice (some ⟨G i 3,0,none⟩) W.ss[i].wr.length (C i 3))/\w1.drew.cell? ⟨w.heap.size,1,none⟩=some (.string key)from⟨q4,q1⟩)
 go_region_held3 (fun wx=>wx.cell? ⟨S,i*5+4,none⟩=some (.slice (some ⟨G i 3,0,none⟩) W.ss[i].wr.length (C i 3))/\wx.cell? ⟨w.heap.size,1,none⟩=some (.string key))
  (first
   |with_reducible exact⟨q4,q1⟩
   |with_reducible exact dS.out
   | with_reducible exact ⟨(kb.cell (p := ⟨S, i * 5 + 4, none⟩) hz1).trans q4, (kb.cell (p := ⟨w.heap.size, 1, none⟩) hz0).trans q1⟩)
  (first
   | (
    go_at_call 95
    refine(jA _ W.ss[i].wr key _ (by first|exact hl4.out|exact(hl4.out.step ((aD _ _).drew))|exact(hl4.out.step (aZ (aD _ _) _))) HWR.out).mono ?_
    rw[HOWN.out];rintro e w8 ⟨rfl,hy⟩
    have kb : Below w1.heap.size w1 w8 := by first | exact kb.trans (hy.mono kb.size) | exact kb.trans ⟨hy.os, hy.tape, hy.output, hy.size, fun i hi => hy.block i (bD hi kb.size)⟩))
 have hs8:=kb.size;have H8:=aA (H1.out.kept kb);have B8:=aA (aR B1.out kb B1.out.size);have X8:=aA (X1.out.below kb X1.out.lt);have Y8:=aA (HY1.out.below kb HY1.out.lt);have O8:=aA (HO.out.kept (jM kb none) (by simp));clear kb q1 q4 dS;have hlen:=O8.out.len (t:=162) (e:=3) Tryz.underlying162;have c0:=H8.out.st i hi;have e9:(W.ss[i].st==1)=false:=bJ.2 hst;have pc:w8.cell? ⟨X,0,none⟩=some (.slice (some ⟨gR,0,none⟩) W.rows.length cR):=by have:=H8.out.box.cell (j:=0) (by simp);simpa [slc] using this
 have pf:=H8.out.box.frozen 0;have hneg:X≠gR:=Ne.symm H8.out.neRX;have hgw:gR<w.heap.size:=H.out.rows.row.lt;have hpw:X<w.heap.size:=hXw;have HSTORE:=aA (fun(w9:World) (ho9:OwnL w9 gR cR W.rows) (hp9:w9.cell? ⟨X,0,none⟩=some (.slice (some ⟨gR,0,none⟩) W.rows.length cR)) (hf9:w9.frozen? ⟨X,0,none⟩=false)=>oT gR cR X 0 W.rows 10 key val 100 w9 ho9 HRR.out (by have:=HZ.out.rows.1;omega) (HZ.out.rows.sz) hp9 hf9 hneg (by omega) (by omega) HROOM.out);have O9:=aA (show OwnL w8 gR cR W.rows from H8.out.rows);have PC:=aA (aJ pc pf);have hw8:w.heap.size<w8.heap.size:=by omega
 have hR8:w.heap.size+1<w8.heap.size:=by omega
 have y0:=Y8.out.cell (j:=0) (by simp);have y1:=Y8.out.cell (j:=1) (by simp);have y2:=Y8.out.cell (j:=2) (by simp);simp only[aB,aC]at y0 y1 y2;clear pc pf;go_wp2;have dS:=aA (show w8.drew.cell? ⟨w.heap.size,0,none⟩=some (.int .i64 10)/\w8.drew.cell? ⟨w.heap.size,1,none⟩=some (.string key)/\w8.drew.cell? ⟨w.heap.size,2,none⟩=some (.string val)from⟨y0,y1,y2⟩);have hne1:w.heap.size≠gR:=by omega
 have hne2:w.heap.size≠X:=by omega
 have hne3:w.heap.size+1≠gR:=by omega
 have hne4:w.heap.size+1≠X:=by omega
 go_region_held3 (fun wx=>wx.cell? ⟨w.heap.size,0,none⟩=some (.int .i64 10)/\wx.cell? ⟨w.heap.size,1,none⟩=some (.string key)/\wx.cell? ⟨w.heap.size,2,none⟩=some (.string val))
  (first
   |with_reducible exact⟨y0,y1,y2⟩
   |with_reducible exact dS.out
   |with_reducible exact⟨eW z0 (by omega),eW z1 (by omega),eW z2 (by omega)⟩
   | with_reducible exact ⟨z0, z1, z2⟩)
  (first
   | (
    go_at_call 70
    refine(HSTORE.out _ (by first|exact O9.out|exact O9.out.same rfl) (by first|exact PC.out.1|assumption) (by first|exact PC.out.2|assumption)).mono ?_
    rintro e wB ⟨g',c',rfl,ho',hl',hc⟩;have hcB:Chg w8 wB gR X 0 (.slice (some ⟨g',0,none⟩) (cI W.rows key val).length c'):=⟨hc.os,hc.tape,hc.output,hc.size,hc.other,hc.here⟩;have hlB:g'=gR\/w8.heap.size<=g':=hl';have z0:=(aV (a:=⟨w.heap.size,0,none⟩) (hcB.other _ hw8 hne1 hne2)).trans y0;have z1:=(aV (a:=⟨w.heap.size,1,none⟩) (hcB.other _ hw8 hne1 hne2)).trans y1;have z2:=(aV (a:=⟨w.heap.size,2,none⟩) (hcB.other _ hw8 hne1 hne2)).trans y2;have RB:=X8.out.same (hcB.other _ hR8 hne3 hne4);have r0:=RB.cell (j:=0) (by simp);have r1:=RB.cell (j:=1) (by simp);have r2:=RB.cell (j:=2) (by simp);have s0:=RB.frozen 0;have s1:=RB.frozen 1;have s2:=RB.frozen 2;simp only[aB,aC]at r0 r1 r2
    unfold bQ))
 have HZ8:=aA (aJ ho' (aJ hlB hcB));clear ho' hlB hcB hl' hc RB z0 z1 z2;go_wp2;refine bE (v:= .agg #[.int .i64 1,.string ⟨#[]⟩,.int .i64 0]) (by simp[results,Tryz.results71,go_sem,r0,r1,r2]) rfl ?_;obtain⟨a1,a2,a3⟩:=HZ8.out;have ch:=(((a3.pull B8.out hpw).setN (p:=⟨w.heap.size+1,0,none⟩) (by simp) hpw (.int .i64 1)).setN (p:=⟨w.heap.size+1,1,none⟩) (by simp) hpw (.string ⟨#[]⟩)).setN (p:=⟨w.heap.size+1,2,none⟩) (by simp) hpw (.int .i64 0);have hgR:w.heap.size+1≠g':=by rcases a2 with hh|hh<;>omega
 have oF:OwnL (((wB.setCell ⟨w.heap.size+1,0,none⟩ (.int .i64 1)).setCell ⟨w.heap.size+1,1,none⟩ (.string ⟨#[]⟩)).setCell ⟨w.heap.size+1,2,none⟩ (.int .i64 0)) g' c' (cI W.rows key val):=⟨((a1.row.other hgR _).other hgR _).other hgR _,a1.len,a1.most⟩;have hlg:base<=g':=by have q1:=lo.r;rcases a2 with hh|hh<;>omega
 exact⟨rfl,H.out.storedR lo hlg HZ.out hi (by have h1:=kY W.rows key val;rw[eS HRR.out]at h1;have:=HZ.out.rows.1;omega) (HZ.out.rows.sz.ins (by omega) (by omega)) oF ch,ch.bel lo.r lo.x hb,fun b hb h1 _ h3 _=>ch.other b hb h3 h1⟩
def ExPost (w:World)(base X S gR:Nat)(G:Nat->Nat->Nat)(n:Nat)(r:Wd×cU)(e:Ending)(w':World):Prop:=e= .returned (bQ r.2.kind r.2.text)/\EndW w' base X S r.1/\Below base w w'/\kA8 w w' X S gR G n
theorem OwnD.ends {w:World}{base X S gR cR:Nat}{G C:Nat->Nat->Nat}{W:Wd}(h:OwnD w X S gR cR G C W)(lo:LoD base X S gR G W.ss.length)(hz:gV W):EndW w base X S W:=
 ⟨⟨_,h.box,h.wld hz,LoV.slc lo.r⟩,h.blk,lo.x,lo.s,fun k j v hk hj hv=>by rw[h.cs k j hk hj]at hv;injection hv with hv;rw[<-hv];exact lo.v hk hj⟩
theorem ExPost.same {w w':World}{base X S gR cR:Nat}{G C:Nat->Nat->Nat}{W:Wd}{k:Int}{t:ByteArray}(h:OwnD w X S gR cR G C W)(lo:LoD base X S gR G W.ss.length)(hz:gV W)(hb:base<=w.heap.size){e:Ending}(he:e= .returned (bQ k t))(b:Below w.heap.size w w'){n:Nat}:ExPost w base X S gR G n (W,⟨k,t⟩) e w':=
 ⟨he,(h.kept b).ends lo hz,b.mono hb,fun c hc _ _ _ _=>b.block c hc⟩
theorem ExPost.done {w w':World}{base X S gR n:Nat}{G:Nat->Nat->Nat}{W:Wd}{e:Ending}(h:lC w base X S gR G n W e w'):ExPost w base X S gR G n (W,dX) e w':=h
theorem RowTo.out_ {w:World}{g t n:Nat}{xs:List Value}(h:RowTo w g t n xs){j:Nat}(hj:n<=j):w.cell? ⟨g,j,none⟩=none:=by
 obtain⟨cur,hh,hs,hx⟩:=h;unfold World.cell?;simp only[hh];show cur[j]? =_;exact Array.getElem?_eq_none (by omega)
theorem RowTo.type {w:World}{g t n t' n':Nat}{xs ys:List Value}(h:RowTo w g t n xs)(k:RowTo w g t' n' ys):t=t':=by
 obtain⟨cur,hh,_⟩:=h;obtain⟨cur',hk,_⟩:=k;rw[hh]at hk;injection hk with hk;injection hk
theorem Lst.off {w w':World}{B R:Nat}{v:Value}{l:PL}{x y:Int}{s:ByteArray}(hR:RowTo w R 46 3 [.int .i64 x,.string s,.int .i64 y])(h:Lst w B v l)(hk: ∀b,b≠R->w'.heap[b]? =w.heap[b]?):Lst w' B v l:=by
 refine⟨h.form,h.bytes,h.sizes,fun hn=>?_,h.nil⟩;obtain⟨b,off,c,e,hb,hc⟩:=h.cells hn
 have hne:b≠R:=by
  rintro rfl;obtain⟨h1,h2⟩:=hc 0 hn;rw[Nat.zero_mul,Nat.add_zero]at h1 h2;have r0:=hR.cell (j:=0) (by simp);have r2:=hR.cell (j:=2) (by simp);simp only[aB,aC]at r0 r2;rcases Nat.lt_or_ge off 3 with ho|ho
  ·obtain rfl|rfl|rfl:off=0\/off=1\/off=2:=by omega
   ·rw[r0]at h1;cases h1
   ·rw[r2]at h2;cases h2
   ·rw[r2]at h1;cases h1
  ·rw[hR.out_ ho]at h1;cases h1
 exact⟨b,off,c,e,hb,fun i hi=>⟨(aV (hk b hne)).trans (hc i hi).1,(aV (hk b hne)).trans (hc i hi).2⟩⟩
theorem EndW.off {w w':World}{base X S R:Nat}{W:Wd}{x y:Int}{s:ByteArray}(h:EndW w base X S W)(hR:RowTo w R 46 3 [.int .i64 x,.string s,.int .i64 y])(hs:w'.heap.size=w.heap.size)(hk: ∀b,b≠R->w'.heap[b]? =w.heap[b]?):EndW w' base X S W:=by
 obtain⟨r,hbox,⟨hr,hss⟩,hlr⟩:=h.box;have hX:X≠R:=by rintro rfl;exact absurd (hbox.type hR) (by decide)
 have hS:S≠R:=by intro e;have k:=h.blk;rw[e]at k;exact absurd (k.type hR) (by decide)
 refine⟨⟨r,hbox.same (hk X hX),⟨?_,?_⟩,hlr⟩,h.blk.same (hk S hS),h.loX,h.loS,fun k j v hk' hj hv=>h.los k j v hk' hj ((aV (hk S hS)).symm.trans hv)⟩
 ·rw[hs];exact hr.off hR hk
 ·rw[hs];refine⟨hss.form,hss.bytes,fun hn=>?_⟩;obtain⟨b,off,c,e,hb,hc⟩:=hss.cells hn;refine⟨b,off,c,e,hb,fun i hi=>?_⟩;obtain⟨v1,v2,v3,v4,q⟩:=hc i hi;have hbS:b=S:=by unfold slc at e;injection e with e;injection e with e;injection e with e;exact e.symm
  have cs: ∀j,w'.cell? ⟨b,j,none⟩=w.cell? ⟨b,j,none⟩:=fun j=>aV (hk b (by rw[hbS];exact hS))
  exact⟨v1,v2,v3,v4,(cs _).trans q.c0,(cs _).trans q.c1,(cs _).trans q.c2,(cs _).trans q.c3,(cs _).trans q.c4,q.l1.off hR hk,q.l2.off hR hk,q.l3.off hR hk,q.l4.off hR hk⟩
theorem ExPost.laid {w w0 wB:World}{base X S gR n R:Nat}{G:Nat->Nat->Nat}{r:Wd×cU}{e:Ending}{x y:Int}{s:ByteArray}(h:ExPost w0 base X S gR G n r e wB)(b:Below w.heap.size w w0)(hb:base<=w.heap.size)(hw:w.heap.size<=R)
  (hR:RowTo wB R 46 3 [.int .i64 x,.string s,.int .i64 y]) (p1 p2 p3:Value):
  ExPost w base X S gR G n r (.returned (bQ r.2.kind r.2.text)) (((wB.setCell ⟨R,0,none⟩ p1).setCell ⟨R,1,none⟩ p2).setCell ⟨R,2,none⟩ p3):=by
 obtain⟨_,h2,h3,h4⟩:=h
 have hk: ∀c,c≠R->(((wB.setCell ⟨R,0,none⟩ p1).setCell ⟨R,1,none⟩ p2).setCell ⟨R,2,none⟩ p3).heap[c]? =wB.heap[c]? :=fun c hc=>by
  rw[bF _ _ _ _ hc,bF _ _ _ _ hc,bF _ _ _ _ hc]
 have hsz:(((wB.setCell ⟨R,0,none⟩ p1).setCell ⟨R,1,none⟩ p2).setCell ⟨R,2,none⟩ p3).heap.size=wB.heap.size:=by simp[cE]
 refine⟨rfl,h2.off hR hsz hk,?_,fun c hc a1 a2 a3 a4=>?_⟩
 ·exact((((b.mono hb).trans h3).setCell (by show base<=R;omega) _).setCell (by show base<=R;omega) _).setCell (by show base<=R;omega) _
 ·rw[hk c (by omega),h4 c (by have:=b.size;omega) a1 a2 a3 a4];exact b.block c hc
theorem kAg: ∀{l:PL} {key:ByteArray},1<=bK l key->aM l key=true
 |[],_,h=>by simp[bK]at h
 |p::l,key,h=>by
  rw[vV]at h;have ih:=kAg (l:=l) (key:=key);unfold aM at ih ⊢
  cases e:bN p.1 key
  ·rw[e]at h;simp only[aX,e];exact ih (by simpa using h)
  ·simp only[aX,e];rfl
theorem vAs (base X S gR cR:Nat)(G C:Nat->Nat->Nat)(W:Wd)(i:Nat)(key val:ByteArray)(w:World)(h:OwnD w X S gR cR G C W)(lo:LoD base X S gR G W.ss.length)(hw:bX W)(hb:base<=w.heap.size)(hi:i<W.ss.length)(hkz:key.size<=8)(hvz:val.size<=60)(hst:W.ss[i].st≠2):
  Calls Tryz.prog 71 #[.pointer (some ⟨X,0,none⟩),.int .i64 i,.agg #[.int .i64 10,.string key,.string val]] w (ExPost w base X S gR G W.ss.length (did1 W i 10 key val)):=by
 have hz:=dN hw;have hrw:=(bW (hw.sess i hi).wr).1;have hrr:=(bW hw.rows).1
 have hd : did1 W i 10 key val = (if eI W.ss i key = true then (W, cY kJ)
  else if aM (aW W) key=false/\100<=(aW W).length then(W,cY eQ)
  else if W.ss[i].st=1 then(W.put i {W.ss[i]with wr:=cI W.ss[i].wr key val},dX)
  else (⟨cI W.rows key val, W.ss⟩, dX)) := by
  unfold did1;simp only[fY hi,eS hrw,eS hrr];rw[if_neg (fun hh=>hst hh.1)];simp
 rw[hd];have hcn:=kAb hw hi key
 by_cases h1:eI W.ss i key=true
 ·rw[if_pos h1];exact(vAl base X S gR cR G C W i key val w h lo hw hb hi hkz hvz h1).mono fun e w' hh=>ExPost.same h lo hz hb hh.1 hh.2
 rw[if_neg h1];rw[Bool.not_eq_true]at h1;rw[h1]at hcn
 cases ho:aM W.ss[i].wr key
 ·have hc0:bK (W.ss.flatMap (·.wr)) key=0:=by
   rw[ho]at hcn;simp at hcn;exact hcn
  by_cases h2:aM (aW W) key=false/\100<=(aW W).length
  ·rw[if_pos h2];exact(vAm base X S gR cR G C W i key val w h lo hw hb hi hkz hvz ho hc0 h2.1 h2.2).mono fun e w' hh=>ExPost.same h lo hz hb hh.1 hh.2
  rw[if_neg h2]
  cases hf:aM (aW W) key
  ·have hfl:(aW W).length<100:=by
    rcases Nat.lt_or_ge (aW W).length 100 with hh|hh
    ·exact hh
    ·exact absurd ⟨hf,hh⟩ h2
   by_cases h3:W.ss[i].st=1
   ·rw[if_pos h3];exact(vAp base X S gR cR G C W i key val w h lo hw hb hi hkz hvz ho hc0 hf hfl h3).mono fun e w' hh=>ExPost.done hh
   ·rw[if_neg h3];exact(vAr base X S gR cR G C W i key val w h lo hw hb hi hkz hvz ho hc0 hf hfl h3).mono fun e w' hh=>ExPost.done hh
  ·by_cases h3:W.ss[i].st=1
   ·rw[if_pos h3];exact(vAo base X S gR cR G C W i key val w h lo hw hb hi hkz hvz ho hc0 hf h3).mono fun e w' hh=>ExPost.done hh
   ·rw[if_neg h3];exact(vAq base X S gR cR G C W i key val w h lo hw hb hi hkz hvz ho hc0 hf h3).mono fun e w' hh=>ExPost.done hh
 ·have hf:aM (aW W) key=true:=by
   cases hf:aM (aW W) key
   ·exfalso
    have h5:=sR (R:=W.rows) (k:=key) hrr (W.ss.flatMap (·.wr));rw[show iN W.rows (W.ss.flatMap (·.wr))=aW W from rfl,hf]at h5;have h6:1<=bK (W.ss.flatMap (·.wr)) key:=bL ((mQ hrw).2 ho) (qK hi);have h7:aM (W.ss.flatMap (·.wr)) key=true:=kAg h6;rw[h7]at h5;simp at h5
   ·rfl
  rw[if_neg (fun hh=>by rw[hf]at hh;cases hh.1)]
  by_cases h3:W.ss[i].st=1
  ·rw[if_pos h3];exact(vAn base X S gR cR G C W i key val w h lo hw hb hi hkz hvz ho hf h3).mono fun e w' hh=>ExPost.done hh
  ·exfalso
   have h8:=(hw.sess i hi).tx h3;rw[h8]at ho
   cases ho
end Go.Proofs.YtpbaobmegomfpabGreatDoor
namespace Go.Proofs.YtpbaobmegomfpabGreatDoor
open Go.RowKit
theorem vAt (w:World)(p q:Addr)(k:Int)(hc:w.cell? p=some (.int .i64 0)):
  Calls Tryz.prog 66 #[.pointer (some q),.pointer (some p),.int .i64 k] w fun e w'=>e= .returned (bQ 4 iP)/\Below w.heap.size w w':=by
 have hp:=World.block_lt_of_cell? w _ hc;go_enter Tryz.func66,Tryz.ntmps66;go_wp2_with fail;refine(lZ iP _).mono ?_;rintro e w9 ⟨rfl,hb9⟩;have X9:=(RowTo.whole w #[.int .i64 0,.string ⟨#[]⟩,.int .i64 0] 46).below hb9 (by simp);have r0:=X9.cell (j:=0) (by simp);have r1:=X9.cell (j:=1) (by simp);have r2:=X9.cell (j:=2) (by simp);have s0:=X9.frozen 0;have s1:=X9.frozen 1;have s2:=X9.frozen 2;simp only[aB,aC]at r0 r1 r2;have B9:=aA (aR ((aD w.heap.size w).alloc (aI _) _) hb9 (by simp));clear X9 hb9;unfold bQ;go_wp2;refine bE (v:= .agg #[.int .i64 4,.string iP,.int .i64 0]) (by simp[results,Tryz.results66,go_sem,r0,r1,r2]) rfl ⟨rfl,?_⟩;exact((B9.out.setCell (by simp) _).setCell (by simp) _).setCell (by simp) _
theorem vAu (base X S gR cR:Nat)(G C:Nat->Nat->Nat)(W:Wd)(i:Nat)(k:Int)(w:World)(h:OwnD w X S gR cR G C W)(lo:LoD base X S gR G W.ss.length)(hz:gV W)(hb:base<=w.heap.size)(hi:i<W.ss.length)(hst:W.ss[i].st≠0)(hk: ¬(k=2/\W.ss[i].st=1)):
  Calls Tryz.prog 66 #[.pointer (some ⟨X,0,none⟩),.pointer (some ⟨S,i*5,none⟩),.int .i64 k] w (lC w base X S gR G W.ss.length (W.put i {W.ss[i]with st:=0,set:=W.ss[i].sav,sav:=[],wr:=[]})):=by
 have c0:=h.st i hi;have c3:w.cell? ⟨S,i*5+3,none⟩=some (.slice (some ⟨G i 2,0,none⟩) W.ss[i].sav.length (C i 2)):=h.cs i 2 hi (by omega);have hSw:=h.blk.lt;have f0:=h.blk.frozen (i*5);have f1:=h.blk.frozen (i*5+1);have f3:=h.blk.frozen (i*5+3);have f4:=h.blk.frozen (i*5+4);obtain⟨u1,d1⟩:=h.blk.any (j:=i*5+1) (by omega);obtain⟨u4,d4⟩:=h.blk.any (j:=i*5+4) (by omega);have e0:(W.ss[i].st==0)=false:=bJ.2 hst
 have hcase:(k==2)=false\/((k==2)=true/\(W.ss[i].st==1)=false):=by
  by_cases h2:k=2
  ·exact .inr ⟨beq_iff_eq.2 h2,bJ.2 (fun h1=>hk ⟨h2,h1⟩)⟩
  ·exact .inl (bJ.2 h2)
 have H:=aA h;have HZ:=aA hz;clear h hst hk;rcases hcase with hk|⟨hk,hk1⟩
 all_goals
  go_enter Tryz.func66,Tryz.ntmps66;go_wp2_with fail;have ch1:=(((((Chs.refl w S).setS (j:=i*5+1) (.slice (some ⟨G i 2,0,none⟩) W.ss[i].sav.length (C i 2))).setS (j:=i*5) (.int .i64 0)).setS (j:=i*5+3) (.slice none 0 0)).setS (j:=i*5+4) (.slice none 0 0)).alloc hSw (.cells #[.int .i64 0,.string ⟨#[]⟩,.int .i64 0] 46)
  have X0:RowTo (((((w.setCell ⟨S,i*5+1,none⟩ (.slice (some ⟨G i 2,0,none⟩) W.ss[i].sav.length (C i 2))).setCell ⟨S,i*5,none⟩ (.int .i64 0)).setCell ⟨S,i*5+3,none⟩ (.slice none 0 0)).setCell ⟨S,i*5+4,none⟩ (.slice none 0 0)).alloc (.cells #[.int .i64 0,.string ⟨#[]⟩,.int .i64 0] 46)) w.heap.size 46 3 [.int .i64 0,.string ⟨#[]⟩,.int .i64 0]:=by
   have:=RowTo.whole ((((w.setCell ⟨S,i*5+1,none⟩ (.slice (some ⟨G i 2,0,none⟩) W.ss[i].sav.length (C i 2))).setCell ⟨S,i*5,none⟩ (.int .i64 0)).setCell ⟨S,i*5+3,none⟩ (.slice none 0 0)).setCell ⟨S,i*5+4,none⟩ (.slice none 0 0)) #[.int .i64 0,.string ⟨#[]⟩,.int .i64 0] 46
   simpa [cE] using this
  refine(oQ _).mono ?_;rintro e w3 ⟨rfl,hy3⟩;have ch3:=ch1.below hy3 ch1.size hSw;have X3:=X0.below hy3 X0.lt;have r0:=X3.cell (j:=0) (by simp);have r1:=X3.cell (j:=1) (by simp);have r2:=X3.cell (j:=2) (by simp);have s0:=X3.frozen 0;have s1:=X3.frozen 1;have s2:=X3.frozen 2;simp only[aB,aC]at r0 r1 r2;have HC3:=aA ch3;clear ch1 ch3 X0 X3 hy3;unfold bQ;go_wp2;refine bE (v:= .agg #[.int .i64 1,.string ⟨#[]⟩,.int .i64 0]) (by simp[results,Tryz.results66,go_sem,r0,r1,r2]) rfl ?_;have ch:=((HC3.out.setN (p:=⟨w.heap.size,0,none⟩) (aI _) hSw (.int .i64 1)).setN (p:=⟨w.heap.size,1,none⟩) (aI _) hSw (.string ⟨#[]⟩)).setN (p:=⟨w.heap.size,2,none⟩) (aI _) hSw (.int .i64 0);refine⟨rfl,?_,ch.bel lo.s hb,fun b hb _ h2 _ _=>ch.other b hb h2⟩;have hh:=H.out;have hzz:=HZ.out;have hrow:=(((hh.blk.hit (j:=i*5+1) (.slice (some ⟨G i 2,0,none⟩) W.ss[i].sav.length (C i 2))).hit (j:=i*5) (.int .i64 0)).hit (j:=i*5+3) (.slice none 0 0)).hit (j:=i*5+4) (.slice none 0 0);refine hh.turned lo ?_ (v3:= .slice none 0 0) (v4:= .slice none 0 0) hzz hi ch hrow (fun k j hk hj=>?_) ?_ ?_ ?_ ?_ ?_ (hh.li_kept hzz hi (j:=2) (by omega) ch) (hh.li_kept hzz hi (j:=1) (by omega) ch) (Lst.none_ _ _) (Lst.none_ _ _)
  ·exact⟨lo.v hi (by omega),lo.v hi (by omega),LoV.non _ _ _,LoV.non _ _ _⟩
  ·rw[bT _ (by omega),bT _ (by omega),bT _ (by omega),bT _ (by omega)]
  ·rw[bT _ (by omega),bT _ (by omega)];exact fX (hh.blk.hit _) (by omega) _
  ·rw[bT _ (by omega),bT _ (by omega),bT _ (by omega)];exact fX hh.blk (by omega) _
  ·rw[bT _ (by omega),bT _ (by omega),bT _ (by omega),bT _ (by omega)];exact hh.cs i 1 hi (by omega)
  ·rw[bT _ (by omega)];exact fX ((hh.blk.hit _).hit _) (by omega) _
  ·exact fX (((hh.blk.hit _).hit _).hit _) (by omega) _
end Go.Proofs.YtpbaobmegomfpabGreatDoor
namespace Go.Proofs.YtpbaobmegomfpabGreatDoor
open Go.RowKit
theorem vAv {rows l:PL}{k:Nat}(hk:k<l.length):cL rows (l.take (k+1))=bI (cL rows (l.take k)) l[k].1 l[k].2:=by
 unfold cL;rw[gO hk,List.foldl_append];rfl
theorem vAw {rows:PL}(h:bG rows=true): ∀l:PL,bG (cL rows l)=true:=by
 intro l;unfold cL
 induction l generalizing rows with
 |nil=>exact h
 |cons p l ih=>rw[List.foldl_cons];exact ih (by rw[eS h];exact jL h)
theorem kAh (rows:PL): ∀l:PL,(cL rows l).length<=rows.length+l.length:=by
 intro l;unfold cL
 induction l generalizing rows with
 |nil=>simp
 |cons p l ih=>
  rw[List.foldl_cons];have h1:=ih (bI rows p.1 p.2);have h2:=kY rows p.1 p.2;simp only[fC];omega
theorem kAi {rows:PL}(h:Sz rows): ∀{l:PL},Sz l->Sz (cL rows l):=by
 intro l;unfold cL
 induction l generalizing rows with
 |nil=>intro _;exact h
 |cons p l ih=>
  intro hl;rw[List.foldl_cons];refine ih (fun q hq=>?_) (fun q hq=>hl q (by simp[hq]));rcases mP hq with rfl|hq
  ·exact hl p (by simp)
  ·exact h q hq
def vAx (w:World)(X S gR:Nat)(W:Wd)(l:PL)(k:Nat)(wr:World):Prop:=
 ∃g c,OwnL wr g c (cL W.rows (l.take k))/\(g=gR\/w.heap.size+1<=g)/\RowTo wr w.heap.size 46 3 [.int .i64 0,.string ⟨#[]⟩,.int .i64 0]/\
  RowTo wr X 39 2 [slc g (cL W.rows (l.take k)).length c,slc S W.ss.length W.ss.length]/\w.heap.size+1<=wr.heap.size/\wr.os=w.os/\wr.tape=w.tape/\wr.output=w.output/\ ∀b,b<w.heap.size->b≠gR->b≠X->wr.heap[b]? =w.heap[b]?
theorem vAy (base X S gR cR:Nat)(G C:Nat->Nat->Nat)(W:Wd)(i:Nat)(w:World)(h:OwnD w X S gR cR G C W)(lo:LoD base X S gR G W.ss.length)(hz:gV W)(hr:bG W.rows=true)(hb:base<=w.heap.size)(hi:i<W.ss.length)(hst:W.ss[i].st=1):
  Calls Tryz.prog 66 #[.pointer (some ⟨X,0,none⟩),.pointer (some ⟨S,i*5,none⟩),.int .i64 2] w (lC w base X S gR G W.ss.length ⟨cL W.rows W.ss[i].wr,W.ss.set i {W.ss[i]with st:=0,sav:=[],wr:=[]}⟩):=by
 have c0:=h.st i hi;rw[hst]at c0;have c4:w.cell? ⟨S,i*5+4,none⟩=some (.slice (some ⟨G i 3,0,none⟩) W.ss[i].wr.length (C i 3)):=h.cs i 3 hi (by omega);have hSw:=h.blk.lt;have hXw:=h.box.lt;have hRw:=h.rows.row.lt;have hGw:=(h.ls i 3 hi (by omega)).row.lt;have n1:=h.neXS;have n2:=h.neRX;have n3:=h.neRS;have n4:=h.neGX i 3 hi (by omega);have n5:=h.neGR i 3 hi (by omega);have h100:W.ss[i].wr.length<=100:=(hz.li i 3 hi (by omega)).1;have hr100:=hz.rows.1;have HL:=aA (show OwnL w (G i 3) (C i 3) W.ss[i].wr from h.ls i 3 hi (by omega));have HLz:=aA (show Sz W.ss[i].wr from(hz.li i 3 hi (by omega)).sz);have H:=aA h;have HZ:=aA hz;have HR:=aA hr;clear h hst hr;have HW:=aA (rfl:W.ss[i].wr=W.ss[i].wr);generalize hl:W.ss[i].wr=l at*;have HWR:=aA hl;clear hl HW;go_enter Tryz.func66,Tryz.ntmps66;go_wp2
 go_loopw [29] (fun j wr=> ∃k:Nat,k<=l.length/\j= .int .i64 k/\vAx w X S gR W l k wr) (fun j _=>l.length-(intOf j).toNat)
 case atStart=>
  refine⟨0,by omega,rfl,gR,cR,H.out.rows.below ((aD w.heap.size w).alloc (aI _) _) hRw,.inl rfl,RowTo.whole w #[.int .i64 0,.string ⟨#[]⟩,.int .i64 0] 46,H.out.box.alloc _,by simp,rfl,rfl,rfl,fun b hb _ _=>Below.heap_alloc _ _ _ hb⟩
 case round=>
  obtain⟨k,hk,rfl,g,c,hown,hloc,hres,hbox,hsz,ho1,ho2,ho3,hoth⟩:=hrel
  by_cases hlt:k<l.length
  ·have hG:wr.heap[G i 3]? =w.heap[G i 3]? :=hoth _ hGw n5 n4;have hlk:=(HL.out.same hG).row;have d0:=hlk.cell (j:=k*2) (by rw[fE];omega);have d1:=hlk.cell (j:=k*2+1) (by rw[fE];omega);have e0:=rX l k hlt;have e1:=rY l k hlt;rw[dP (by rw[fE];omega)]at e0 e1;rw[Option.some.inj e0]at d0;rw[Option.some.inj e1]at d1;have x0:=hbox.cell (j:=0) (by simp);simp only[aB]at x0;have xf:=hbox.frozen 0;have hxl:=hbox.lt;have hgl:=hown.row.lt;have hpl:=kAh W.rows (l.take k);have htl:(l.take k).length=k:=by rw[gK];omega
   rw[htl]at hpl;have hrr:=vAw HR.out (l.take k);have hss:Sz (cL W.rows (l.take k)):=kAi HZ.out.rows.sz (fun p hp=>HLz.out p (List.mem_of_mem_take hp));have HS:=aA ((vAv (rows:=W.rows) hlt).trans (eS hrr));have HI:=aA (fun(w9:World) (h9:OwnL w9 g c (cL W.rows (l.take k)))=>vS g c _ l[k].1 l[k].2 w9 h9 hrr (by omega) hss);have HO:=aA hown;have HX:=aA hbox;have HY:=aA hres;have HK:=aA (aJ ho1 (aJ ho2 (aJ ho3 hoth)));clear hG hlk e0 e1 hpl htl hrr hss hown hbox hres ho1 ho2 ho3 hoth;unfold slc at x0;go_wp2;clear d0 d1;have b0:Below wr.heap.size wr (wr.alloc (.cells #[.string l[k].1,.string l[k].2] 60)):=(aD _ _).alloc (aI _) _;have p0:(wr.alloc (.cells #[.string l[k].1,.string l[k].2] 60)).cell? ⟨wr.heap.size,0,none⟩=some (.string l[k].1):=by simp[go_sem]
   have p1:(wr.alloc (.cells #[.string l[k].1,.string l[k].2] 60)).cell? ⟨wr.heap.size,1,none⟩=some (.string l[k].2):=by simp[go_sem]
   have y0:=(b0.cell (p:=⟨X,0,none⟩) hxl).trans x0;have O0:=aA (HO.out.below b0 hgl);have X0:=aA (HX.out.below b0 hxl);have R0:=aA (HY.out.below b0 HY.out.lt);have hz0:(wr.alloc (.cells #[.string l[k].1,.string l[k].2] 60)).heap.size=wr.heap.size+1:=by simp
   have B0:=aA b0;clear b0 x0 xf;generalize wr.alloc (.cells #[.string l[k].1,.string l[k].2] 60)=W0 at*;have hw0:wr.heap.size<W0.heap.size:=by omega
   have HZ0:=aA hz0;clear hz0
   go_region_with (first
    | (
     go_at_call 94
     refine(HI.out _ (by first|exact O0.out|exact O0.out.same rfl)).mono ?_
     rintro e wB ⟨g',c',rfl,ho',hl',hgr⟩;have hgB:W0.grownBy wB (some g):=⟨hgr.os,hgr.tape,hgr.output,hgr.size,hgr.block⟩;have hl8:g'=g\/W0.heap.size<=g':=hl';have hXg:X≠g:=by rcases hloc with h|h<;>omega
     have X1:=X0.out.same (hgB.block X X0.out.lt (fun e=>hXg (by injection e)));have q0:=X1.cell (j:=0) (by simp);have qf:=X1.frozen 0;simp only[aB]at q0
     unfold slc at q0))
   all_goals
    have HZ8:=aA (aJ ho' (aJ hl8 (aJ hgB X1)));clear ho' hl8 hgB X1 hl' hgr q0 qf;go_wp2;go_roundw
    case rel=>
     obtain⟨a1,a2,a3,a4⟩:=HZ8.out;obtain⟨k1,k2,k3,k4⟩:=HK.out;have hsB:=a3.size;have hgX:X≠g':=by rcases a2 with h|h<;>omega
     have hwg:w.heap.size≠g:=by rcases hloc with h|h<;>omega
     have hl9:g'=gR\/w.heap.size+1<=g':=by
      rcases a2 with h|h
      ·rw[h];exact hloc
      ·right;omega
     have hXR:X≠w.heap.size:=(by omega);refine⟨k+1,by omega,by go_num,g',c',?_,hl9,?_,?_,?_,?_,?_,?_,fun b hb h1 h2=>?_⟩
     ·rw[HS.out];exact⟨a1.row.other hgX _,a1.len,a1.most⟩
     ·exact(R0.out.same (a3.block _ R0.out.lt (fun e=>hwg (by injection e)))).other (p:=⟨X,0,none⟩) hXR _
     ·rw[HS.out];exact a4.put (by simp) _
     ·have:w.heap.size+1<=wB.heap.size:=by omega
      simpa [cE] using this
     ·exact(a3.os.trans B0.out.os).trans k1
     ·exact(a3.tape.trans B0.out.tape).trans k2
     ·exact(a3.output.trans B0.out.output).trans k3
     ·have hbg:b≠g:=by rcases hloc with h|h<;>omega
      rw[bF _ _ _ _ h2,a3.block b (by omega) (fun e=>hbg (by injection e)),B0.out.block b (by omega)];exact k4 b hb h1 h2
    case measure=>simp[intOf];omega
  ·obtain rfl:k=l.length:=by omega
   rw[List.take_length]at hown hbox;have hSS:wr.heap[S]? =w.heap[S]? :=hoth S hSw (Ne.symm n3) (Ne.symm n1);have hb9:=(H.out.blk.same hSS);have f0:=hb9.frozen (i*5);have f3:=hb9.frozen (i*5+3);have f4:=hb9.frozen (i*5+4);obtain⟨u0,d0⟩:=hb9.any (j:=i*5) (by omega);obtain⟨u3,d3⟩:=hb9.any (j:=i*5+3) (by omega);obtain⟨u4,d4⟩:=hb9.any (j:=i*5+4) (by omega);have HO:=aA hown;have HX:=aA hbox;have HY:=aA hres;have HK:=aA (aJ ho1 (aJ ho2 (aJ ho3 (aJ hoth hSS))));have HB:=aA hb9;have hSr:S<wr.heap.size:=by omega
   clear hown hbox hres ho1 ho2 ho3 hoth hSS hb9;go_wp2_with fail;have ch1:=((((Chs.refl wr S).setS (j:=i*5) (.int .i64 0)).setS (j:=i*5+3) (.slice none 0 0)).setS (j:=i*5+4) (.slice none 0 0));have Y1:=((HY.out.other (p:=⟨S,i*5,none⟩) (by show S≠_;omega) (.int .i64 0)).other (p:=⟨S,i*5+3,none⟩) (by show S≠_;omega) (.slice none 0 0)).other (p:=⟨S,i*5+4,none⟩) (by show S≠_;omega) (.slice none 0 0);refine(oQ _).mono ?_;rintro e w3 ⟨rfl,hy3⟩;have ch3:=ch1.below hy3 ch1.size hSr;have X3:=Y1.below hy3 Y1.lt;have r0:=X3.cell (j:=0) (by simp);have r1:=X3.cell (j:=1) (by simp);have r2:=X3.cell (j:=2) (by simp);have s0:=X3.frozen 0;have s1:=X3.frozen 1;have s2:=X3.frozen 2;simp only[aB,aC]at r0 r1 r2;have HC3:=aA ch3;clear ch1 ch3 Y1 X3 hy3;unfold bQ;go_wp2;refine bE (v:= .agg #[.int .i64 1,.string ⟨#[]⟩,.int .i64 0]) (by simp[results,Tryz.results66,go_sem,r0,r1,r2]) rfl ?_;obtain⟨k1,k2,k3,k4,k5⟩:=HK.out;have c3:=HC3.out;obtain⟨wF,hF⟩: ∃wF,wF=(((w3.setCell ⟨w.heap.size,0,none⟩ (.int .i64 1)).setCell ⟨w.heap.size,1,none⟩ (.string ⟨#[]⟩)).setCell ⟨w.heap.size,2,none⟩ (.int .i64 0)):=⟨_,rfl⟩;rw[<-hF]
   have blk: ∀b,b≠w.heap.size->wF.heap[b]? =w3.heap[b]? :=fun b hb=>by
    rw[hF,bF _ _ _ _ hb,bF _ _ _ _ hb,bF _ _ _ _ hb]
   have hszF:wr.heap.size<=wF.heap.size:=by rw[hF];have:=c3.size;simpa [cE] using this
   have old: ∀b,b<w.heap.size->b≠gR->b≠X->b≠S->wF.heap[b]? =w.heap[b]? :=fun b hb h1 h2 h3=>by
    rw[blk b (by omega),c3.other b (by omega) h3];exact k4 b hb h1 h2
   have hfs:wF.heap[S]? =(((wr.setCell ⟨S,i*5,none⟩ (.int .i64 0)).setCell ⟨S,i*5+3,none⟩ (.slice none 0 0)).setCell ⟨S,i*5+4,none⟩ (.slice none 0 0)).heap[S]? :=(blk S (by omega)).trans c3.here;have hXF:wF.heap[X]? =wr.heap[X]? :=(blk X (by omega)).trans (c3.other X (by omega) n1);have hgS:g≠S:=by rcases hloc with h|h<;>omega
   have hgF:wF.heap[g]? =wr.heap[g]? :=(blk g (by rcases hloc with h|h<;>omega)).trans (c3.other g HO.out.row.lt hgS)
   have cc: ∀j,wF.cell? ⟨S,j,none⟩=(((wr.setCell ⟨S,i*5,none⟩ (.int .i64 0)).setCell ⟨S,i*5+3,none⟩ (.slice none 0 0)).setCell ⟨S,i*5+4,none⟩ (.slice none 0 0)).cell? ⟨S,j,none⟩:=fun j=>aV hfs
   have cw: ∀j,wr.cell? ⟨S,j,none⟩=w.cell? ⟨S,j,none⟩:=fun j=>aV k5
   have hh:=H.out;have hzz:=HZ.out;have hrow:=(((HB.out.hit (j:=i*5) (.int .i64 0)).hit (j:=i*5+3) (.slice none 0 0)).hit (j:=i*5+4) (.slice none 0 0)).same hfs;have hl5:Sz l:=HLz.out;have hpl:=kAh W.rows l
   have lk: ∀j,j<4->j≠3->j≠2->Lst wF wF.heap.size (slc (G i j) (W.ss[i].li j).length (C i j)) (W.ss[i].li j):=fun j hj _ _=>
    ((hh.ls i j hi hj).same (old _ (hh.ls i j hi hj).row.lt (hh.neGR i j hi hj) (hh.neGX i j hi hj) (hh.neGS i j hi hj))).lst (by have:=(hzz.li i j hi hj).1;omega) (hzz.li i j hi hj).sz
   refine⟨rfl,?_,⟨?_,?_,?_,by omega,fun b hbb=>old b (by omega) (by have:=lo.r;omega) (by have:=lo.x;omega) (by have:=lo.s;omega)⟩,fun b hb h1 h2 h3 _=>old b hb h3 h1 h2⟩
   ·refine hh.left lo ?_ ?_ hzz hi (by omega) (HX.out.same hXF) hrow (((HO.out.same hgF).lst (by omega) (kAi hzz.rows.sz hl5))) (fun k j hk hj=>?_) (fun k j hk hne hj=>old _ (hh.ls k j hk hj).row.lt (hh.neGR k j hk hj) (hh.neGX k j hk hj) (hh.neGS k j hk hj))
     (v1:=slc (G i 0) (W.ss[i].li 0).length (C i 0)) (v2:=slc (G i 1) (W.ss[i].li 1).length (C i 1)) (v3:= .slice none 0 0) (v4:= .slice none 0 0) ⟨?_,?_,?_,?_,?_,lk 0 (by omega) (by omega) (by omega),lk 1 (by omega) (by omega) (by omega),Lst.none_ _ _,Lst.none_ _ _⟩
    ·exact LoV.at (by have:=lo.r;rcases hloc with h|h<;>omega)
    ·exact⟨lo.v hi (by omega),lo.v hi (by omega),LoV.non _ _ _,LoV.non _ _ _⟩
    ·rw[cc,bT _ (by omega),bT _ (by omega),bT _ (by omega),cw]
    ·rw[cc,bT _ (by omega),bT _ (by omega)];exact fX HB.out (by omega) _
    ·rw[cc,bT _ (by omega),bT _ (by omega),bT _ (by omega),cw];exact hh.cs i 0 hi (by omega)
    ·rw[cc,bT _ (by omega),bT _ (by omega),bT _ (by omega),cw];exact hh.cs i 1 hi (by omega)
    ·rw[cc,bT _ (by omega)];exact fX (HB.out.hit _) (by omega) _
    ·rw[cc];exact fX ((HB.out.hit _).hit _) (by omega) _
   ·rw[hF];exact c3.os.trans k1
   ·rw[hF];exact c3.tape.trans k2
   ·rw[hF];exact c3.output.trans k3
theorem vAz (base X S gR cR:Nat)(G C:Nat->Nat->Nat)(W:Wd)(i:Nat)(w:World)(h:OwnD w X S gR cR G C W)(lo:LoD base X S gR G W.ss.length)(hz:gV W)(hb:base<=w.heap.size)(hi:i<W.ss.length)(hst:W.ss[i].st≠2)(key val:ByteArray):
  Calls Tryz.prog 65 #[.pointer (some ⟨S,i*5,none⟩)] w (ExPost w base X S gR G W.ss.length (did1 W i 1 key val)):=by
 have hd:did1 W i 1 key val=(if W.ss[i].st=0 then(W.put i {W.ss[i]with st:=1,sav:=W.ss[i].set},dX)else(W,cY kG)):=by
  unfold did1;simp only[fY hi];rw[if_neg (fun hh=>hst hh.1)];simp
 rw[hd]
 by_cases h0:W.ss[i].st=0
 ·rw[if_pos h0];exact(vAf base X S gR cR G C W i w h lo hz hb hi h0).mono fun e w' hh=>ExPost.done hh
 ·rw[if_neg h0];exact(vAd w _ _ (h.st i hi) h0).mono fun e w' hh=>ExPost.same h lo hz hb hh.1 hh.2
theorem jA0 (base X S gR cR:Nat)(G C:Nat->Nat->Nat)(W:Wd)(i:Nat)(w:World)(h:OwnD w X S gR cR G C W)(lo:LoD base X S gR G W.ss.length)(hz:gV W)(hb:base<=w.heap.size)(hi:i<W.ss.length)(hst:W.ss[i].st≠2)(key val:ByteArray):
  Calls Tryz.prog 67 #[.pointer (some ⟨S,i*5,none⟩)] w (ExPost w base X S gR G W.ss.length (did1 W i 4 key val)):=by
 have hd:did1 W i 4 key val=(if W.ss[i].st=0 then(W.put i {W.ss[i]with set:=[],prep:=[]},dX)else(W,cY kH)):=by
  unfold did1;simp only[fY hi];rw[if_neg (fun hh=>hst hh.1)];simp
 rw[hd]
 by_cases h0:W.ss[i].st=0
 ·rw[if_pos h0];exact(vAh base X S gR cR G C W i w h lo hz hb hi h0).mono fun e w' hh=>ExPost.done hh
 ·rw[if_neg h0];exact(vAg w _ _ (h.st i hi) h0).mono fun e w' hh=>ExPost.same h lo hz hb hh.1 hh.2
theorem kAj (base X S gR cR:Nat)(G C:Nat->Nat->Nat)(W:Wd)(i:Nat)(w:World)(h:OwnD w X S gR cR G C W)(lo:LoD base X S gR G W.ss.length)(hz:gV W)(hr:bG W.rows=true)(hb:base<=w.heap.size)(hi:i<W.ss.length)(k:Int)(hk:k=2\/k=3)(key val:ByteArray):
  Calls Tryz.prog 66 #[.pointer (some ⟨X,0,none⟩),.pointer (some ⟨S,i*5,none⟩),.int .i64 k] w (ExPost w base X S gR G W.ss.length (did1 W i k key val)):=by
 have hd : did1 W i k key val = (if W.ss[i].st = 0 then (W, cY iP)
  else if k=2/\W.ss[i].st=1 then(⟨cL W.rows W.ss[i].wr,W.ss.set i {W.ss[i]with st:=0,sav:=[],wr:=[]}⟩,dX)
  else (W.put i { W.ss[i] with st := 0, set := W.ss[i].sav, sav := [], wr := [] }, dX)) := by
  unfold did1;simp only[fY hi];rw[if_neg (fun hh=>hh.2 hk),if_neg (by omega),if_pos hk]
 rw[hd]
 by_cases h0:W.ss[i].st=0
 ·rw[if_pos h0];have c0:=h.st i hi;rw[h0]at c0;exact(vAt w _ _ k c0).mono fun e w' hh=>ExPost.same h lo hz hb hh.1 hh.2
 rw[if_neg h0]
 by_cases h1:k=2/\W.ss[i].st=1
 ·rw[if_pos h1];rw[h1.1];exact(vAy base X S gR cR G C W i w h lo hz hr hb hi h1.2).mono fun e w' hh=>ExPost.done hh
 ·rw[if_neg h1];exact(vAu base X S gR cR G C W i k w h lo hz hb hi h0 h1).mono fun e w' hh=>ExPost.done hh
theorem kAk (base X S gR cR:Nat)(G C:Nat->Nat->Nat)(W:Wd)(i j:Nat)(k:Int)(w:World)(h:OwnD w X S gR cR G C W)(lo:LoD base X S gR G W.ss.length)(hz:gV W)(hb:base<=w.heap.size)(hi:i<W.ss.length)(hj:j<4)(key val:ByteArray)(hkz:key.size<=8)(hvz:val.size<=60)(hr:bG (W.ss[i].li j)=true)(s':Sess)
  (hs:s'.st=W.ss[i].st) (hl: ∀k,k<4->s'.li k=if k=j then cI (W.ss[i].li j) key val else W.ss[i].li k):
  Calls Tryz.prog 70 #[.pointer (some ⟨S,i*5+(j+1),none⟩),.agg #[.int .i64 k,.string key,.string val],.int .i64 6] w (ExPost w base X S gR G W.ss.length (if aM (W.ss[i].li j) key=false/\6<=(W.ss[i].li j).length then(W,cY eQ)else(W.put i s',dX))):=by
 have ho:=h.ls i j hi hj;have hn:=(hz.li i j hi hj).1;have hsz:=(hz.li i j hi hj).sz;have hp:=h.cs i j hi hj;have hpf:=h.blk.frozen (i*5+(j+1));have hne:S≠G i j:=Ne.symm (h.neGS i j hi hj)
 by_cases h0:aM (W.ss[i].li j) key=false/\6<=(W.ss[i].li j).length
 ·rw[if_pos h0];exact(zAs (G i j) (C i j) S _ (W.ss[i].li j) k key val 6 w ho hr (by omega) hsz hp h0.1 h0.2).mono fun e w' hh=>ExPost.same h lo hz hb hh.1 hh.2
 ·rw[if_neg h0];refine(oT (G i j) (C i j) S (i*5+(j+1)) (W.ss[i].li j) k key val 6 w ho hr (by omega) hsz hp hpf hne (by omega) (by omega) ?_).mono ?_
  ·cases e:aM (W.ss[i].li j) key
   ·right
    rcases Nat.lt_or_ge (W.ss[i].li j).length 6 with hh|hh
    ·exact hh
    ·exact absurd ⟨e,hh⟩ h0
   ·exact .inl rfl
  ·rintro e w' ⟨g',c',rfl,ho',hl',hc⟩;refine⟨rfl,h.stored lo (by have q1:=lo.g i j hi hj;rcases hl' with hh|hh<;>omega) hz hi hj (by have h1:=kY (W.ss[i].li j) key val;rw[eS hr]at h1;omega) (hsz.ins (by omega) (by omega)) ho' hc hs hl,hc.bel (lo.g i j hi hj) lo.s hb,fun b hb _ h2 _ h4=>hc.other b hb (h4 i j hi hj) h2⟩
theorem jA1 (base X S gR cR:Nat)(G C:Nat->Nat->Nat)(W:Wd)(i:Nat)(key val:ByteArray)(w:World)(h:OwnD w X S gR cR G C W)(lo:LoD base X S gR G W.ss.length)(hw:bX W)(hb:base<=w.heap.size)(hi:i<W.ss.length)(hkz:key.size<=8)(hvz:val.size<=60)(hst:W.ss[i].st≠2):
  Calls Tryz.prog 45 #[.pointer (some ⟨X,0,none⟩),.int .i64 i,.agg #[.int .i64 1,.string key,.string val]] w (ExPost w base X S gR G W.ss.length (did1 W i 1 key val)):=by
 have hz:=dN hw;have hXw:=h.box.lt;have hSw:=h.blk.lt;have x1:=h.box.cell (j:=1) (by simp);simp only[aB,aC]at x1;unfold slc at x1;have c0:=h.st i hi;have hii:(i:Int)<(W.ss.length:Int):=by omega
 have b0:Below w.heap.size w ((w.alloc (.cells #[.int .i64 1,.string key,.string val] 41)).alloc (.cells #[.int .i64 0,.string ⟨#[]⟩,.int .i64 0] 46)):=((aD _ _).alloc (aI _) _).alloc (by simp) _;have h0:=h.kept b0
 have X0:RowTo ((w.alloc (.cells #[.int .i64 1,.string key,.string val] 41)).alloc (.cells #[.int .i64 0,.string ⟨#[]⟩,.int .i64 0] 46)) (w.heap.size+1) 46 3 [.int .i64 0,.string ⟨#[]⟩,.int .i64 0]:=by
  have:=RowTo.whole (w.alloc (.cells #[.int .i64 1,.string key,.string val] 41)) #[.int .i64 0,.string ⟨#[]⟩,.int .i64 0] 46
  simpa using this
 have hzs:((w.alloc (.cells #[.int .i64 1,.string key,.string val] 41)).alloc (.cells #[.int .i64 0,.string ⟨#[]⟩,.int .i64 0] 46)).heap.size=w.heap.size+1+1:=by simp
 have hgr:=h.rows.row.lt;have hgg: ∀i j,i<W.ss.length->j<4->w.heap.size+1≠G i j:=fun i j hi hj=>by have:=(h.ls i j hi hj).row.lt;omega
 obtain⟨r,hr⟩: ∃r,r=did1 W i 1 key val:=⟨_,rfl⟩;rw[<-hr];have hbs:base<=((w.alloc (.cells #[.int .i64 1,.string key,.string val] 41)).alloc (.cells #[.int .i64 0,.string ⟨#[]⟩,.int .i64 0] 46)).heap.size:=by omega
 have HC := aA (show Calls Tryz.prog 65 #[.pointer (some ⟨S, i * 5, none⟩)] ((w.alloc (.cells #[.int .i64 1, .string key, .string val] 41)).alloc (.cells #[.int .i64 0, .string ⟨#[]⟩, .int .i64 0] 46)) (ExPost ((w.alloc (.cells #[.int .i64 1, .string key, .string val] 41)).alloc (.cells #[.int .i64 0, .string ⟨#[]⟩, .int .i64 0] 46)) base X S gR G W.ss.length r) by
  rw[hr]
  exact vAz base X S gR cR G C W i _ h0 lo hz hbs hi hst key val)
 have H:=aA h;have HZ:=aA hz;have HW:=aA hw;have B0:=aA b0;have HX0:=aA X0;have HZS:=aA hzs;have HG:=aA hgg;have HR:=aA hr;clear h hz hw b0 X0 hzs hgg hr h0 hbs;have e2:(W.ss[i].st==2)=false:=bJ.2 hst
 ·skip;go_enter Tryz.func45,Tryz.ntmps45;go_wp2_with fail;refine HC.out.mono ?_;rintro e wB hp;obtain rfl:=hp.1;have RB:=HX0.out.same (hp.2.2.2 (w.heap.size+1) (by rw[HZS.out];omega) (by omega) (by omega) (by omega) HG.out);have HP:=aA hp;have r0:=RB.cell (j:=0) (by simp);have r1:=RB.cell (j:=1) (by simp);have r2:=RB.cell (j:=2) (by simp);have s0:=RB.frozen 0;have s1:=RB.frozen 1;have s2:=RB.frozen 2;simp only[aB,aC]at r0 r1 r2;have HRB:=aA RB;clear hp RB;unfold bQ;go_wp2;refine bE (v:= .agg #[.int .i64 r.2.kind,.string r.2.text,.int .i64 0]) (by simp[results,Tryz.results45,go_sem,r0,r1,r2]) rfl ?_;exact HP.out.laid B0.out hb (by omega) HRB.out _ _ _
theorem jA2 (base X S gR cR:Nat)(G C:Nat->Nat->Nat)(W:Wd)(i:Nat)(key val:ByteArray)(w:World)(h:OwnD w X S gR cR G C W)(lo:LoD base X S gR G W.ss.length)(hw:bX W)(hb:base<=w.heap.size)(hi:i<W.ss.length)(hkz:key.size<=8)(hvz:val.size<=60):
  Calls Tryz.prog 45 #[.pointer (some ⟨X,0,none⟩),.int .i64 i,.agg #[.int .i64 2,.string key,.string val]] w (ExPost w base X S gR G W.ss.length (did1 W i 2 key val)):=by
 have hz:=dN hw;have hXw:=h.box.lt;have hSw:=h.blk.lt;have x1:=h.box.cell (j:=1) (by simp);simp only[aB,aC]at x1;unfold slc at x1;have c0:=h.st i hi;have hii:(i:Int)<(W.ss.length:Int):=by omega
 have b0:Below w.heap.size w ((w.alloc (.cells #[.int .i64 2,.string key,.string val] 41)).alloc (.cells #[.int .i64 0,.string ⟨#[]⟩,.int .i64 0] 46)):=((aD _ _).alloc (aI _) _).alloc (by simp) _;have h0:=h.kept b0
 have X0:RowTo ((w.alloc (.cells #[.int .i64 2,.string key,.string val] 41)).alloc (.cells #[.int .i64 0,.string ⟨#[]⟩,.int .i64 0] 46)) (w.heap.size+1) 46 3 [.int .i64 0,.string ⟨#[]⟩,.int .i64 0]:=by
  have:=RowTo.whole (w.alloc (.cells #[.int .i64 2,.string key,.string val] 41)) #[.int .i64 0,.string ⟨#[]⟩,.int .i64 0] 46
  simpa using this
 have hzs:((w.alloc (.cells #[.int .i64 2,.string key,.string val] 41)).alloc (.cells #[.int .i64 0,.string ⟨#[]⟩,.int .i64 0] 46)).heap.size=w.heap.size+1+1:=by simp
 have hgr:=h.rows.row.lt;have hgg: ∀i j,i<W.ss.length->j<4->w.heap.size+1≠G i j:=fun i j hi hj=>by have:=(h.ls i j hi hj).row.lt;omega
 obtain⟨r,hr⟩: ∃r,r=did1 W i 2 key val:=⟨_,rfl⟩;rw[<-hr];have hbs:base<=((w.alloc (.cells #[.int .i64 2,.string key,.string val] 41)).alloc (.cells #[.int .i64 0,.string ⟨#[]⟩,.int .i64 0] 46)).heap.size:=by omega
 have HC := aA (show Calls Tryz.prog 66 #[.pointer (some ⟨X, 0, none⟩), .pointer (some ⟨S, i * 5, none⟩), .int .i64 2] ((w.alloc (.cells #[.int .i64 2, .string key, .string val] 41)).alloc (.cells #[.int .i64 0, .string ⟨#[]⟩, .int .i64 0] 46)) (ExPost ((w.alloc (.cells #[.int .i64 2, .string key, .string val] 41)).alloc (.cells #[.int .i64 0, .string ⟨#[]⟩, .int .i64 0] 46)) base X S gR G W.ss.length r) by
  rw[hr]
  exact kAj base X S gR cR G C W i _ h0 lo hz (bW hw.rows).1 hbs hi 2 (.inl rfl) key val)
 have H:=aA h;have HZ:=aA hz;have HW:=aA hw;have B0:=aA b0;have HX0:=aA X0;have HZS:=aA hzs;have HG:=aA hgg;have HR:=aA hr;clear h hz hw b0 X0 hzs hgg hr h0 hbs
 cases e2:(W.ss[i].st==2)
 all_goals
  go_enter Tryz.func45,Tryz.ntmps45;go_wp2_with fail;refine HC.out.mono ?_;rintro e wB hp;obtain rfl:=hp.1;have RB:=HX0.out.same (hp.2.2.2 (w.heap.size+1) (by rw[HZS.out];omega) (by omega) (by omega) (by omega) HG.out);have HP:=aA hp;have r0:=RB.cell (j:=0) (by simp);have r1:=RB.cell (j:=1) (by simp);have r2:=RB.cell (j:=2) (by simp);have s0:=RB.frozen 0;have s1:=RB.frozen 1;have s2:=RB.frozen 2;simp only[aB,aC]at r0 r1 r2;have HRB:=aA RB;clear hp RB;unfold bQ;go_wp2;refine bE (v:= .agg #[.int .i64 r.2.kind,.string r.2.text,.int .i64 0]) (by simp[results,Tryz.results45,go_sem,r0,r1,r2]) rfl ?_;exact HP.out.laid B0.out hb (by omega) HRB.out _ _ _
theorem jA3 (base X S gR cR:Nat)(G C:Nat->Nat->Nat)(W:Wd)(i:Nat)(key val:ByteArray)(w:World)(h:OwnD w X S gR cR G C W)(lo:LoD base X S gR G W.ss.length)(hw:bX W)(hb:base<=w.heap.size)(hi:i<W.ss.length)(hkz:key.size<=8)(hvz:val.size<=60):
  Calls Tryz.prog 45 #[.pointer (some ⟨X,0,none⟩),.int .i64 i,.agg #[.int .i64 3,.string key,.string val]] w (ExPost w base X S gR G W.ss.length (did1 W i 3 key val)):=by
 have hz:=dN hw;have hXw:=h.box.lt;have hSw:=h.blk.lt;have x1:=h.box.cell (j:=1) (by simp);simp only[aB,aC]at x1;unfold slc at x1;have c0:=h.st i hi;have hii:(i:Int)<(W.ss.length:Int):=by omega
 have b0:Below w.heap.size w ((w.alloc (.cells #[.int .i64 3,.string key,.string val] 41)).alloc (.cells #[.int .i64 0,.string ⟨#[]⟩,.int .i64 0] 46)):=((aD _ _).alloc (aI _) _).alloc (by simp) _;have h0:=h.kept b0
 have X0:RowTo ((w.alloc (.cells #[.int .i64 3,.string key,.string val] 41)).alloc (.cells #[.int .i64 0,.string ⟨#[]⟩,.int .i64 0] 46)) (w.heap.size+1) 46 3 [.int .i64 0,.string ⟨#[]⟩,.int .i64 0]:=by
  have:=RowTo.whole (w.alloc (.cells #[.int .i64 3,.string key,.string val] 41)) #[.int .i64 0,.string ⟨#[]⟩,.int .i64 0] 46
  simpa using this
 have hzs:((w.alloc (.cells #[.int .i64 3,.string key,.string val] 41)).alloc (.cells #[.int .i64 0,.string ⟨#[]⟩,.int .i64 0] 46)).heap.size=w.heap.size+1+1:=by simp
 have hgr:=h.rows.row.lt;have hgg: ∀i j,i<W.ss.length->j<4->w.heap.size+1≠G i j:=fun i j hi hj=>by have:=(h.ls i j hi hj).row.lt;omega
 obtain⟨r,hr⟩: ∃r,r=did1 W i 3 key val:=⟨_,rfl⟩;rw[<-hr];have hbs:base<=((w.alloc (.cells #[.int .i64 3,.string key,.string val] 41)).alloc (.cells #[.int .i64 0,.string ⟨#[]⟩,.int .i64 0] 46)).heap.size:=by omega
 have HC := aA (show Calls Tryz.prog 66 #[.pointer (some ⟨X, 0, none⟩), .pointer (some ⟨S, i * 5, none⟩), .int .i64 3] ((w.alloc (.cells #[.int .i64 3, .string key, .string val] 41)).alloc (.cells #[.int .i64 0, .string ⟨#[]⟩, .int .i64 0] 46)) (ExPost ((w.alloc (.cells #[.int .i64 3, .string key, .string val] 41)).alloc (.cells #[.int .i64 0, .string ⟨#[]⟩, .int .i64 0] 46)) base X S gR G W.ss.length r) by
  rw[hr]
  exact kAj base X S gR cR G C W i _ h0 lo hz (bW hw.rows).1 hbs hi 3 (.inr rfl) key val)
 have H:=aA h;have HZ:=aA hz;have HW:=aA hw;have B0:=aA b0;have HX0:=aA X0;have HZS:=aA hzs;have HG:=aA hgg;have HR:=aA hr;clear h hz hw b0 X0 hzs hgg hr h0 hbs
 cases e2:(W.ss[i].st==2)
 all_goals
  go_enter Tryz.func45,Tryz.ntmps45;go_wp2_with fail;refine HC.out.mono ?_;rintro e wB hp;obtain rfl:=hp.1;have RB:=HX0.out.same (hp.2.2.2 (w.heap.size+1) (by rw[HZS.out];omega) (by omega) (by omega) (by omega) HG.out);have HP:=aA hp;have r0:=RB.cell (j:=0) (by simp);have r1:=RB.cell (j:=1) (by simp);have r2:=RB.cell (j:=2) (by simp);have s0:=RB.frozen 0;have s1:=RB.frozen 1;have s2:=RB.frozen 2;simp only[aB,aC]at r0 r1 r2;have HRB:=aA RB;clear hp RB;unfold bQ;go_wp2;refine bE (v:= .agg #[.int .i64 r.2.kind,.string r.2.text,.int .i64 0]) (by simp[results,Tryz.results45,go_sem,r0,r1,r2]) rfl ?_;exact HP.out.laid B0.out hb (by omega) HRB.out _ _ _
theorem jA4 (base X S gR cR:Nat)(G C:Nat->Nat->Nat)(W:Wd)(i:Nat)(key val:ByteArray)(w:World)(h:OwnD w X S gR cR G C W)(lo:LoD base X S gR G W.ss.length)(hw:bX W)(hb:base<=w.heap.size)(hi:i<W.ss.length)(hkz:key.size<=8)(hvz:val.size<=60)(hst:W.ss[i].st≠2):
  Calls Tryz.prog 45 #[.pointer (some ⟨X,0,none⟩),.int .i64 i,.agg #[.int .i64 4,.string key,.string val]] w (ExPost w base X S gR G W.ss.length (did1 W i 4 key val)):=by
 have hz:=dN hw;have hXw:=h.box.lt;have hSw:=h.blk.lt;have x1:=h.box.cell (j:=1) (by simp);simp only[aB,aC]at x1;unfold slc at x1;have c0:=h.st i hi;have hii:(i:Int)<(W.ss.length:Int):=by omega
 have b0:Below w.heap.size w ((w.alloc (.cells #[.int .i64 4,.string key,.string val] 41)).alloc (.cells #[.int .i64 0,.string ⟨#[]⟩,.int .i64 0] 46)):=((aD _ _).alloc (aI _) _).alloc (by simp) _;have h0:=h.kept b0
 have X0:RowTo ((w.alloc (.cells #[.int .i64 4,.string key,.string val] 41)).alloc (.cells #[.int .i64 0,.string ⟨#[]⟩,.int .i64 0] 46)) (w.heap.size+1) 46 3 [.int .i64 0,.string ⟨#[]⟩,.int .i64 0]:=by
  have:=RowTo.whole (w.alloc (.cells #[.int .i64 4,.string key,.string val] 41)) #[.int .i64 0,.string ⟨#[]⟩,.int .i64 0] 46
  simpa using this
 have hzs:((w.alloc (.cells #[.int .i64 4,.string key,.string val] 41)).alloc (.cells #[.int .i64 0,.string ⟨#[]⟩,.int .i64 0] 46)).heap.size=w.heap.size+1+1:=by simp
 have hgr:=h.rows.row.lt;have hgg: ∀i j,i<W.ss.length->j<4->w.heap.size+1≠G i j:=fun i j hi hj=>by have:=(h.ls i j hi hj).row.lt;omega
 obtain⟨r,hr⟩: ∃r,r=did1 W i 4 key val:=⟨_,rfl⟩;rw[<-hr];have hbs:base<=((w.alloc (.cells #[.int .i64 4,.string key,.string val] 41)).alloc (.cells #[.int .i64 0,.string ⟨#[]⟩,.int .i64 0] 46)).heap.size:=by omega
 have HC := aA (show Calls Tryz.prog 67 #[.pointer (some ⟨S, i * 5, none⟩)] ((w.alloc (.cells #[.int .i64 4, .string key, .string val] 41)).alloc (.cells #[.int .i64 0, .string ⟨#[]⟩, .int .i64 0] 46)) (ExPost ((w.alloc (.cells #[.int .i64 4, .string key, .string val] 41)).alloc (.cells #[.int .i64 0, .string ⟨#[]⟩, .int .i64 0] 46)) base X S gR G W.ss.length r) by
  rw[hr]
  exact jA0 base X S gR cR G C W i _ h0 lo hz hbs hi hst key val)
 have H:=aA h;have HZ:=aA hz;have HW:=aA hw;have B0:=aA b0;have HX0:=aA X0;have HZS:=aA hzs;have HG:=aA hgg;have HR:=aA hr;clear h hz hw b0 X0 hzs hgg hr h0 hbs;have e2:(W.ss[i].st==2)=false:=bJ.2 hst
 ·skip;go_enter Tryz.func45,Tryz.ntmps45;go_wp2_with fail;refine HC.out.mono ?_;rintro e wB hp;obtain rfl:=hp.1;have RB:=HX0.out.same (hp.2.2.2 (w.heap.size+1) (by rw[HZS.out];omega) (by omega) (by omega) (by omega) HG.out);have HP:=aA hp;have r0:=RB.cell (j:=0) (by simp);have r1:=RB.cell (j:=1) (by simp);have r2:=RB.cell (j:=2) (by simp);have s0:=RB.frozen 0;have s1:=RB.frozen 1;have s2:=RB.frozen 2;simp only[aB,aC]at r0 r1 r2;have HRB:=aA RB;clear hp RB;unfold bQ;go_wp2;refine bE (v:= .agg #[.int .i64 r.2.kind,.string r.2.text,.int .i64 0]) (by simp[results,Tryz.results45,go_sem,r0,r1,r2]) rfl ?_;exact HP.out.laid B0.out hb (by omega) HRB.out _ _ _
theorem jA5 (base X S gR cR:Nat)(G C:Nat->Nat->Nat)(W:Wd)(i:Nat)(key val:ByteArray)(w:World)(h:OwnD w X S gR cR G C W)(lo:LoD base X S gR G W.ss.length)(hw:bX W)(hb:base<=w.heap.size)(hi:i<W.ss.length)(hkz:key.size<=8)(hvz:val.size<=60)(hst:W.ss[i].st≠2):
  Calls Tryz.prog 45 #[.pointer (some ⟨X,0,none⟩),.int .i64 i,.agg #[.int .i64 5,.string key,.string val]] w (ExPost w base X S gR G W.ss.length (did1 W i 5 key val)):=by
 have hz:=dN hw;have hXw:=h.box.lt;have hSw:=h.blk.lt;have x1:=h.box.cell (j:=1) (by simp);simp only[aB,aC]at x1;unfold slc at x1;have c0:=h.st i hi;have hii:(i:Int)<(W.ss.length:Int):=by omega
 have b0:Below w.heap.size w ((w.alloc (.cells #[.int .i64 5,.string key,.string val] 41)).alloc (.cells #[.int .i64 0,.string ⟨#[]⟩,.int .i64 0] 46)):=((aD _ _).alloc (aI _) _).alloc (by simp) _;have h0:=h.kept b0
 have X0:RowTo ((w.alloc (.cells #[.int .i64 5,.string key,.string val] 41)).alloc (.cells #[.int .i64 0,.string ⟨#[]⟩,.int .i64 0] 46)) (w.heap.size+1) 46 3 [.int .i64 0,.string ⟨#[]⟩,.int .i64 0]:=by
  have:=RowTo.whole (w.alloc (.cells #[.int .i64 5,.string key,.string val] 41)) #[.int .i64 0,.string ⟨#[]⟩,.int .i64 0] 46
  simpa using this
 have hzs:((w.alloc (.cells #[.int .i64 5,.string key,.string val] 41)).alloc (.cells #[.int .i64 0,.string ⟨#[]⟩,.int .i64 0] 46)).heap.size=w.heap.size+1+1:=by simp
 have hgr:=h.rows.row.lt;have hgg: ∀i j,i<W.ss.length->j<4->w.heap.size+1≠G i j:=fun i j hi hj=>by have:=(h.ls i j hi hj).row.lt;omega
 obtain⟨r,hr⟩: ∃r,r=did1 W i 5 key val:=⟨_,rfl⟩;rw[<-hr];have hbs:base<=((w.alloc (.cells #[.int .i64 5,.string key,.string val] 41)).alloc (.cells #[.int .i64 0,.string ⟨#[]⟩,.int .i64 0] 46)).heap.size:=by omega
 have HC := aA (show Calls Tryz.prog 64 #[.string lB] ((w.alloc (.cells #[.int .i64 5, .string key, .string val] 41)).alloc (.cells #[.int .i64 0, .string ⟨#[]⟩, .int .i64 0] 46)) (ExPost ((w.alloc (.cells #[.int .i64 5, .string key, .string val] 41)).alloc (.cells #[.int .i64 0, .string ⟨#[]⟩, .int .i64 0] 46)) base X S gR G W.ss.length r) by
  rw[hr];rw[show did1 W i 5 key val=(W,cY lB) by unfold did1;simp only[fY hi];rw[if_neg (fun hh=>hst hh.1)];simp]
  exact (lZ lB _).mono fun e w' hh => ExPost.same h0 lo hz hbs hh.1 hh.2)
 have H:=aA h;have HZ:=aA hz;have HW:=aA hw;have B0:=aA b0;have HX0:=aA X0;have HZS:=aA hzs;have HG:=aA hgg;have HR:=aA hr;clear h hz hw b0 X0 hzs hgg hr h0 hbs;have e2:(W.ss[i].st==2)=false:=bJ.2 hst
 ·skip;go_enter Tryz.func45,Tryz.ntmps45;go_wp2_with fail;refine HC.out.mono ?_;rintro e wB hp;obtain rfl:=hp.1;have RB:=HX0.out.same (hp.2.2.2 (w.heap.size+1) (by rw[HZS.out];omega) (by omega) (by omega) (by omega) HG.out);have HP:=aA hp;have r0:=RB.cell (j:=0) (by simp);have r1:=RB.cell (j:=1) (by simp);have r2:=RB.cell (j:=2) (by simp);have s0:=RB.frozen 0;have s1:=RB.frozen 1;have s2:=RB.frozen 2;simp only[aB,aC]at r0 r1 r2;have HRB:=aA RB;clear hp RB;unfold bQ;go_wp2;refine bE (v:= .agg #[.int .i64 r.2.kind,.string r.2.text,.int .i64 0]) (by simp[results,Tryz.results45,go_sem,r0,r1,r2]) rfl ?_;exact HP.out.laid B0.out hb (by omega) HRB.out _ _ _
theorem jA6 (base X S gR cR:Nat)(G C:Nat->Nat->Nat)(W:Wd)(i:Nat)(key val:ByteArray)(w:World)(h:OwnD w X S gR cR G C W)(lo:LoD base X S gR G W.ss.length)(hw:bX W)(hb:base<=w.heap.size)(hi:i<W.ss.length)(hkz:key.size<=8)(hvz:val.size<=60)(hst:W.ss[i].st≠2):
  Calls Tryz.prog 45 #[.pointer (some ⟨X,0,none⟩),.int .i64 i,.agg #[.int .i64 10,.string key,.string val]] w (ExPost w base X S gR G W.ss.length (did1 W i 10 key val)):=by
 have hz:=dN hw;have hXw:=h.box.lt;have hSw:=h.blk.lt;have x1:=h.box.cell (j:=1) (by simp);simp only[aB,aC]at x1;unfold slc at x1;have c0:=h.st i hi;have hii:(i:Int)<(W.ss.length:Int):=by omega
 have b0:Below w.heap.size w ((w.alloc (.cells #[.int .i64 10,.string key,.string val] 41)).alloc (.cells #[.int .i64 0,.string ⟨#[]⟩,.int .i64 0] 46)):=((aD _ _).alloc (aI _) _).alloc (by simp) _;have h0:=h.kept b0
 have X0:RowTo ((w.alloc (.cells #[.int .i64 10,.string key,.string val] 41)).alloc (.cells #[.int .i64 0,.string ⟨#[]⟩,.int .i64 0] 46)) (w.heap.size+1) 46 3 [.int .i64 0,.string ⟨#[]⟩,.int .i64 0]:=by
  have:=RowTo.whole (w.alloc (.cells #[.int .i64 10,.string key,.string val] 41)) #[.int .i64 0,.string ⟨#[]⟩,.int .i64 0] 46
  simpa using this
 have hzs:((w.alloc (.cells #[.int .i64 10,.string key,.string val] 41)).alloc (.cells #[.int .i64 0,.string ⟨#[]⟩,.int .i64 0] 46)).heap.size=w.heap.size+1+1:=by simp
 have hgr:=h.rows.row.lt;have hgg: ∀i j,i<W.ss.length->j<4->w.heap.size+1≠G i j:=fun i j hi hj=>by have:=(h.ls i j hi hj).row.lt;omega
 obtain⟨r,hr⟩: ∃r,r=did1 W i 10 key val:=⟨_,rfl⟩;rw[<-hr];have hbs:base<=((w.alloc (.cells #[.int .i64 10,.string key,.string val] 41)).alloc (.cells #[.int .i64 0,.string ⟨#[]⟩,.int .i64 0] 46)).heap.size:=by omega
 have HC := aA (show Calls Tryz.prog 71 #[.pointer (some ⟨X, 0, none⟩), .int .i64 i, .agg #[.int .i64 10, .string key, .string val]] ((w.alloc (.cells #[.int .i64 10, .string key, .string val] 41)).alloc (.cells #[.int .i64 0, .string ⟨#[]⟩, .int .i64 0] 46)) (ExPost ((w.alloc (.cells #[.int .i64 10, .string key, .string val] 41)).alloc (.cells #[.int .i64 0, .string ⟨#[]⟩, .int .i64 0] 46)) base X S gR G W.ss.length r) by
  rw[hr]
  exact vAs base X S gR cR G C W i key val _ h0 lo hw hbs hi hkz hvz hst)
 have H:=aA h;have HZ:=aA hz;have HW:=aA hw;have B0:=aA b0;have HX0:=aA X0;have HZS:=aA hzs;have HG:=aA hgg;have HR:=aA hr;clear h hz hw b0 X0 hzs hgg hr h0 hbs;have e2:(W.ss[i].st==2)=false:=bJ.2 hst
 ·skip;go_enter Tryz.func45,Tryz.ntmps45;go_wp2_with fail;refine HC.out.mono ?_;rintro e wB hp;obtain rfl:=hp.1;have RB:=HX0.out.same (hp.2.2.2 (w.heap.size+1) (by rw[HZS.out];omega) (by omega) (by omega) (by omega) HG.out);have HP:=aA hp;have r0:=RB.cell (j:=0) (by simp);have r1:=RB.cell (j:=1) (by simp);have r2:=RB.cell (j:=2) (by simp);have s0:=RB.frozen 0;have s1:=RB.frozen 1;have s2:=RB.frozen 2;simp only[aB,aC]at r0 r1 r2;have HRB:=aA RB;clear hp RB;unfold bQ;go_wp2;refine bE (v:= .agg #[.int .i64 r.2.kind,.string r.2.text,.int .i64 0]) (by simp[results,Tryz.results45,go_sem,r0,r1,r2]) rfl ?_;exact HP.out.laid B0.out hb (by omega) HRB.out _ _ _
theorem kAl (base X S gR cR:Nat)(G C:Nat->Nat->Nat)(W:Wd)(i:Nat)(k:Int)(key val:ByteArray)(w:World)(h:OwnD w X S gR cR G C W)(lo:LoD base X S gR G W.ss.length)(hw:bX W)(hb:base<=w.heap.size)(hi:i<W.ss.length)(hkz:key.size<=8)(hvz:val.size<=60)(hst:W.ss[i].st=2)(hk2: ¬(k=2\/k=3)):
  Calls Tryz.prog 45 #[.pointer (some ⟨X,0,none⟩),.int .i64 i,.agg #[.int .i64 k,.string key,.string val]] w (ExPost w base X S gR G W.ss.length (did1 W i k key val)):=by
 have hz:=dN hw;have hXw:=h.box.lt;have hSw:=h.blk.lt;have x1:=h.box.cell (j:=1) (by simp);simp only[aB,aC]at x1;unfold slc at x1;have c0:=h.st i hi;have hii:(i:Int)<(W.ss.length:Int):=by omega
 have b0:Below w.heap.size w ((w.alloc (.cells #[.int .i64 k,.string key,.string val] 41)).alloc (.cells #[.int .i64 0,.string ⟨#[]⟩,.int .i64 0] 46)):=((aD _ _).alloc (aI _) _).alloc (by simp) _;have h0:=h.kept b0
 have X0:RowTo ((w.alloc (.cells #[.int .i64 k,.string key,.string val] 41)).alloc (.cells #[.int .i64 0,.string ⟨#[]⟩,.int .i64 0] 46)) (w.heap.size+1) 46 3 [.int .i64 0,.string ⟨#[]⟩,.int .i64 0]:=by
  have:=RowTo.whole (w.alloc (.cells #[.int .i64 k,.string key,.string val] 41)) #[.int .i64 0,.string ⟨#[]⟩,.int .i64 0] 46
  simpa using this
 have hzs:((w.alloc (.cells #[.int .i64 k,.string key,.string val] 41)).alloc (.cells #[.int .i64 0,.string ⟨#[]⟩,.int .i64 0] 46)).heap.size=w.heap.size+1+1:=by simp
 have hgr:=h.rows.row.lt;have hgg: ∀i j,i<W.ss.length->j<4->w.heap.size+1≠G i j:=fun i j hi hj=>by have:=(h.ls i j hi hj).row.lt;omega
 obtain⟨r,hr⟩: ∃r,r=did1 W i k key val:=⟨_,rfl⟩;rw[<-hr];have hbs:base<=((w.alloc (.cells #[.int .i64 k,.string key,.string val] 41)).alloc (.cells #[.int .i64 0,.string ⟨#[]⟩,.int .i64 0] 46)).heap.size:=by omega
 have HC := aA (show Calls Tryz.prog 64 #[.string jU] ((w.alloc (.cells #[.int .i64 k, .string key, .string val] 41)).alloc (.cells #[.int .i64 0, .string ⟨#[]⟩, .int .i64 0] 46)) (ExPost ((w.alloc (.cells #[.int .i64 k, .string key, .string val] 41)).alloc (.cells #[.int .i64 0, .string ⟨#[]⟩, .int .i64 0] 46)) base X S gR G W.ss.length r) by
  rw[hr];rw[show did1 W i k key val=(W,cY jU) by unfold did1;simp only[fY hi];rw[if_pos ⟨hst,hk2⟩]]
  exact (lZ jU _).mono fun e w' hh => ExPost.same h0 lo hz hbs hh.1 hh.2)
 have H:=aA h;have HZ:=aA hz;have HW:=aA hw;have B0:=aA b0;have HX0:=aA X0;have HZS:=aA hzs;have HG:=aA hgg;have HR:=aA hr;clear h hz hw b0 X0 hzs hgg hr h0 hbs;have e2:(W.ss[i].st==2)=true:=beq_iff_eq.2 hst;have e3:(k !=2)=true:=eP.2 (fun e=>hk2 (.inl e));have e4:(k !=3)=true:=eP.2 (fun e=>hk2 (.inr e));clear hk2
 ·skip;go_enter Tryz.func45,Tryz.ntmps45;go_wp2_with fail;refine HC.out.mono ?_;rintro e wB hp;obtain rfl:=hp.1;have RB:=HX0.out.same (hp.2.2.2 (w.heap.size+1) (by rw[HZS.out];omega) (by omega) (by omega) (by omega) HG.out);have HP:=aA hp;have r0:=RB.cell (j:=0) (by simp);have r1:=RB.cell (j:=1) (by simp);have r2:=RB.cell (j:=2) (by simp);have s0:=RB.frozen 0;have s1:=RB.frozen 1;have s2:=RB.frozen 2;simp only[aB,aC]at r0 r1 r2;have HRB:=aA RB;clear hp RB;unfold bQ;go_wp2;refine bE (v:= .agg #[.int .i64 r.2.kind,.string r.2.text,.int .i64 0]) (by simp[results,Tryz.results45,go_sem,r0,r1,r2]) rfl ?_;exact HP.out.laid B0.out hb (by omega) HRB.out _ _ _
end Go.Proofs.YtpbaobmegomfpabGreatDoor

/-
  Texts of the proof.
-/
import Derived.Test.YtpbaobmegomfpabGreatDoorG6
import Derived.WalkSpells
import Derived.WalkLawsBesides
import Derived.Maps.RangeWalk
set_option linter.unusedVariables false
set_option linter.unusedSimpArgs false
set_option maxRecDepth 100000
set_option maxHeartbeats 16000000
open List renaming getElem_toArray→aE,getElem_cons_zero→aB,getElem_cons_succ→aC
open Nat renaming le_refl→aI,lt_of_lt_of_le→bD
open Go.Lib renaming hid→aA
open Go.RowKit.Below renaming refl→aD,setCell→dT,alloc→dU
open Go.World renaming cell?_of_block→aV
open Classical renaming byContradiction→gP
open Bool renaming and_eq_true→eB
open Go renaming bodyPost_ret→bE,below_drewN→aZ
namespace Go.Proofs.YtpbaobmegomfpabGreatDoor
open Go.RowKit
theorem jA7 (base X S gR cR:Nat)(G C:Nat->Nat->Nat)(W:Wd)(i:Nat)(key val:ByteArray)(w:World)(h:OwnD w X S gR cR G C W)(lo:LoD base X S gR G W.ss.length)(hw:bX W)(hb:base<=w.heap.size)(hi:i<W.ss.length)(hkz:key.size<=8)(hvz:val.size<=60)(hst:W.ss[i].st≠2):
  Calls Tryz.prog 45 #[.pointer (some ⟨X,0,none⟩),.int .i64 i,.agg #[.int .i64 9,.string key,.string val]] w (ExPost w base X S gR G W.ss.length (did1 W i 9 key val)):=by
 have hz:=dN hw;have hXw:=h.box.lt;have hSw:=h.blk.lt;have x1:=h.box.cell (j:=1) (by simp);simp only[aB,aC]at x1;unfold slc at x1;have c0:=h.st i hi;have hii:(i:Int)<(W.ss.length:Int):=by omega
 have b0:Below w.heap.size w ((w.alloc (.cells #[.int .i64 9,.string key,.string val] 41)).alloc (.cells #[.int .i64 0,.string ⟨#[]⟩,.int .i64 0] 46)):=((aD _ _).alloc (aI _) _).alloc (by simp) _;have h0:=h.kept b0
 have X0:RowTo ((w.alloc (.cells #[.int .i64 9,.string key,.string val] 41)).alloc (.cells #[.int .i64 0,.string ⟨#[]⟩,.int .i64 0] 46)) (w.heap.size+1) 46 3 [.int .i64 0,.string ⟨#[]⟩,.int .i64 0]:=by
  have:=RowTo.whole (w.alloc (.cells #[.int .i64 9,.string key,.string val] 41)) #[.int .i64 0,.string ⟨#[]⟩,.int .i64 0] 46
  simpa using this
 have hzs:((w.alloc (.cells #[.int .i64 9,.string key,.string val] 41)).alloc (.cells #[.int .i64 0,.string ⟨#[]⟩,.int .i64 0] 46)).heap.size=w.heap.size+1+1:=by simp
 have hgr:=h.rows.row.lt;have hgg: ∀i j,i<W.ss.length->j<4->w.heap.size+1≠G i j:=fun i j hi hj=>by have:=(h.ls i j hi hj).row.lt;omega
 obtain⟨r,hr⟩: ∃r,r=did1 W i 9 key val:=⟨_,rfl⟩;rw[<-hr];have hbs:base<=((w.alloc (.cells #[.int .i64 9,.string key,.string val] 41)).alloc (.cells #[.int .i64 0,.string ⟨#[]⟩,.int .i64 0] 46)).heap.size:=by omega
 have HC := aA (show ∀ (w9 : World), OwnD w9 X S gR cR G C W → base ≤ w9.heap.size → Calls Tryz.prog 70 #[.pointer (some ⟨S, i * 5 + 1, none⟩), .agg #[.int .i64 9, .string key, .string val], .int .i64 6] w9 (ExPost w9 base X S gR G W.ss.length r) from fun w9 h0 hbs => by
  rw[hr];have hrs:=(bW (hw.sess i hi).set).1;rw[show did1 W i 9 key val=(if aM (W.ss[i].li 0) key=false/\6<=(W.ss[i].li 0).length then(W,cY eQ)else(W.put i {W.ss[i]with set:=cI W.ss[i].set key val},dX)) by unfold did1;simp only[fY hi,eS hrs];rw[if_neg (fun hh=>hst hh.1)];simp[Sess.li]]
  exact kAk base X S gR cR G C W i 0 9 _ h0 lo hz hbs hi (by omega) key val hkz hvz hrs _ rfl (fun k hk => by rcases j4 hk with rfl | rfl | rfl | rfl <;> rfl))
 have H0:=aA h0;have HG2:=aA (show∀i j,i<W.ss.length->j<4->w.heap.size≠G i j from fun i j hi hj=>by have:=(h.ls i j hi hj).row.lt;omega);have H:=aA h;have HZ:=aA hz;have HW:=aA hw;have B0:=aA b0;have HX0:=aA X0;have HZS:=aA hzs;have HG:=aA hgg;have HR:=aA hr;clear h hz hw b0 X0 hzs hgg hr h0;have e2:(W.ss[i].st==2)=false:=bJ.2 hst
 ·skip;go_enter Tryz.func45,Tryz.ntmps45;go_wp2_with fail;have hsz0:=HZS.out;have y0:((w.alloc (.cells #[.int .i64 9,.string key,.string val] 41)).alloc (.cells #[.int .i64 0,.string ⟨#[]⟩,.int .i64 0] 46)).cell? ⟨w.heap.size,0,none⟩=some (.int .i64 9):=by simp[go_sem]
  have y1:((w.alloc (.cells #[.int .i64 9,.string key,.string val] 41)).alloc (.cells #[.int .i64 0,.string ⟨#[]⟩,.int .i64 0] 46)).cell? ⟨w.heap.size,1,none⟩=some (.string key):=by simp[go_sem]
  have y2:((w.alloc (.cells #[.int .i64 9,.string key,.string val] 41)).alloc (.cells #[.int .i64 0,.string ⟨#[]⟩,.int .i64 0] 46)).cell? ⟨w.heap.size,2,none⟩=some (.string val):=by simp[go_sem]
  generalize hA:((w.alloc (.cells #[.int .i64 9,.string key,.string val] 41)).alloc (.cells #[.int .i64 0,.string ⟨#[]⟩,.int .i64 0] 46))=w8 at*;have hw8:w.heap.size<w8.heap.size:=by omega
  have dS:=aA (show w8.drew.cell? ⟨w.heap.size,0,none⟩=some (.int .i64 9)/\w8.drew.cell? ⟨w.heap.size,1,none⟩=some (.string key)/\w8.drew.cell? ⟨w.heap.size,2,none⟩=some (.string val)from⟨y0,y1,y2⟩)
  go_region_held3 (fun wx=>wx.cell? ⟨w.heap.size,0,none⟩=some (.int .i64 9)/\wx.cell? ⟨w.heap.size,1,none⟩=some (.string key)/\wx.cell? ⟨w.heap.size,2,none⟩=some (.string val))
   (first
    |with_reducible exact⟨y0,y1,y2⟩
    |with_reducible exact dS.out
    |with_reducible exact⟨eW z0 (by omega),eW z1 (by omega),eW z2 (by omega)⟩
    | with_reducible exact ⟨z0, z1, z2⟩)
   (first
    | (
     go_at_call 70
     refine(HC.out _ (by first|exact H0.out|exact H0.out.kept (aD _ _).drew|exact H0.out.kept (aZ (aD _ _) _)) (by first|exact hbs|assumption)).mono ?_
     rintro e wB ⟨rfl,hp1,hp2,hp3⟩;have hpB:ExPost w8 base X S gR G W.ss.length r (.returned (bQ r.2.kind r.2.text)) wB:=⟨rfl,hp1,⟨hp2.os,hp2.tape,hp2.output,hp2.size,hp2.block⟩,hp3⟩;have hxB:=hpB.2.2.2 w.heap.size hw8 (by omega) (by omega) (by omega) HG2.out;have z0:=(aV (a:=⟨w.heap.size,0,none⟩) hxB).trans y0;have z1:=(aV (a:=⟨w.heap.size,1,none⟩) hxB).trans y1;have z2:=(aV (a:=⟨w.heap.size,2,none⟩) hxB).trans y2;have RB:=HX0.out.same (hpB.2.2.2 (w.heap.size+1) (by omega) (by omega) (by omega) (by omega) HG.out);have r0:=RB.cell (j:=0) (by simp);have r1:=RB.cell (j:=1) (by simp);have r2:=RB.cell (j:=2) (by simp);have s0:=RB.frozen 0;have s1:=RB.frozen 1;have s2:=RB.frozen 2;simp only[aB,aC]at r0 r1 r2
     unfold bQ))
  have HP:=aA hpB;have HRB:=aA RB;clear hpB hp1 hp2 hp3 hxB z0 z1 z2 RB;go_wp2;refine bE (v:= .agg #[.int .i64 r.2.kind,.string r.2.text,.int .i64 0]) (by simp[results,Tryz.results45,go_sem,r0,r1,r2]) rfl ?_;exact HP.out.laid B0.out hb (by omega) HRB.out _ _ _
theorem jA8 (base X S gR cR:Nat)(G C:Nat->Nat->Nat)(W:Wd)(i:Nat)(key val:ByteArray)(w:World)(h:OwnD w X S gR cR G C W)(lo:LoD base X S gR G W.ss.length)(hw:bX W)(hb:base<=w.heap.size)(hi:i<W.ss.length)(hkz:key.size<=8)(hvz:val.size<=60)(hst:W.ss[i].st≠2):
  Calls Tryz.prog 45 #[.pointer (some ⟨X,0,none⟩),.int .i64 i,.agg #[.int .i64 11,.string key,.string val]] w (ExPost w base X S gR G W.ss.length (did1 W i 11 key val)):=by
 have hz:=dN hw;have hXw:=h.box.lt;have hSw:=h.blk.lt;have x1:=h.box.cell (j:=1) (by simp);simp only[aB,aC]at x1;unfold slc at x1;have c0:=h.st i hi;have hii:(i:Int)<(W.ss.length:Int):=by omega
 have b0:Below w.heap.size w ((w.alloc (.cells #[.int .i64 11,.string key,.string val] 41)).alloc (.cells #[.int .i64 0,.string ⟨#[]⟩,.int .i64 0] 46)):=((aD _ _).alloc (aI _) _).alloc (by simp) _;have h0:=h.kept b0
 have X0:RowTo ((w.alloc (.cells #[.int .i64 11,.string key,.string val] 41)).alloc (.cells #[.int .i64 0,.string ⟨#[]⟩,.int .i64 0] 46)) (w.heap.size+1) 46 3 [.int .i64 0,.string ⟨#[]⟩,.int .i64 0]:=by
  have:=RowTo.whole (w.alloc (.cells #[.int .i64 11,.string key,.string val] 41)) #[.int .i64 0,.string ⟨#[]⟩,.int .i64 0] 46
  simpa using this
 have hzs:((w.alloc (.cells #[.int .i64 11,.string key,.string val] 41)).alloc (.cells #[.int .i64 0,.string ⟨#[]⟩,.int .i64 0] 46)).heap.size=w.heap.size+1+1:=by simp
 have hgr:=h.rows.row.lt;have hgg: ∀i j,i<W.ss.length->j<4->w.heap.size+1≠G i j:=fun i j hi hj=>by have:=(h.ls i j hi hj).row.lt;omega
 obtain⟨r,hr⟩: ∃r,r=did1 W i 11 key val:=⟨_,rfl⟩;rw[<-hr];have hbs:base<=((w.alloc (.cells #[.int .i64 11,.string key,.string val] 41)).alloc (.cells #[.int .i64 0,.string ⟨#[]⟩,.int .i64 0] 46)).heap.size:=by omega
 have HC := aA (show ∀ (w9 : World), OwnD w9 X S gR cR G C W → base ≤ w9.heap.size → Calls Tryz.prog 70 #[.pointer (some ⟨S, i * 5 + 2, none⟩), .agg #[.int .i64 11, .string key, .string val], .int .i64 6] w9 (ExPost w9 base X S gR G W.ss.length r) from fun w9 h0 hbs => by
  rw[hr];have hrs:=(bW (hw.sess i hi).prep).1;rw[show did1 W i 11 key val=(if aM (W.ss[i].li 1) key=false/\6<=(W.ss[i].li 1).length then(W,cY eQ)else(W.put i {W.ss[i]with prep:=cI W.ss[i].prep key val},dX)) by unfold did1;simp only[fY hi,eS hrs];rw[if_neg (fun hh=>hst hh.1)];simp[Sess.li]]
  exact kAk base X S gR cR G C W i 1 11 _ h0 lo hz hbs hi (by omega) key val hkz hvz hrs _ rfl (fun k hk => by rcases j4 hk with rfl | rfl | rfl | rfl <;> rfl))
 have H0:=aA h0;have HG2:=aA (show∀i j,i<W.ss.length->j<4->w.heap.size≠G i j from fun i j hi hj=>by have:=(h.ls i j hi hj).row.lt;omega);have H:=aA h;have HZ:=aA hz;have HW:=aA hw;have B0:=aA b0;have HX0:=aA X0;have HZS:=aA hzs;have HG:=aA hgg;have HR:=aA hr;clear h hz hw b0 X0 hzs hgg hr h0;have e2:(W.ss[i].st==2)=false:=bJ.2 hst
 ·skip;go_enter Tryz.func45,Tryz.ntmps45;go_wp2_with fail;have hsz0:=HZS.out;have y0:((w.alloc (.cells #[.int .i64 11,.string key,.string val] 41)).alloc (.cells #[.int .i64 0,.string ⟨#[]⟩,.int .i64 0] 46)).cell? ⟨w.heap.size,0,none⟩=some (.int .i64 11):=by simp[go_sem]
  have y1:((w.alloc (.cells #[.int .i64 11,.string key,.string val] 41)).alloc (.cells #[.int .i64 0,.string ⟨#[]⟩,.int .i64 0] 46)).cell? ⟨w.heap.size,1,none⟩=some (.string key):=by simp[go_sem]
  have y2:((w.alloc (.cells #[.int .i64 11,.string key,.string val] 41)).alloc (.cells #[.int .i64 0,.string ⟨#[]⟩,.int .i64 0] 46)).cell? ⟨w.heap.size,2,none⟩=some (.string val):=by simp[go_sem]
  generalize hA:((w.alloc (.cells #[.int .i64 11,.string key,.string val] 41)).alloc (.cells #[.int .i64 0,.string ⟨#[]⟩,.int .i64 0] 46))=w8 at*;have hw8:w.heap.size<w8.heap.size:=by omega
  have dS:=aA (show w8.drew.cell? ⟨w.heap.size,0,none⟩=some (.int .i64 11)/\w8.drew.cell? ⟨w.heap.size,1,none⟩=some (.string key)/\w8.drew.cell? ⟨w.heap.size,2,none⟩=some (.string val)from⟨y0,y1,y2⟩)
  go_region_held3 (fun wx=>wx.cell? ⟨w.heap.size,0,none⟩=some (.int .i64 11)/\wx.cell? ⟨w.heap.size,1,none⟩=some (.string key)/\wx.cell? ⟨w.heap.size,2,none⟩=some (.string val))
   (first
    |with_reducible exact⟨y0,y1,y2⟩
    |with_reducible exact dS.out
    |with_reducible exact⟨eW z0 (by omega),eW z1 (by omega),eW z2 (by omega)⟩
    | with_reducible exact ⟨z0, z1, z2⟩)
   (first
    | (
     go_at_call 70
     refine(HC.out _ (by first|exact H0.out|exact H0.out.kept (aD _ _).drew|exact H0.out.kept (aZ (aD _ _) _)) (by first|exact hbs|assumption)).mono ?_
     rintro e wB ⟨rfl,hp1,hp2,hp3⟩;have hpB:ExPost w8 base X S gR G W.ss.length r (.returned (bQ r.2.kind r.2.text)) wB:=⟨rfl,hp1,⟨hp2.os,hp2.tape,hp2.output,hp2.size,hp2.block⟩,hp3⟩;have hxB:=hpB.2.2.2 w.heap.size hw8 (by omega) (by omega) (by omega) HG2.out;have z0:=(aV (a:=⟨w.heap.size,0,none⟩) hxB).trans y0;have z1:=(aV (a:=⟨w.heap.size,1,none⟩) hxB).trans y1;have z2:=(aV (a:=⟨w.heap.size,2,none⟩) hxB).trans y2;have RB:=HX0.out.same (hpB.2.2.2 (w.heap.size+1) (by omega) (by omega) (by omega) (by omega) HG.out);have r0:=RB.cell (j:=0) (by simp);have r1:=RB.cell (j:=1) (by simp);have r2:=RB.cell (j:=2) (by simp);have s0:=RB.frozen 0;have s1:=RB.frozen 1;have s2:=RB.frozen 2;simp only[aB,aC]at r0 r1 r2
     unfold bQ))
  have HP:=aA hpB;have HRB:=aA RB;clear hpB hp1 hp2 hp3 hxB z0 z1 z2 RB;go_wp2;refine bE (v:= .agg #[.int .i64 r.2.kind,.string r.2.text,.int .i64 0]) (by simp[results,Tryz.results45,go_sem,r0,r1,r2]) rfl ?_;exact HP.out.laid B0.out hb (by omega) HRB.out _ _ _
theorem iU {w:World}{o:Obj}{p:Addr}{u:Value}(hp:p.block<w.heap.size)(h:w.cell? p=some u):(w.alloc o).cell? p=some u:=(((aD w.heap.size w).alloc (aI _) o).cell hp).trans h
theorem jA9 (base X S gR cR:Nat)(G C:Nat->Nat->Nat)(W:Wd)(i:Nat)(key val:ByteArray)(w:World)(h:OwnD w X S gR cR G C W)(lo:LoD base X S gR G W.ss.length)(hw:bX W)(hb:base<=w.heap.size)(hi:i<W.ss.length)(hkz:key.size<=8)(hvz:val.size<=60)(hst:W.ss[i].st≠2):
  Calls Tryz.prog 45 #[.pointer (some ⟨X,0,none⟩),.int .i64 i,.agg #[.int .i64 6,.string key,.string val]] w (ExPost w base X S gR G W.ss.length (did1 W i 6 key val)):=by
 have hz:=dN hw;have hXw:=h.box.lt;have hSw:=h.blk.lt;have x1:=h.box.cell (j:=1) (by simp);simp only[aB,aC]at x1;unfold slc at x1;have c0:=h.st i hi;have hii:(i:Int)<(W.ss.length:Int):=by omega
 have b0:Below w.heap.size w ((w.alloc (.cells #[.int .i64 6,.string key,.string val] 41)).alloc (.cells #[.int .i64 0,.string ⟨#[]⟩,.int .i64 0] 46)):=((aD _ _).alloc (aI _) _).alloc (by simp) _;have h0:=h.kept b0
 have X0:RowTo ((w.alloc (.cells #[.int .i64 6,.string key,.string val] 41)).alloc (.cells #[.int .i64 0,.string ⟨#[]⟩,.int .i64 0] 46)) (w.heap.size+1) 46 3 [.int .i64 0,.string ⟨#[]⟩,.int .i64 0]:=by
  have:=RowTo.whole (w.alloc (.cells #[.int .i64 6,.string key,.string val] 41)) #[.int .i64 0,.string ⟨#[]⟩,.int .i64 0] 46
  simpa using this
 have hzs:((w.alloc (.cells #[.int .i64 6,.string key,.string val] 41)).alloc (.cells #[.int .i64 0,.string ⟨#[]⟩,.int .i64 0] 46)).heap.size=w.heap.size+1+1:=by simp
 have hgr:=h.rows.row.lt;have hgg: ∀i j,i<W.ss.length->j<4->w.heap.size+1≠G i j:=fun i j hi hj=>by have:=(h.ls i j hi hj).row.lt;omega
 obtain⟨r,hr⟩: ∃r,r=did1 W i 6 key val:=⟨_,rfl⟩;rw[<-hr];have hbs:base<=((w.alloc (.cells #[.int .i64 6,.string key,.string val] 41)).alloc (.cells #[.int .i64 0,.string ⟨#[]⟩,.int .i64 0] 46)).heap.size:=by omega
 have hd:r=(W,eT (gU [W.ss[i].set] key)):=by
  rw[hr];unfold did1;simp only[fY hi];rw[if_neg (fun hh=>hst hh.1)];simp only[gU];simp
  cases aX W.ss[i].set key<;>rfl
 have hans:vT (gU [W.ss[i].set] key)=bQ r.2.kind r.2.text:=by
  rw[hd]
  cases gU [W.ss[i].set] key<;>rfl
 have HC := aA (show ∀ (w9 : World) (b9 : Nat), b9 < w9.heap.size → w9.cell? ⟨b9, 0, none⟩ = some (.slice (some ⟨G i 0, 0, none⟩) W.ss[i].set.length (C i 0)) → Lst w9 w9.heap.size (.slice (some ⟨G i 0, 0, none⟩) W.ss[i].set.length (C i 0)) W.ss[i].set → Calls Tryz.prog 68 #[.string key, .slice (some ⟨b9, 0, none⟩) 1 1] w9 (fun e w' => e = .returned (bQ r.2.kind r.2.text) ∧ Below w9.heap.size w9 w') from fun w9 b9 hb9 c0 l0 => by
  rw[<-hans];refine sG key b9 [W.ss[i].set] (fun n=>([.slice (some ⟨G i 0,0,none⟩) W.ss[i].set.length (C i 0)]:List Value).getD n (.int .i64 0)) w9 hb9 (by simp) (fun n hn=>?_);obtain rfl:n=0:=by simp at hn;omega
  exact ⟨c0, l0, (bW (hw.sess i hi).set).1⟩)
 have H0:=aA h0;have HD:=aA hd;have L0:=aA (show Lst ((w.alloc (.cells #[.int .i64 6,.string key,.string val] 41)).alloc (.cells #[.int .i64 0,.string ⟨#[]⟩,.int .i64 0] 46)) ((w.alloc (.cells #[.int .i64 6,.string key,.string val] 41)).alloc (.cells #[.int .i64 0,.string ⟨#[]⟩,.int .i64 0] 46)).heap.size (.slice (some ⟨G i 0,0,none⟩) W.ss[i].set.length (C i 0)) W.ss[i].set from h0.list hz hi (j:=0) (by omega));have H:=aA h;have HZ:=aA hz;have HW:=aA hw;have B0:=aA b0;have HX0:=aA X0;have HZS:=aA hzs;have HG:=aA hgg;have HR:=aA hr;clear h hz hw b0 X0 hzs hgg hr h0 hd hans;have e2:(W.ss[i].st==2)=false:=bJ.2 hst
 ·skip;go_enter Tryz.func45,Tryz.ntmps45;go_wp2_with fail;have hsz0:=HZS.out;have y0:((w.alloc (.cells #[.int .i64 6,.string key,.string val] 41)).alloc (.cells #[.int .i64 0,.string ⟨#[]⟩,.int .i64 0] 46)).cell? ⟨w.heap.size,1,none⟩=some (.string key):=by simp[go_sem]
  have y1:((w.alloc (.cells #[.int .i64 6,.string key,.string val] 41)).alloc (.cells #[.int .i64 0,.string ⟨#[]⟩,.int .i64 0] 46)).cell? ⟨S,i*5+1,none⟩=some (.slice (some ⟨G i 0,0,none⟩) W.ss[i].set.length (C i 0)):=H0.out.cs i 0 hi (by omega);generalize hA:((w.alloc (.cells #[.int .i64 6,.string key,.string val] 41)).alloc (.cells #[.int .i64 0,.string ⟨#[]⟩,.int .i64 0] 46))=w8 at*;have hw8:w.heap.size<w8.heap.size:=by omega
  have hS8:S<w8.heap.size:=by omega
  have hX8:X<w8.heap.size:=by omega
  have dS:=aA (show w8.drew.cell? ⟨w.heap.size,1,none⟩=some (.string key)/\w8.drew.cell? ⟨S,i*5+1,none⟩=some (.slice (some ⟨G i 0,0,none⟩) W.ss[i].set.length (C i 0))from⟨y0,y1⟩);have dA:=aA (show(w8.alloc (.cells #[.slice (some ⟨G i 0,0,none⟩) W.ss[i].set.length (C i 0)] 27)).cell? ⟨w.heap.size,1,none⟩=some (.string key)/\(w8.alloc (.cells #[.slice (some ⟨G i 0,0,none⟩) W.ss[i].set.length (C i 0)] 27)).cell? ⟨S,i*5+1,none⟩=some (.slice (some ⟨G i 0,0,none⟩) W.ss[i].set.length (C i 0))from⟨iU hw8 y0,iU hS8 y1⟩);have dB:=aA (show(w8.drew.alloc (.cells #[.slice (some ⟨G i 0,0,none⟩) W.ss[i].set.length (C i 0)] 27)).cell? ⟨w.heap.size,1,none⟩=some (.string key)/\(w8.drew.alloc (.cells #[.slice (some ⟨G i 0,0,none⟩) W.ss[i].set.length (C i 0)] 27)).cell? ⟨S,i*5+1,none⟩=some (.slice (some ⟨G i 0,0,none⟩) W.ss[i].set.length (C i 0))from⟨iU (w:=w8.drew) hw8 y0,iU (w:=w8.drew) hS8 y1⟩);have dC:=aA (show(w8.alloc (.cells #[.slice (some ⟨G i 0,0,none⟩) W.ss[i].set.length (C i 0)] 27)).drew.cell? ⟨w.heap.size,1,none⟩=some (.string key)/\(w8.alloc (.cells #[.slice (some ⟨G i 0,0,none⟩) W.ss[i].set.length (C i 0)] 27)).drew.cell? ⟨S,i*5+1,none⟩=some (.slice (some ⟨G i 0,0,none⟩) W.ss[i].set.length (C i 0))from⟨iU (w:=w8) hw8 y0,iU (w:=w8) hS8 y1⟩)
  go_region_held3 (fun wx=>wx.cell? ⟨w.heap.size,1,none⟩=some (.string key)/\wx.cell? ⟨S,i*5+1,none⟩=some (.slice (some ⟨G i 0,0,none⟩) W.ss[i].set.length (C i 0)))
   (first
    |with_reducible exact⟨y0,y1⟩
    |with_reducible exact dS.out
    |with_reducible exact dA.out
    |with_reducible exact dB.out
    |with_reducible exact dC.out
    |with_reducible exact⟨eW z0 (by omega),eW z1 (by omega)⟩
    |with_reducible exact⟨z0,z1⟩
    | (trace_state; fail))
   (first
    | (
     go_at_call 68
     refine(HC.out _ _ (by simp;omega) (by rw[<-hsz0];simp[go_sem]) (by first|exact(L0.out.step ((aD _ _).alloc (aI _) _))|exact(L0.out.step (((aD _ _).drew).alloc (aI _) _)))).mono ?_
     rintro e wB ⟨rfl,hy⟩;have kB:Below w8.heap.size w8 wB:=⟨hy.os,hy.tape,hy.output,by have:=hy.size;simp at this;omega,fun b hb=>(hy.block b (by simp;omega)).trans (Below.heap_alloc _ _ _ hb)⟩;have z0:=(kB.cell (p:=⟨w.heap.size,1,none⟩) hw8).trans y0;have z1:=(kB.cell (p:=⟨S,i*5+1,none⟩) hS8).trans y1;have RB:=HX0.out.below kB HX0.out.lt;have r0:=RB.cell (j:=0) (by simp);have r1:=RB.cell (j:=1) (by simp);have r2:=RB.cell (j:=2) (by simp);have s0:=RB.frozen 0;have s1:=RB.frozen 1;have s2:=RB.frozen 2;simp only[aB,aC]at r0 r1 r2
     unfold bQ))
  have HP := aA (show ExPost w8 base X S gR G W.ss.length r (.returned (bQ r.2.kind r.2.text)) wB by
   have e:=HD.out;rw[e]
   exact ExPost.same H0.out lo HZ.out hbs rfl kB)
  have HRB:=aA RB;clear kB hy RB z0 z1;go_wp2;refine bE (v:= .agg #[.int .i64 r.2.kind,.string r.2.text,.int .i64 0]) (by simp[results,Tryz.results45,go_sem,r0,r1,r2]) rfl ?_;exact HP.out.laid B0.out hb (by omega) HRB.out _ _ _
theorem jAa (base X S gR cR:Nat)(G C:Nat->Nat->Nat)(W:Wd)(i:Nat)(key val:ByteArray)(w:World)(h:OwnD w X S gR cR G C W)(lo:LoD base X S gR G W.ss.length)(hw:bX W)(hb:base<=w.heap.size)(hi:i<W.ss.length)(hkz:key.size<=8)(hvz:val.size<=60)(hst:W.ss[i].st≠2):
  Calls Tryz.prog 45 #[.pointer (some ⟨X,0,none⟩),.int .i64 i,.agg #[.int .i64 7,.string key,.string val]] w (ExPost w base X S gR G W.ss.length (did1 W i 7 key val)):=by
 have hz:=dN hw;have hXw:=h.box.lt;have hSw:=h.blk.lt;have x1:=h.box.cell (j:=1) (by simp);simp only[aB,aC]at x1;unfold slc at x1;have c0:=h.st i hi;have hii:(i:Int)<(W.ss.length:Int):=by omega
 have b0:Below w.heap.size w ((w.alloc (.cells #[.int .i64 7,.string key,.string val] 41)).alloc (.cells #[.int .i64 0,.string ⟨#[]⟩,.int .i64 0] 46)):=((aD _ _).alloc (aI _) _).alloc (by simp) _;have h0:=h.kept b0
 have X0:RowTo ((w.alloc (.cells #[.int .i64 7,.string key,.string val] 41)).alloc (.cells #[.int .i64 0,.string ⟨#[]⟩,.int .i64 0] 46)) (w.heap.size+1) 46 3 [.int .i64 0,.string ⟨#[]⟩,.int .i64 0]:=by
  have:=RowTo.whole (w.alloc (.cells #[.int .i64 7,.string key,.string val] 41)) #[.int .i64 0,.string ⟨#[]⟩,.int .i64 0] 46
  simpa using this
 have hzs:((w.alloc (.cells #[.int .i64 7,.string key,.string val] 41)).alloc (.cells #[.int .i64 0,.string ⟨#[]⟩,.int .i64 0] 46)).heap.size=w.heap.size+1+1:=by simp
 have hgr:=h.rows.row.lt;have hgg: ∀i j,i<W.ss.length->j<4->w.heap.size+1≠G i j:=fun i j hi hj=>by have:=(h.ls i j hi hj).row.lt;omega
 obtain⟨r,hr⟩: ∃r,r=did1 W i 7 key val:=⟨_,rfl⟩;rw[<-hr];have hbs:base<=((w.alloc (.cells #[.int .i64 7,.string key,.string val] 41)).alloc (.cells #[.int .i64 0,.string ⟨#[]⟩,.int .i64 0] 46)).heap.size:=by omega
 have hd:r=(W,eT (gU [W.ss[i].wr,W.rows] key)):=by
  rw[hr];unfold did1;simp only[fY hi];rw[if_neg (fun hh=>hst hh.1)];simp only[gU];simp
  cases aX W.ss[i].wr key<;>cases aX W.rows key<;>rfl
 have hans:vT (gU [W.ss[i].wr,W.rows] key)=bQ r.2.kind r.2.text:=by
  rw[hd]
  cases gU [W.ss[i].wr,W.rows] key<;>rfl
 have HC := aA (show ∀ (w9 : World) (b9 : Nat), b9 < w9.heap.size → w9.cell? ⟨b9, 0, none⟩ = some (.slice (some ⟨G i 3, 0, none⟩) W.ss[i].wr.length (C i 3)) → w9.cell? ⟨b9, 1, none⟩ = some (.slice (some ⟨gR, 0, none⟩) W.rows.length cR) → Lst w9 w9.heap.size (.slice (some ⟨G i 3, 0, none⟩) W.ss[i].wr.length (C i 3)) W.ss[i].wr → Lst w9 w9.heap.size (.slice (some ⟨gR, 0, none⟩) W.rows.length cR) W.rows → Calls Tryz.prog 68 #[.string key, .slice (some ⟨b9, 0, none⟩) 2 2] w9 (fun e w' => e = .returned (bQ r.2.kind r.2.text) ∧ Below w9.heap.size w9 w') from fun w9 b9 hb9 c0 c1 l0 l1 => by
  rw[<-hans];refine sG key b9 [W.ss[i].wr,W.rows] (fun n=>([.slice (some ⟨G i 3,0,none⟩) W.ss[i].wr.length (C i 3),.slice (some ⟨gR,0,none⟩) W.rows.length cR]:List Value).getD n (.int .i64 0)) w9 hb9 (by simp) (fun n hn=>?_);have hn2:n<2:=hn;rcases Nat.lt_or_ge n 1 with h1|h1
  ·obtain rfl:n=0:=by omega
   exact⟨c0,l0,(bW (hw.sess i hi).wr).1⟩
  ·obtain rfl:n=1:=by omega
   exact ⟨c1, l1, (bW hw.rows).1⟩)
 have H0:=aA h0;have HD:=aA hd;have L0:=aA (show Lst ((w.alloc (.cells #[.int .i64 7,.string key,.string val] 41)).alloc (.cells #[.int .i64 0,.string ⟨#[]⟩,.int .i64 0] 46)) ((w.alloc (.cells #[.int .i64 7,.string key,.string val] 41)).alloc (.cells #[.int .i64 0,.string ⟨#[]⟩,.int .i64 0] 46)).heap.size (.slice (some ⟨G i 3,0,none⟩) W.ss[i].wr.length (C i 3)) W.ss[i].wr from h0.list hz hi (j:=3) (by omega));have L1:=aA (show Lst ((w.alloc (.cells #[.int .i64 7,.string key,.string val] 41)).alloc (.cells #[.int .i64 0,.string ⟨#[]⟩,.int .i64 0] 46)) ((w.alloc (.cells #[.int .i64 7,.string key,.string val] 41)).alloc (.cells #[.int .i64 0,.string ⟨#[]⟩,.int .i64 0] 46)).heap.size (.slice (some ⟨gR,0,none⟩) W.rows.length cR) W.rows from(h0.wld hz).rows);have H:=aA h;have HZ:=aA hz;have HW:=aA hw;have B0:=aA b0;have HX0:=aA X0;have HZS:=aA hzs;have HG:=aA hgg;have HR:=aA hr;clear h hz hw b0 X0 hzs hgg hr h0 hd hans;have e2:(W.ss[i].st==2)=false:=bJ.2 hst
 ·skip;go_enter Tryz.func45,Tryz.ntmps45;go_wp2_with fail;have hsz0:=HZS.out;have y0:((w.alloc (.cells #[.int .i64 7,.string key,.string val] 41)).alloc (.cells #[.int .i64 0,.string ⟨#[]⟩,.int .i64 0] 46)).cell? ⟨w.heap.size,1,none⟩=some (.string key):=by simp[go_sem]
  have y1:((w.alloc (.cells #[.int .i64 7,.string key,.string val] 41)).alloc (.cells #[.int .i64 0,.string ⟨#[]⟩,.int .i64 0] 46)).cell? ⟨S,i*5+4,none⟩=some (.slice (some ⟨G i 3,0,none⟩) W.ss[i].wr.length (C i 3)):=H0.out.cs i 3 hi (by omega);have y2:((w.alloc (.cells #[.int .i64 7,.string key,.string val] 41)).alloc (.cells #[.int .i64 0,.string ⟨#[]⟩,.int .i64 0] 46)).cell? ⟨X,0,none⟩=some (.slice (some ⟨gR,0,none⟩) W.rows.length cR):=H0.out.box.cell (j:=0) (by simp);generalize hA:((w.alloc (.cells #[.int .i64 7,.string key,.string val] 41)).alloc (.cells #[.int .i64 0,.string ⟨#[]⟩,.int .i64 0] 46))=w8 at*;have hw8:w.heap.size<w8.heap.size:=by omega
  have hS8:S<w8.heap.size:=by omega
  have hX8:X<w8.heap.size:=by omega
  have dS:=aA (show w8.drew.cell? ⟨w.heap.size,1,none⟩=some (.string key)/\w8.drew.cell? ⟨S,i*5+4,none⟩=some (.slice (some ⟨G i 3,0,none⟩) W.ss[i].wr.length (C i 3))/\w8.drew.cell? ⟨X,0,none⟩=some (.slice (some ⟨gR,0,none⟩) W.rows.length cR)from⟨y0,y1,y2⟩);have dA:=aA (show(w8.alloc (.cells #[.slice (some ⟨G i 3,0,none⟩) W.ss[i].wr.length (C i 3),.slice (some ⟨gR,0,none⟩) W.rows.length cR] 27)).cell? ⟨w.heap.size,1,none⟩=some (.string key)/\(w8.alloc (.cells #[.slice (some ⟨G i 3,0,none⟩) W.ss[i].wr.length (C i 3),.slice (some ⟨gR,0,none⟩) W.rows.length cR] 27)).cell? ⟨S,i*5+4,none⟩=some (.slice (some ⟨G i 3,0,none⟩) W.ss[i].wr.length (C i 3))/\(w8.alloc (.cells #[.slice (some ⟨G i 3,0,none⟩) W.ss[i].wr.length (C i 3),.slice (some ⟨gR,0,none⟩) W.rows.length cR] 27)).cell? ⟨X,0,none⟩=some (.slice (some ⟨gR,0,none⟩) W.rows.length cR)from⟨iU hw8 y0,iU hS8 y1,iU hX8 y2⟩);have dB:=aA (show(w8.drew.alloc (.cells #[.slice (some ⟨G i 3,0,none⟩) W.ss[i].wr.length (C i 3),.slice (some ⟨gR,0,none⟩) W.rows.length cR] 27)).cell? ⟨w.heap.size,1,none⟩=some (.string key)/\(w8.drew.alloc (.cells #[.slice (some ⟨G i 3,0,none⟩) W.ss[i].wr.length (C i 3),.slice (some ⟨gR,0,none⟩) W.rows.length cR] 27)).cell? ⟨S,i*5+4,none⟩=some (.slice (some ⟨G i 3,0,none⟩) W.ss[i].wr.length (C i 3))/\(w8.drew.alloc (.cells #[.slice (some ⟨G i 3,0,none⟩) W.ss[i].wr.length (C i 3),.slice (some ⟨gR,0,none⟩) W.rows.length cR] 27)).cell? ⟨X,0,none⟩=some (.slice (some ⟨gR,0,none⟩) W.rows.length cR)from⟨iU (w:=w8.drew) hw8 y0,iU (w:=w8.drew) hS8 y1,iU (w:=w8.drew) hX8 y2⟩);have dC:=aA (show(w8.alloc (.cells #[.slice (some ⟨G i 3,0,none⟩) W.ss[i].wr.length (C i 3),.slice (some ⟨gR,0,none⟩) W.rows.length cR] 27)).drew.cell? ⟨w.heap.size,1,none⟩=some (.string key)/\(w8.alloc (.cells #[.slice (some ⟨G i 3,0,none⟩) W.ss[i].wr.length (C i 3),.slice (some ⟨gR,0,none⟩) W.rows.length cR] 27)).drew.cell? ⟨S,i*5+4,none⟩=some (.slice (some ⟨G i 3,0,none⟩) W.ss[i].wr.length (C i 3))/\(w8.alloc (.cells #[.slice (some ⟨G i 3,0,none⟩) W.ss[i].wr.length (C i 3),.slice (some ⟨gR,0,none⟩) W.rows.length cR] 27)).drew.cell? ⟨X,0,none⟩=some (.slice (some ⟨gR,0,none⟩) W.rows.length cR)from⟨iU (w:=w8) hw8 y0,iU (w:=w8) hS8 y1,iU (w:=w8) hX8 y2⟩)
  go_region_held3 (fun wx=>wx.cell? ⟨w.heap.size,1,none⟩=some (.string key)/\wx.cell? ⟨S,i*5+4,none⟩=some (.slice (some ⟨G i 3,0,none⟩) W.ss[i].wr.length (C i 3))/\wx.cell? ⟨X,0,none⟩=some (.slice (some ⟨gR,0,none⟩) W.rows.length cR))
   (first
    |with_reducible exact⟨y0,y1,y2⟩
    |with_reducible exact dS.out
    |with_reducible exact dA.out
    |with_reducible exact dB.out
    |with_reducible exact dC.out
    |with_reducible exact⟨eW z0 (by omega),eW z1 (by omega),eW z2 (by omega)⟩
    |with_reducible exact⟨z0,z1,z2⟩
    | (trace_state; fail))
   (first
    | (
     go_at_call 68
     refine(HC.out _ _ (by simp;omega) (by rw[<-hsz0];simp[go_sem]) (by rw[<-hsz0];simp[go_sem]) (by first|exact(L0.out.step ((aD _ _).alloc (aI _) _))|exact(L0.out.step (((aD _ _).drew).alloc (aI _) _))) (by first|exact(L1.out.step ((aD _ _).alloc (aI _) _))|exact(L1.out.step (((aD _ _).drew).alloc (aI _) _)))).mono ?_
     rintro e wB ⟨rfl,hy⟩;have kB:Below w8.heap.size w8 wB:=⟨hy.os,hy.tape,hy.output,by have:=hy.size;simp at this;omega,fun b hb=>(hy.block b (by simp;omega)).trans (Below.heap_alloc _ _ _ hb)⟩;have z0:=(kB.cell (p:=⟨w.heap.size,1,none⟩) hw8).trans y0;have z1:=(kB.cell (p:=⟨S,i*5+4,none⟩) hS8).trans y1;have z2:=(kB.cell (p:=⟨X,0,none⟩) hX8).trans y2;have RB:=HX0.out.below kB HX0.out.lt;have r0:=RB.cell (j:=0) (by simp);have r1:=RB.cell (j:=1) (by simp);have r2:=RB.cell (j:=2) (by simp);have s0:=RB.frozen 0;have s1:=RB.frozen 1;have s2:=RB.frozen 2;simp only[aB,aC]at r0 r1 r2
     unfold bQ))
  have HP := aA (show ExPost w8 base X S gR G W.ss.length r (.returned (bQ r.2.kind r.2.text)) wB by
   have e:=HD.out;rw[e]
   exact ExPost.same H0.out lo HZ.out hbs rfl kB)
  have HRB:=aA RB;clear kB hy RB z0 z1 z2;go_wp2;refine bE (v:= .agg #[.int .i64 r.2.kind,.string r.2.text,.int .i64 0]) (by simp[results,Tryz.results45,go_sem,r0,r1,r2]) rfl ?_;exact HP.out.laid B0.out hb (by omega) HRB.out _ _ _
theorem kAm (base X S gR cR:Nat)(G C:Nat->Nat->Nat)(W:Wd)(i:Nat)(k:Int)(key val:ByteArray)(w:World)(h:OwnD w X S gR cR G C W)(lo:LoD base X S gR G W.ss.length)(hw:bX W)(hb:base<=w.heap.size)(hi:i<W.ss.length)(hkz:key.size<=8)(hvz:val.size<=60)(h1:1<=k)(h2:k<=11)(h8:k≠8):
  Calls Tryz.prog 45 #[.pointer (some ⟨X,0,none⟩),.int .i64 i,.agg #[.int .i64 k,.string key,.string val]] w (ExPost w base X S gR G W.ss.length (did1 W i k key val)):=by
 by_cases hk:k=2\/k=3
 ·rcases hk with rfl|rfl
  ·exact jA2 base X S gR cR G C W i key val w h lo hw hb hi hkz hvz
  ·exact jA3 base X S gR cR G C W i key val w h lo hw hb hi hkz hvz
 by_cases hst:W.ss[i].st=2
 ·exact kAl base X S gR cR G C W i k key val w h lo hw hb hi hkz hvz hst hk
 obtain rfl|rfl|rfl|rfl|rfl|rfl|rfl|rfl:k=1\/k=4\/k=5\/k=6\/k=7\/k=9\/k=10\/k=11:=by omega
 ·exact jA1 base X S gR cR G C W i key val w h lo hw hb hi hkz hvz hst
 ·exact jA4 base X S gR cR G C W i key val w h lo hw hb hi hkz hvz hst
 ·exact jA5 base X S gR cR G C W i key val w h lo hw hb hi hkz hvz hst
 ·exact jA9 base X S gR cR G C W i key val w h lo hw hb hi hkz hvz hst
 ·exact jAa base X S gR cR G C W i key val w h lo hw hb hi hkz hvz hst
 ·exact jA7 base X S gR cR G C W i key val w h lo hw hb hi hkz hvz hst
 ·exact jA6 base X S gR cR G C W i key val w h lo hw hb hi hkz hvz hst
 ·exact jA8 base X S gR cR G C W i key val w h lo hw hb hi hkz hvz hst
theorem kAn (lo hi lim:Int)(w:World):
  Calls Tryz.prog 129 #[.int .u8 lo,.int .u8 hi,.int .i64 lim] w fun e w'=>e= .returned (.func (.func 140) #[] #[.pointer (some ⟨w.heap.size+1+1,0,none⟩),.pointer (some ⟨w.heap.size,0,none⟩),.pointer (some ⟨w.heap.size+1,0,none⟩)])/\
   ((w.alloc (.cells #[.int .u8 lo] 5)).alloc (.cells #[.int .u8 hi] 5)).alloc (.cells #[.int .i64 lim] 3)=w':=by
 go_enter Tryz.func129,Tryz.ntmps129;go_wp2;go_ret;exact⟨rfl,rfl⟩
theorem kAo (s:ByteArray)(lo hi lim:Nat)(p1 p2 p3:Addr)(w:World)(hs:s.size<=maxLen)(h1:w.cell? p1=some (.int .i64 lim))(h2:w.cell? p2=some (.int .u8 lo))(h3:w.cell? p3=some (.int .u8 hi)):
  Calls Tryz.prog 140 #[.string s,.pointer (some p1),.pointer (some p2),.pointer (some p3)] w fun e w'=>e= .returned (.bool (eC lo hi lim s))/\ ∃n,w'=w.drewN n:=by
 unfold maxLen at hs
 by_cases h0:s.size=0
 ·have hb:=aA (uX (lo:=lo) (hi:=hi) (lim:=lim) (.inl h0));go_enter Tryz.func140,Tryz.ntmps140;go_wp2;go_ret;exact⟨by rw[hb.out];rfl,0,rfl⟩
 have hz:((s.size:Int)==0)=false:=bJ.2 (by omega)
 by_cases hl:lim<s.size
 ·have hb:=aA (uX (lo:=lo) (hi:=hi) (lim:=lim) (.inr hl));go_enter Tryz.func140,Tryz.ntmps140;go_wp2;go_ret;exact⟨by rw[hb.out];rfl,0,rfl⟩
 have hl':decide (lim<s.size)=false:=aY hl;go_enter Tryz.func140,Tryz.ntmps140;go_wp2
 go_loopw [18] (fun c w'=> ∃k:Nat,k<=s.size/\c= .int .i64 k/\Hid (∀j (hj:j<s.size),j<k->lo<=s[j].toNat/\s[j].toNat<=hi)/\ ∃n,w'=w.drewN n) (fun c _=>s.size-(intOf c).toNat)
 case atStart=>exact⟨0,Nat.zero_le _,rfl,fun _ _ h=>absurd h (Nat.not_lt_zero _),0,rfl⟩
 case round=>
  obtain⟨k,hk,rfl,hall,n,rfl⟩:=hrel
  by_cases hlt:k<s.size
  ·by_cases g1:s[k].toNat<lo
   ·have hb:=aA (rM (lo:=lo) (hi:=hi) (lim:=lim) hlt (.inl g1));go_wp2
    go_quiet (fail)
    go_wp2;go_ret;exact⟨by rw[hb.out];rfl,n+nq,by rw[World.drewN_drewN]⟩
   ·by_cases g2:hi<s[k].toNat
    ·have hb:=aA (rM (lo:=lo) (hi:=hi) (lim:=lim) hlt (.inr g2));have g1':decide (s[k].toNat<lo)=false:=aY g1;go_wp2
     go_quiet (fail)
     go_wp2;go_ret;exact⟨by rw[hb.out];rfl,n+nq,by rw[World.drewN_drewN]⟩
    ·have g1':decide (s[k].toNat<lo)=false:=aY g1;have g2':decide (hi<s[k].toNat)=false:=aY g2;go_wp2
     go_quiet (fail)
     go_wp2;go_roundw
     case rel=>
      refine⟨k+1,by omega,by go_num,fun j hj hjk=>?_,n+nq,rfl⟩
      by_cases e:j=k
      ·subst e;omega
      ·exact hall.out j hj (by omega)
     case measure=>simp[intOf];omega
  ·have hb:=aA (yP (lo:=lo) (hi:=hi) (lim:=lim) (s:=s) (by omega) (by omega) (fun j hj=>hall.out j hj (by omega)));go_wp2;go_ret;exact⟨by rw[hb.out];rfl,n,rfl⟩
theorem wI (s:ByteArray)(w:World)(hs:s.size<=maxLen):
  Calls Tryz.prog 106 #[.string s] w fun e w'=>e= .returned (.bool (eC 97 122 8 s))/\Below w.heap.size w w':=by
 go_enter Tryz.func106,Tryz.ntmps106;go_wp2_with fail;refine(kAn 97 122 8 _).mono ?_;rintro e w' ⟨rfl,rfl⟩;go_wp2_with fail;refine(kAo s 97 122 8 _ _ _ _ hs (by go_simp) (by go_simp) (by go_simp)).mono ?_;rintro e w' ⟨rfl,n,rfl⟩;go_wp2;go_ret;exact⟨rfl,aZ ((((aD _ _).alloc (aI _) _).alloc (by simp) _).alloc (by simp;omega) _) n⟩
theorem jAb (s:ByteArray)(w:World)(hs:s.size<=maxLen):
  Calls Tryz.prog 130 #[.string s] w fun e w'=>e= .returned (.bool (eC 33 126 20 s))/\Below w.heap.size w w':=by
 go_enter Tryz.func130,Tryz.ntmps130;go_wp2_with fail;refine(kAn 33 126 20 _).mono ?_;rintro e w' ⟨rfl,rfl⟩;go_wp2_with fail;refine(kAo s 33 126 20 _ _ _ _ hs (by go_simp) (by go_simp) (by go_simp)).mono ?_;rintro e w' ⟨rfl,n,rfl⟩;go_wp2;go_ret;exact⟨rfl,aZ ((((aD _ _).alloc (aI _) _).alloc (by simp) _).alloc (by simp;omega) _) n⟩
structure Words (w:World):Prop where
 room:1<w.heap.size
 cell: ∀k,k<=11->w.cell? ⟨1,k,none⟩=some (.string (gS k))
theorem Words.below {w w':World}(h:Words w)(hb:Below w.heap.size w w'):Words w':=
 ⟨bD h.room hb.size,fun k hk=>(hb.cell (p:=⟨1,k,none⟩) h.room).trans (h.cell k hk)⟩
theorem Words.alloc {w:World}(h:Words w)(o:Obj):Words (w.alloc o):=h.below ((aD _ _).alloc (aI _) _)
theorem Words.drewN {w:World}(h:Words w)(n:Nat):Words (w.drewN n):=h.below (aZ (aD _ _) n)
theorem bU {a b c:World}(h:Below a.heap.size a b)(k:Below b.heap.size b c):Below a.heap.size a c:=h.trans (k.mono h.size)
theorem jAc (s:ByteArray)(w:World):
  Calls Tryz.prog 151 #[.string s,.int .u8 32] w fun e w'=>e= .returned (.int .i64 (Lib.indexByte s.data.toList 32))/\w=w':=by
 go_enter Tryz.func151,Tryz.ntmps151;go_wp2;rw[run_callFunc_extern Tryz.func155 (by kernel_rfl) (by kernel_rfl) (by kernel_rfl) (e:=Extern.BytealgIndexByte.indexByte) (by kernel_rfl),Lib.run_indexByteString];simp only[Result.andThen];rw[Oper.upon_value];go_wp2;go_ret;exact⟨rfl,rfl⟩
theorem kAp (s:ByteArray)(w:World)(hs:s.size<=maxLen):
  Calls Tryz.prog 148 #[.string s,.string ⟨#[32]⟩] w fun e w'=>e= .returned (.int .i64 (Lib.indexByte s.data.toList 32))/\w=w':=by
 unfold maxLen at hs;go_enter Tryz.func148,Tryz.ntmps148;go_wp2_with (go_at_call 151;refine(jAc s _).mono ?_;rintro e w' ⟨rfl,rfl⟩)
 ·have h:([32]==s.toList)=true:=by assumption
  have e:s.data.toList=[32]:=by rw[<-Lib.toList_data];exact(beq_iff_eq.1 h).symm
  go_ret;exact⟨by rw[e];rfl,rfl⟩
 ·go_ret;exact⟨rfl,rfl⟩
theorem jAd (s:ByteArray)(w:World)(hs:s.size<=maxLen):
  Calls Tryz.prog 142 #[.string s,.string ⟨#[32]⟩] w fun e w'=>e= .returned (.tuple #[.string (aK s),.string (cutB s),.bool (dK s)])/\ ∃n,w'=w.drewN n:=by
 have hix:=yAv s;have hle:=kT s
 by_cases hf:fD s<s.size
 ·have hF:dK s=true:=cF hf;rw[hF,if_pos rfl]at hix;rw[hF];have hI:=aA hix;clear hix hF;have hA:=aA (show aK s=s.extract 0 (fD s)from rfl);have hB:=aA (show cutB s=s.extract (fD s+1) s.size from rfl);generalize aK s=A at hA ⊢;generalize cutB s=B at hB ⊢;generalize fD s=i at*;unfold maxLen at hs;have c1:(0:Int)<=(i:Int):=by omega
  have c2:(i:Int)<=(s.size:Int):=by omega
  have c3:(0:Int)<=(i:Int)+1:=by omega
  have c4:(i:Int)+1<=(s.size:Int):=by omega
  have c5:IntKind.i64.wrap ((i:Int)+1)=(i:Int)+1:=IntWalk.i64_in _ (by omega);have c6:((i:Int)+1).toNat=i+1:=by omega
  go_enter Tryz.func142,Tryz.ntmps142;go_wp2_with (go_at_call 148;refine(kAp s _ (by unfold maxLen;omega)).mono ?_;rw[hI.out];rintro e w' ⟨rfl,rfl⟩)
  go_quiet (fail)
  go_wp2
  go_ret3
  exact⟨by rw[hA.out,hB.out];rfl,nq,rfl⟩
 ·have hF:dK s=false:=aY hf;have he:fD s=s.size:=by omega
  rw[hF,if_neg (by decide)]at hix;rw[hF,uZ he,rP he];have hI:=aA hix;clear hix hF he hf;go_enter Tryz.func142,Tryz.ntmps142;go_wp2_with (go_at_call 148;refine(kAp s _ hs).mono ?_;rw[hI.out];rintro e w' ⟨rfl,rfl⟩)
  go_ret3
  exact⟨rfl,0,rfl⟩
theorem kL (s:ByteArray)(w:World)(hs:s.size<=maxLen):
  Calls Tryz.prog 135 #[.string s,.string ⟨#[32]⟩] w fun e w'=>e= .returned (.tuple #[.string (aK s),.string (cutB s),.bool (dK s)])/\ ∃n,w'=w.drewN n:=by
 go_enter Tryz.func135,Tryz.ntmps135;go_wp2_with fail;refine(jAd s _ hs).mono ?_;rintro e w' ⟨rfl,n,rfl⟩;go_wp2
 go_ret3
 exact⟨rfl,n,rfl⟩
theorem oU (s:ByteArray)(w:World)(hW:Words w):
  Calls Tryz.prog 136 #[.string s] w fun e w'=>e= .returned (.int .i64 (aU s))/\w=w':=by
 have HW:=aA hW;clear hW;go_enter Tryz.func136,Tryz.ntmps136;go_wp2
 go_loop [3] (fun c=> ∃k:Nat,1<=k/\k<=12/\c= .int .i64 k/\Hid (∀j,1<=j->j<k->gD j≠s.data.toList)) (fun c=>12-(intOf c).toNat)
 case atStart=>exact⟨1,by omega,by omega,rfl,fun j h1 h=>by omega⟩
 case round=>
  obtain⟨k,hk1,hk,rfl,hall⟩:=hrel
  by_cases hlt:k<=11
  ·have hc:=HW.out.cell k hlt;have hwl:=aA (vA k);go_wp2
   ·have h:((gS k).toList==s.toList)=true:=(by assumption);rw[Lib.toList_data,Lib.toList_data,hwl.out,beq_iff_eq]at h;have hk:=yR hk1 hlt h;go_ret;exact⟨yQ (by rw[hk]),rfl⟩
   ·have h:((gS k).toList==s.toList)=false:=(by assumption);rw[Lib.toList_data,Lib.toList_data,hwl.out,beq_eq_false_iff_ne]at h
    go_round
    case rel=>
     refine⟨k+1,by omega,by omega,by go_num,fun j h1 hjk=>?_⟩
     by_cases e:j=k
     ·subst e;exact h
     ·exact hall.out j h1 (by omega)
    case measure=>simp[intOf];omega
  ·have hk:=aA (yAx (fun j h1 h2=>hall.out j h1 (by omega)));go_wp2;go_ret;exact⟨yQ (by rw[hk.out];rfl),rfl⟩
theorem jAe (s:ByteArray)(w:World)(hs:s.size<=maxLen)(hW:Words w)(h:aU (aK s)=0):
  Calls Tryz.prog 117 #[.string s] w fun e w'=>e= .returned (.tuple #[.agg #[.int .i64 0,.string ⟨#[]⟩,.string ⟨#[]⟩],.int .i64 3])/\Below w.heap.size w w':=by
 have HW:=aA hW;have H:=aA h;clear hW h;go_enter Tryz.func117,Tryz.ntmps117;go_wp2_with fail;refine(kL s _ hs).mono ?_;rintro e w1 ⟨rfl,n,rfl⟩;go_wp2_with fail;refine(oU (aK s) _ ((HW.out.alloc _).drewN n)).mono ?_;rw[H.out];rintro e w2 ⟨rfl,rfl⟩;go_wp2;refine bE (v:= .tuple #[.agg #[.int .i64 0,.string ⟨#[]⟩,.string ⟨#[]⟩],.int .i64 3]) (by simp[results,Tryz.results117,go_sem]) rfl ⟨rfl,?_⟩
 repeat' (first|exact aD _ _|assumption|with_reducible refine aZ ?_ _|with_reducible refine Below.drew ?_|with_reducible refine dT ?_ ?_ _|with_reducible refine dU ?_ ?_ _|(simp;done)|(simp;omega))
theorem jAf (s:ByteArray)(w:World)(hs:s.size<=maxLen)(hW:Words w)(h:aU (aK s)≠0)(h1:dK s=true)(h2:(aK (cutB s)).toList.isEmpty=true):
  Calls Tryz.prog 117 #[.string s] w fun e w'=>e= .returned (.tuple #[.agg #[.int .i64 0,.string ⟨#[]⟩,.string ⟨#[]⟩],.int .i64 4])/\Below w.heap.size w w':=by
 have HW:=aA hW;have hk0:((aU (aK s):Int)==0)=false:=bJ.2 (by omega);have hs2:(cutB s).size<=maxLen:=by rw[iO];omega
 clear hW h;go_enter Tryz.func117,Tryz.ntmps117;go_wp2_with fail;refine(kL s _ hs).mono ?_;rintro e w1 ⟨rfl,n,rfl⟩;go_wp2_with fail;refine(oU (aK s) _ ((HW.out.alloc _).drewN n)).mono ?_;rintro e w2 ⟨rfl,rfl⟩;go_wp2_with fail;refine(kL (cutB s) _ hs2).mono ?_;rintro e w3 ⟨rfl,m,rfl⟩;go_wp2;refine bE (v:= .tuple #[.agg #[.int .i64 0,.string ⟨#[]⟩,.string ⟨#[]⟩],.int .i64 4]) (by simp[results,Tryz.results117,go_sem]) rfl ⟨rfl,?_⟩
 repeat' (first|exact aD _ _|assumption|with_reducible refine aZ ?_ _|with_reducible refine Below.drew ?_|with_reducible refine dT ?_ ?_ _|with_reducible refine dU ?_ ?_ _|(simp;done)|(simp;omega))
theorem jAg (s:ByteArray)(w:World)(hs:s.size<=maxLen)(hW:Words w)(h:aU (aK s)≠0)(h1:dK s=false)(h3:dK (cutB s)=false):
  Calls Tryz.prog 117 #[.string s] w fun e w'=>e= .returned (.tuple #[.agg #[.int .i64 (aU (aK s)),.string (aK (cutB s)),.string (cutB (cutB s))],.int .i64 0])/\Below w.heap.size w w':=by
 have HW:=aA hW;have hk0:((aU (aK s):Int)==0)=false:=bJ.2 (by omega);have hs2:(cutB s).size<=maxLen:=by rw[iO];omega
 clear hW h;go_enter Tryz.func117,Tryz.ntmps117;go_wp2_with fail;refine(kL s _ hs).mono ?_;rintro e w1 ⟨rfl,n,rfl⟩;go_wp2_with fail;refine(oU (aK s) _ ((HW.out.alloc _).drewN n)).mono ?_;rintro e w2 ⟨rfl,rfl⟩;go_wp2_with fail;refine(kL (cutB s) _ hs2).mono ?_;rintro e w3 ⟨rfl,m,rfl⟩;go_wp2;refine bE (v:= .tuple #[.agg #[.int .i64 (aU (aK s)),.string (aK (cutB s)),.string (cutB (cutB s))],.int .i64 0]) (by simp[results,Tryz.results117,go_sem]) rfl ⟨rfl,?_⟩
 repeat' (first|exact aD _ _|assumption|with_reducible refine aZ ?_ _|with_reducible refine Below.drew ?_|with_reducible refine dT ?_ ?_ _|with_reducible refine dU ?_ ?_ _|(simp;done)|(simp;omega))
theorem jAh (s:ByteArray)(w:World)(hs:s.size<=maxLen)(hW:Words w)(h:aU (aK s)≠0)(h1:dK s=true)(h2:(aK (cutB s)).toList.isEmpty=false)(h3:dK (cutB s)=false):
  Calls Tryz.prog 117 #[.string s] w fun e w'=>e= .returned (.tuple #[.agg #[.int .i64 (aU (aK s)),.string (aK (cutB s)),.string (cutB (cutB s))],.int .i64 0])/\Below w.heap.size w w':=by
 have HW:=aA hW;have hk0:((aU (aK s):Int)==0)=false:=bJ.2 (by omega);have hs2:(cutB s).size<=maxLen:=by rw[iO];omega
 clear hW h;go_enter Tryz.func117,Tryz.ntmps117;go_wp2_with fail;refine(kL s _ hs).mono ?_;rintro e w1 ⟨rfl,n,rfl⟩;go_wp2_with fail;refine(oU (aK s) _ ((HW.out.alloc _).drewN n)).mono ?_;rintro e w2 ⟨rfl,rfl⟩;go_wp2_with fail;refine(kL (cutB s) _ hs2).mono ?_;rintro e w3 ⟨rfl,m,rfl⟩;go_wp2;refine bE (v:= .tuple #[.agg #[.int .i64 (aU (aK s)),.string (aK (cutB s)),.string (cutB (cutB s))],.int .i64 0]) (by simp[results,Tryz.results117,go_sem]) rfl ⟨rfl,?_⟩
 repeat' (first|exact aD _ _|assumption|with_reducible refine aZ ?_ _|with_reducible refine Below.drew ?_|with_reducible refine dT ?_ ?_ _|with_reducible refine dU ?_ ?_ _|(simp;done)|(simp;omega))
theorem jAi (s:ByteArray)(w:World)(hs:s.size<=maxLen)(hW:Words w)(h:aU (aK s)≠0)(h1:dK s=true)(h2:(aK (cutB s)).toList.isEmpty=false)(h3:dK (cutB s)=true)(h4:(cutB (cutB s)).toList.isEmpty=true):
  Calls Tryz.prog 117 #[.string s] w fun e w'=>e= .returned (.tuple #[.agg #[.int .i64 0,.string ⟨#[]⟩,.string ⟨#[]⟩],.int .i64 4])/\Below w.heap.size w w':=by
 have HW:=aA hW;have hk0:((aU (aK s):Int)==0)=false:=bJ.2 (by omega);have hs2:(cutB s).size<=maxLen:=by rw[iO];omega
 clear hW h;go_enter Tryz.func117,Tryz.ntmps117;go_wp2_with fail;refine(kL s _ hs).mono ?_;rintro e w1 ⟨rfl,n,rfl⟩;go_wp2_with fail;refine(oU (aK s) _ ((HW.out.alloc _).drewN n)).mono ?_;rintro e w2 ⟨rfl,rfl⟩;go_wp2_with fail;refine(kL (cutB s) _ hs2).mono ?_;rintro e w3 ⟨rfl,m,rfl⟩;go_wp2;refine bE (v:= .tuple #[.agg #[.int .i64 0,.string ⟨#[]⟩,.string ⟨#[]⟩],.int .i64 4]) (by simp[results,Tryz.results117,go_sem]) rfl ⟨rfl,?_⟩
 repeat' (first|exact aD _ _|assumption|with_reducible refine aZ ?_ _|with_reducible refine Below.drew ?_|with_reducible refine dT ?_ ?_ _|with_reducible refine dU ?_ ?_ _|(simp;done)|(simp;omega))
theorem jAj (s:ByteArray)(w:World)(hs:s.size<=maxLen)(hW:Words w)(h:aU (aK s)≠0)(h1:dK s=true)(h2:(aK (cutB s)).toList.isEmpty=false)(h3:dK (cutB s)=true)(h4:(cutB (cutB s)).toList.isEmpty=false):
  Calls Tryz.prog 117 #[.string s] w fun e w'=>e= .returned (.tuple #[.agg #[.int .i64 (aU (aK s)),.string (aK (cutB s)),.string (cutB (cutB s))],.int .i64 0])/\Below w.heap.size w w':=by
 have HW:=aA hW;have hk0:((aU (aK s):Int)==0)=false:=bJ.2 (by omega);have hs2:(cutB s).size<=maxLen:=by rw[iO];omega
 clear hW h;go_enter Tryz.func117,Tryz.ntmps117;go_wp2_with fail;refine(kL s _ hs).mono ?_;rintro e w1 ⟨rfl,n,rfl⟩;go_wp2_with fail;refine(oU (aK s) _ ((HW.out.alloc _).drewN n)).mono ?_;rintro e w2 ⟨rfl,rfl⟩;go_wp2_with fail;refine(kL (cutB s) _ hs2).mono ?_;rintro e w3 ⟨rfl,m,rfl⟩;go_wp2;refine bE (v:= .tuple #[.agg #[.int .i64 (aU (aK s)),.string (aK (cutB s)),.string (cutB (cutB s))],.int .i64 0]) (by simp[results,Tryz.results117,go_sem]) rfl ⟨rfl,?_⟩
 repeat' (first|exact aD _ _|assumption|with_reducible refine aZ ?_ _|with_reducible refine Below.drew ?_|with_reducible refine dT ?_ ?_ _|with_reducible refine dU ?_ ?_ _|(simp;done)|(simp;omega))
theorem sU (s:ByteArray)(w:World)(hs:s.size<=maxLen)(hW:Words w)(h:dV s=0):
  Calls Tryz.prog 117 #[.string s] w fun e w'=>e= .returned (.tuple #[.agg #[.int .i64 (aU (aK s)),.string (aK (cutB s)),.string (cutB (cutB s))],.int .i64 0])/\Below w.heap.size w w':=by
 obtain⟨h0,hb⟩:=rR h;unfold gL at hb
 cases h1:dK s
 ·exact jAg s w hs hW h0 h1 (vD h1)
 ·rw[h1]at hb
  cases h2:(aK (cutB s)).toList.isEmpty
  ·rw[h2]at hb
   cases h3:dK (cutB s)
   ·exact jAh s w hs hW h0 h1 h2 h3
   ·rw[h3]at hb
    cases h4:(cutB (cutB s)).toList.isEmpty
    ·exact jAj s w hs hW h0 h1 h2 h3 h4
    ·rw[h4]at hb;simp at hb
  ·rw[h2]at hb;simp at hb
theorem kAq (s:ByteArray)(w:World)(hs:s.size<=maxLen)(hW:Words w)(h:dV s≠0):
  Calls Tryz.prog 117 #[.string s] w fun e w'=>e= .returned (.tuple #[.agg #[.int .i64 0,.string ⟨#[]⟩,.string ⟨#[]⟩],.int .i64 (dV s)])/\Below w.heap.size w w':=by
 by_cases h0:aU (aK s)=0
 ·rw[vB h0];exact jAe s w hs hW h0
 ·have hb:=yAy h0 h;rw[vC h0 hb];unfold gL at hb
  cases h1:dK s
  ·rw[h1,vD h1]at hb;simp at hb
  ·rw[h1]at hb
   cases h2:(aK (cutB s)).toList.isEmpty
   ·rw[h2]at hb
    cases h3:dK (cutB s)
    ·rw[h3]at hb;simp at hb
    ·rw[h3]at hb
     cases h4:(cutB (cutB s)).toList.isEmpty
     ·rw[h4]at hb;simp at hb
     ·exact jAi s w hs hW h0 h1 h2 h3 h4
   ·exact jAf s w hs hW h0 h1 h2
theorem mD (w:World)(cs:Array Value)(t:TypeId)(i:Nat)(h:i<cs.size):(w.alloc (.cells cs t)).cell? ⟨w.heap.size,i,none⟩=some cs[i]:=by
 rw[World.cell?_alloc_at _ _ _ _ rfl,Array.getElem?_eq_getElem h]
theorem kAr (k:Int)(key v:ByteArray)(w:World)(hv:v.size<=maxLen):
  Calls Tryz.prog 108 #[.agg #[.int .i64 k,.string key,.string v]] w fun e w'=>e= .returned (.bool (jK k v))/\Below w.heap.size w w':=by
 by_cases h:k=9\/k=10
 ·rw[vF h];rcases h with rfl|rfl
  all_goals
   go_enter Tryz.func108,Tryz.ntmps108;go_wp2_with fail;refine(jAb v _ hv).mono ?_;rintro e w1 ⟨rfl,hb⟩;go_wp2;go_ret;exact⟨rfl,bU ((aD _ _).alloc (aI _) _) hb⟩
 ·rw[qB h];have h9:(k==9)=false:=bJ.2 (by omega);have h10:(k==10)=false:=bJ.2 (by omega);clear h;go_enter Tryz.func108,Tryz.ntmps108;go_wp2;go_ret;exact⟨rfl,(aD _ _).alloc (aI _) _⟩
theorem kAs (k:Int)(key v:ByteArray)(w:World)(hk:key.size<=maxLen):
  Calls Tryz.prog 84 #[.agg #[.int .i64 k,.string key,.string v]] w fun e w'=>e= .returned (.bool (iT k key))/\Below w.heap.size w w':=by
 by_cases h:6<=k/\k<=11
 ·rw[mK h];obtain rfl|rfl|rfl|rfl|rfl|rfl:k=6\/k=7\/k=8\/k=9\/k=10\/k=11:=by omega
  all_goals
   clear h;go_enter Tryz.func84,Tryz.ntmps84;go_wp2_with fail;refine(wI key _ hk).mono ?_;rintro e w1 ⟨rfl,hb⟩;go_wp2;go_ret;exact⟨rfl,bU ((aD _ _).alloc (aI _) _) hb⟩
 ·rw[rT h];have h6:(k==6)=false:=bJ.2 (by omega);have h7:(k==7)=false:=bJ.2 (by omega);have h8:(k==8)=false:=bJ.2 (by omega);have h9:(k==9)=false:=bJ.2 (by omega);have h10:(k==10)=false:=bJ.2 (by omega);have h11:(k==11)=false:=bJ.2 (by omega);clear h;go_enter Tryz.func84,Tryz.ntmps84;go_wp2;go_ret;exact⟨rfl,(aD _ _).alloc (aI _) _⟩
theorem jAk (t:ByteArray)(w:World)(ht:t.size<=maxLen)(hW:Words w):
  Calls Tryz.prog 107 #[.string t] w fun e w'=>e= .returned (.bool (gY t))/\Below w.heap.size w w':=by
 have HW:=aA hW;clear hW
 by_cases h:dV t=0
 ·by_cases hk:aU (aK t)=6\/aU (aK t)=7\/aU (aK t)=10
  ·rw[yU h hk];have H:=aA h;clear h;have hs1:(aK (cutB t)).size<=maxLen:=by rw[oH];have:=kT (cutB t);have:=iO t;omega
   have hs2:(cutB (cutB t)).size<=maxLen:=by rw[iO];have:=iO t;omega
   have hsp:=aA (sU t w ht HW.out H.out);generalize aK (cutB t)=key at*;generalize cutB (cutB t)=v at*;generalize aU (aK t)=k at*
   cases hn:eC 97 122 8 key
   ·have HN:=aA hn;clear hn;rcases hk with rfl|rfl|rfl
    all_goals
     go_enter Tryz.func107,Tryz.ntmps107;go_wp2_with fail;refine hsp.out.mono ?_;rintro e w1 ⟨rfl,hb⟩;go_wp2_with fail;refine(wI key _ hs1).mono ?_;rw[HN.out];rintro e w2 ⟨rfl,hb2⟩;go_wp2;go_ret;exact⟨by rw[Bool.false_and];rfl,bU (hb.alloc hb.size _) hb2⟩
   ·have HN:=aA hn;clear hn;rcases hk with rfl|rfl|rfl
    all_goals
     go_enter Tryz.func107,Tryz.ntmps107;go_wp2_with fail;refine hsp.out.mono ?_;rintro e w1 ⟨rfl,hb⟩;go_wp2_with fail;refine(wI key _ hs1).mono ?_;rw[HN.out];rintro e w2 ⟨rfl,hb2⟩;have c0:=(hb2.cell (p:=⟨w1.heap.size,0,none⟩) (by simp)).trans (mD w1 _ _ 0 (by simp));have c1:=(hb2.cell (p:=⟨w1.heap.size,1,none⟩) (by simp)).trans (mD w1 _ _ 1 (by simp));have c2:=(hb2.cell (p:=⟨w1.heap.size,2,none⟩) (by simp)).trans (mD w1 _ _ 2 (by simp));simp only[aE,aB,aC]at c0 c1 c2;go_wp2_with fail;refine(kAr _ key v _ hs2).mono ?_;rintro e w3 ⟨rfl,hb3⟩;go_wp2;go_ret;exact⟨by rw[Bool.true_and];rfl,bU (bU (hb.alloc hb.size _) hb2) hb3⟩
  ·rw[yT hk];have H:=aA h;clear h;have hsp:=aA (sU t w ht HW.out H.out);generalize aK (cutB t)=key at*;generalize cutB (cutB t)=v at*;generalize aU (aK t)=k at*;have h6:((k:Int)==6)=false:=bJ.2 (by omega);have h7:((k:Int)==7)=false:=bJ.2 (by omega);have h10:((k:Int)==10)=false:=bJ.2 (by omega);clear hk;go_enter Tryz.func107,Tryz.ntmps107;go_wp2_with fail;refine hsp.out.mono ?_;rintro e w1 ⟨rfl,hb⟩;go_wp2;go_ret;exact⟨rfl,hb.alloc hb.size _⟩
 ·rw[yS h];have hsp:=aA (kAq t w ht HW.out h);have hne:((dV t) !=0)=true:=eP.2 h;generalize dV t=e0 at*;clear h;go_enter Tryz.func107,Tryz.ntmps107;go_wp2_with fail;refine hsp.out.mono ?_;rintro e w1 ⟨rfl,hb⟩;go_wp2;go_ret;exact⟨rfl,hb.alloc hb.size _⟩
theorem jAl (k:Int)(key v:ByteArray)(w:World)(hv:v.size<=maxLen)(hW:Words w):
  Calls Tryz.prog 85 #[.agg #[.int .i64 k,.string key,.string v]] w fun e w'=>e= .returned (.bool (fP k v))/\Below w.heap.size w w':=by
 have HW:=aA hW;clear hW
 by_cases h:k=11
 ·subst h;go_enter Tryz.func85,Tryz.ntmps85;go_wp2_with fail;refine(jAk v _ hv (HW.out.alloc _)).mono ?_;rintro e w1 ⟨rfl,hb⟩;go_wp2;go_ret;exact⟨rfl,bU ((aD _ _).alloc (aI _) _) hb⟩
 ·have hvb:=aA (show fP k v=jK k v by unfold fP;rw[if_neg h]);have h11:(k==11)=false:=bJ.2 h;clear h;go_enter Tryz.func85,Tryz.ntmps85;go_wp2_with fail;refine(kAr k key v _ hv).mono ?_;rintro e w1 ⟨rfl,hb⟩;go_wp2;go_ret;exact⟨by rw[hvb.out];rfl,bU ((aD _ _).alloc (aI _) _) hb⟩
theorem nQ (k:Int)(key v:ByteArray)(w:World)(hk:key.size<=maxLen)(hv:v.size<=maxLen)(hW:Words w):
  Calls Tryz.prog 58 #[.agg #[.int .i64 k,.string key,.string v]] w fun e w'=>e= .returned (.int .i64 (bZ k key v))/\Below w.heap.size w w':=by
 have HW:=aA hW;clear hW
 by_cases h:k<1\/11<k
 ·rw[vG h];rcases h with h|h
  ·go_enter Tryz.func58,Tryz.ntmps58;go_wp2;go_ret;exact⟨rfl,(aD _ _).alloc (aI _) _⟩
  ·have h1:decide (k<1)=false:=aY (by omega);go_enter Tryz.func58,Tryz.ntmps58;go_wp2;go_ret;exact⟨rfl,(aD _ _).alloc (aI _) _⟩
 ·have d1:decide (k<1)=false:=aY (by omega);have d2:decide (11<k)=false:=aY (by omega)
  cases h1:iT k key
  ·rw[qC h h1];have H1:=aA h1;clear h h1;go_enter Tryz.func58,Tryz.ntmps58;go_wp2_with fail;refine(kAs k key v _ hk).mono ?_;rw[H1.out];rintro e w1 ⟨rfl,hb⟩;go_wp2;go_ret;exact⟨rfl,bU ((aD _ _).alloc (aI _) _) hb⟩
  ·have H1:=aA h1
   cases h2:fP k v
   all_goals
    first|rw[lT h h2]|rw[mL h h1 h2]
    have H2:=aA h2;clear h2 h h1;go_enter Tryz.func58,Tryz.ntmps58;go_wp2_with fail;refine(kAs k key v _ hk).mono ?_;rw[H1.out];rintro e w1 ⟨rfl,hb⟩;have c0:=(hb.cell (p:=⟨w.heap.size,0,none⟩) (by simp)).trans (mD w _ _ 0 (by simp));have c1:=(hb.cell (p:=⟨w.heap.size,1,none⟩) (by simp)).trans (mD w _ _ 1 (by simp));have c2:=(hb.cell (p:=⟨w.heap.size,2,none⟩) (by simp)).trans (mD w _ _ 2 (by simp));simp only[aE,aB,aC]at c0 c1 c2;have hW1:=aA ((HW.out.alloc _).below hb);go_wp2_with fail;refine(jAl k key v _ hv hW1.out).mono ?_;rw[H2.out];rintro e w2 ⟨rfl,hb2⟩;go_wp2;go_ret;exact⟨rfl,bU (bU ((aD _ _).alloc (aI _) _) hb) hb2⟩
structure Stm (w:World)(b:Nat)(k:Int)(x y:ByteArray):Prop where
 lt:b<w.heap.size
 c0:w.cell? ⟨b,0,none⟩=some (.int .i64 k)
 c1:w.cell? ⟨b,1,none⟩=some (.string x)
 c2:w.cell? ⟨b,2,none⟩=some (.string y)
 fz: ∀i,w.frozen? ⟨b,i,none⟩=false
theorem Stm.below {w w':World}{b:Nat}{k:Int}{x y:ByteArray}(h:Stm w b k x y)(hb:Below w.heap.size w w'):Stm w' b k x y:=
 ⟨bD h.lt hb.size, (hb.cell (p := ⟨b, 0, none⟩) h.lt).trans h.c0, (hb.cell (p := ⟨b, 1, none⟩) h.lt).trans h.c1, (hb.cell (p := ⟨b, 2, none⟩) h.lt).trans h.c2,
  fun i => (hb.frozen (p := ⟨b, i, none⟩) h.lt).trans (h.fz i)⟩
theorem Stm.other {w:World}{b b' i:Nat}{k:Int}{x y:ByteArray}{u:Value}(h:Stm w b k x y)(_:b≠b'):Stm (w.setCell ⟨b',i,none⟩ u) b k x y:=by
 obtain⟨lt,c0,c1,c2,fz⟩:=h;refine⟨by simpa using lt,?_,?_,?_,fun i=>?_⟩
 ·simp[go_sem,c0]
 ·simp[go_sem,c1]
 ·simp[go_sem,c2]
 ·simp[go_sem,fz]
theorem Stm.new (w:World)(k:Int)(x y:ByteArray)(t:TypeId):Stm (w.alloc (.cells #[.int .i64 k,.string x,.string y] t)) w.heap.size k x y:=by
 refine⟨by simp,?_,?_,?_,fun i=>?_⟩
 ·rw[mD _ _ _ 0 (by simp)];rfl
 ·rw[mD _ _ _ 1 (by simp)];rfl
 ·rw[mD _ _ _ 2 (by simp)];rfl
 ·simp[go_sem]
theorem iB {w:World}{b R i:Nat}{u x y z:Value}(h:w.cell? ⟨b,i,none⟩=some u)(hne:b≠R):
  (((w.setCell ⟨R,0,none⟩ x).setCell ⟨R,1,none⟩ y).setCell ⟨R,2,none⟩ z).cell? ⟨b,i,none⟩=some u:=by
 simp[go_sem,h]
theorem kAt (t:ByteArray)(w:World)(hW:Words w)(h:dI t=0):
  Calls Tryz.prog 96 #[.string t] w fun e w'=>e= .returned (.tuple #[.agg #[.int .i64 (aU (aK t)),.string (aK (cutB t)),.string (cutB (cutB t))],.int .i64 0])/\Below w.heap.size w w':=by
 have HW:=aA hW;clear hW;have hl: ¬60<t.size:=fun hl=>by rw[lU hl]at h;cases h
 have hsp:dV t=0:=gP fun hs=>by rw[oI hl hs]at h;exact hs h
 have hck:=kU hl hsp;rw[h]at hck;have hd:decide (60<(t.size:Int))=false:=aY (by omega);have hg:=kE hck.symm;have k8:=hg.key8;have v60:=hg.v60;have HSP:=aA (sU t (w.alloc (.cells #[.int .i64 0,.string ⟨#[]⟩,.string ⟨#[]⟩] 41)) (by unfold maxLen;omega) (HW.out.alloc _) hsp);have HCK:=aA hck;clear hck hsp h hg;generalize aU (aK t)=k at*;generalize aK (cutB t)=key at*;generalize cutB (cutB t)=v at*;go_enter Tryz.func96,Tryz.ntmps96;go_wp2_with fail;refine HSP.out.mono ?_;rintro e w1 ⟨rfl,hb⟩;have R:=(Stm.new w 0 ⟨#[]⟩ ⟨#[]⟩ 41).below hb;have HR:=aA R;clear R;go_wp2_with fail;have hc:=nQ k key v (w1.alloc (.cells #[.int .i64 k,.string key,.string v] 41)) (by unfold maxLen;omega) (by unfold maxLen;omega) (((HW.out.alloc _).below hb).alloc _);rw[<-HCK.out]at hc;refine hc.mono ?_;clear hc;rintro e w2 ⟨rfl,hb2⟩;have S2:=(Stm.new w1 k key v 41).below hb2;have R2:=(HR.out.below ((aD _ _).alloc (aI _) (.cells #[.int .i64 k,.string key,.string v] 41))).below hb2;obtain⟨sl,s0,s1,s2,sf⟩:=S2;obtain⟨rl,r0,r1,r2,rf⟩:=R2;have b2:Below w.heap.size w w2:=bU ((bU ((aD _ _).alloc (aI _) _) hb).alloc (bU ((aD _ _).alloc (aI _) _) hb).size _) hb2;have hne:w1.heap.size≠w.heap.size:=by have:=HR.out.lt;omega
 go_wp2
 go_region_held3 (fun wx=>wx.cell? ⟨w1.heap.size,0,none⟩=some (.int .i64 k)/\wx.cell? ⟨w1.heap.size,1,none⟩=some (.string key)/\wx.cell? ⟨w1.heap.size,2,none⟩=some (.string v))
  (first|exact⟨p0,p1,p2⟩|exact⟨s0,s1,s2⟩|exact⟨iB p0 hne,iB p1 hne,iB p2 hne⟩)
  (first
   | (
    go_at_call_of 46 (Value.string key)
    refine(jT key _ (by omega)).mono ?_;rintro e w3 ⟨rfl,hy⟩;have q0:w3.cell? ⟨w.heap.size,0,none⟩=some (.int .i64 0):=by first|exact(hy.cell (p:=⟨w.heap.size,0,none⟩) rl).trans r0|exact(hy.cell (p:=⟨w.heap.size,0,none⟩) ql).trans q0
    have q1:w3.cell? ⟨w.heap.size,1,none⟩=some (.string ⟨#[]⟩):=by first|exact(hy.cell (p:=⟨w.heap.size,1,none⟩) rl).trans r1|exact(hy.cell (p:=⟨w.heap.size,1,none⟩) ql).trans q1
    have q2:w3.cell? ⟨w.heap.size,2,none⟩=some (.string ⟨#[]⟩):=by first|exact(hy.cell (p:=⟨w.heap.size,2,none⟩) rl).trans r2|exact(hy.cell (p:=⟨w.heap.size,2,none⟩) ql).trans q2
    have qf: ∀i,w3.frozen? ⟨w.heap.size,i,none⟩=false:=by first|exact fun i=>(hy.frozen (p:=⟨w.heap.size,i,none⟩) rl).trans (rf i)|exact fun i=>(hy.frozen (p:=⟨w.heap.size,i,none⟩) ql).trans (qf i)
    have p0:w3.cell? ⟨w1.heap.size,0,none⟩=some (.int .i64 k):=by first|exact(hy.cell (p:=⟨w1.heap.size,0,none⟩) sl).trans s0|exact(hy.cell (p:=⟨w1.heap.size,0,none⟩) pl).trans p0
    have p1:w3.cell? ⟨w1.heap.size,1,none⟩=some (.string key):=by first|exact(hy.cell (p:=⟨w1.heap.size,1,none⟩) sl).trans s1|exact(hy.cell (p:=⟨w1.heap.size,1,none⟩) pl).trans p1
    have p2:w3.cell? ⟨w1.heap.size,2,none⟩=some (.string v):=by first|exact(hy.cell (p:=⟨w1.heap.size,2,none⟩) sl).trans s2|exact(hy.cell (p:=⟨w1.heap.size,2,none⟩) pl).trans p2
    have pb:Below w.heap.size w w3:=by first|exact b2.trans ⟨hy.os,hy.tape,hy.output,hy.size,fun i hi=>hy.block i (by first|exact Nat.lt_trans hi rl|exact bD hi b2.size)⟩|exact pb.trans (hy.mono pb.size)
    have ql:w.heap.size<w3.heap.size:=by first|exact bD rl hy.size|exact bD ql hy.size
    have pl : w1.heap.size < w3.heap.size := by first | exact bD sl hy.size | exact bD pl hy.size)
   | (
    go_at_call_of 46 (Value.string v)
    refine(jT v _ (by omega)).mono ?_;rintro e w3 ⟨rfl,hy⟩;have q0:w3.cell? ⟨w.heap.size,0,none⟩=some (.int .i64 0):=by first|exact(hy.cell (p:=⟨w.heap.size,0,none⟩) rl).trans r0|exact(hy.cell (p:=⟨w.heap.size,0,none⟩) ql).trans q0
    have q1:w3.cell? ⟨w.heap.size,1,none⟩=some (.string ⟨#[]⟩):=by first|exact(hy.cell (p:=⟨w.heap.size,1,none⟩) rl).trans r1|exact(hy.cell (p:=⟨w.heap.size,1,none⟩) ql).trans q1
    have q2:w3.cell? ⟨w.heap.size,2,none⟩=some (.string ⟨#[]⟩):=by first|exact(hy.cell (p:=⟨w.heap.size,2,none⟩) rl).trans r2|exact(hy.cell (p:=⟨w.heap.size,2,none⟩) ql).trans q2
    have qf: ∀i,w3.frozen? ⟨w.heap.size,i,none⟩=false:=by first|exact fun i=>(hy.frozen (p:=⟨w.heap.size,i,none⟩) rl).trans (rf i)|exact fun i=>(hy.frozen (p:=⟨w.heap.size,i,none⟩) ql).trans (qf i)
    have p0:w3.cell? ⟨w1.heap.size,0,none⟩=some (.int .i64 k):=by first|exact(hy.cell (p:=⟨w1.heap.size,0,none⟩) sl).trans s0|exact(hy.cell (p:=⟨w1.heap.size,0,none⟩) pl).trans p0
    have p1:w3.cell? ⟨w1.heap.size,1,none⟩=some (.string key):=by first|exact(hy.cell (p:=⟨w1.heap.size,1,none⟩) sl).trans s1|exact(hy.cell (p:=⟨w1.heap.size,1,none⟩) pl).trans p1
    have p2:w3.cell? ⟨w1.heap.size,2,none⟩=some (.string v):=by first|exact(hy.cell (p:=⟨w1.heap.size,2,none⟩) sl).trans s2|exact(hy.cell (p:=⟨w1.heap.size,2,none⟩) pl).trans p2
    have pb:Below w.heap.size w w3:=by first|exact b2.trans ⟨hy.os,hy.tape,hy.output,hy.size,fun i hi=>hy.block i (by first|exact Nat.lt_trans hi rl|exact bD hi b2.size)⟩|exact pb.trans (hy.mono pb.size)
    have ql:w.heap.size<w3.heap.size:=by first|exact bD rl hy.size|exact bD ql hy.size
    have pl : w1.heap.size < w3.heap.size := by first | exact bD sl hy.size | exact bD pl hy.size))
 all_goals go_wp2
 all_goals refine bE (v:= .tuple #[.agg #[.int .i64 k,.string key,.string v],.int .i64 0]) (by simp[results,Tryz.results96,go_sem,q0,q1,q2]) rfl ⟨rfl,?_⟩
 all_goals repeat' (first|exact aD _ _|assumption|with_reducible refine aZ ?_ _|with_reducible refine Below.drew ?_|with_reducible refine dT ?_ ?_ _|with_reducible refine dU ?_ ?_ _|(simp;done)|(simp;omega))
theorem jAm (t:ByteArray)(w:World)(h:60<t.size):
  Calls Tryz.prog 96 #[.string t] w fun e w'=>e= .returned (.tuple #[.agg #[.int .i64 0,.string ⟨#[]⟩,.string ⟨#[]⟩],.int .i64 1])/\Below w.heap.size w w':=by
 have hd:decide (60<(t.size:Int))=true:=cF (by omega);go_enter Tryz.func96,Tryz.ntmps96;go_wp2;refine bE (v:= .tuple #[.agg #[.int .i64 0,.string ⟨#[]⟩,.string ⟨#[]⟩],.int .i64 1]) (by simp[results,Tryz.results96,go_sem]) rfl ⟨rfl,?_⟩
 repeat' (first|exact aD _ _|assumption|with_reducible refine aZ ?_ _|with_reducible refine Below.drew ?_|with_reducible refine dT ?_ ?_ _|with_reducible refine dU ?_ ?_ _|(simp;done)|(simp;omega))
theorem jAn (t:ByteArray)(w:World)(hW:Words w)(hl: ¬60<t.size)(h:dV t≠0):
  Calls Tryz.prog 96 #[.string t] w fun e w'=>e= .returned (.tuple #[.agg #[.int .i64 0,.string ⟨#[]⟩,.string ⟨#[]⟩],.int .i64 (dV t)])/\Below w.heap.size w w':=by
 have hd:decide (60<(t.size:Int))=false:=aY (by omega);have HSP:=aA (kAq t (w.alloc (.cells #[.int .i64 0,.string ⟨#[]⟩,.string ⟨#[]⟩] 41)) (by unfold maxLen;omega) (hW.alloc _) h);have h1:(dV t==0)=false:=bJ.2 h;have h2:(dV t !=0)=true:=eP.2 h;generalize dV t=c at*;clear hW h;go_enter Tryz.func96,Tryz.ntmps96;go_wp2_with fail;refine HSP.out.mono ?_;rintro e w1 ⟨rfl,hb⟩;obtain⟨rl,r0,r1,r2,rf⟩:=(Stm.new w 0 ⟨#[]⟩ ⟨#[]⟩ 41).below hb;have bel:=bU ((aD _ _).alloc (aI _) _) hb;go_wp2;refine bE (v:= .tuple #[.agg #[.int .i64 0,.string ⟨#[]⟩,.string ⟨#[]⟩],.int .i64 c]) (by simp[results,Tryz.results96,go_sem,r0,r1,r2,rl]) rfl ⟨rfl,?_⟩
 repeat' (first|exact aD _ _|assumption|with_reducible refine aZ ?_ _|with_reducible refine Below.drew ?_|with_reducible refine dT ?_ ?_ _|with_reducible refine dU ?_ ?_ _|(simp;done)|(simp;omega))
theorem jAo (t:ByteArray)(w:World)(hW:Words w)(hl: ¬60<t.size)(h:dV t=0)(hc:bZ (aU (aK t)) (aK (cutB t)) (cutB (cutB t))≠0):
  Calls Tryz.prog 96 #[.string t] w fun e w'=>e= .returned (.tuple #[.agg #[.int .i64 0,.string ⟨#[]⟩,.string ⟨#[]⟩],.int .i64 (bZ (aU (aK t)) (aK (cutB t)) (cutB (cutB t)))])/\Below w.heap.size w w':=by
 have hd:decide (60<(t.size:Int))=false:=aY (by omega);have HW:=aA hW;have HSP:=aA (sU t (w.alloc (.cells #[.int .i64 0,.string ⟨#[]⟩,.string ⟨#[]⟩] 41)) (by unfold maxLen;omega) (hW.alloc _) h);have hk8:(aK (cutB t)).size<=maxLen:=by rw[oH];have:=kT (cutB t);have:=iO t;unfold maxLen;omega
 have hv8:(cutB (cutB t)).size<=maxLen:=by rw[iO];have:=iO t;unfold maxLen;omega
 generalize aU (aK t)=k at*;generalize aK (cutB t)=key at*;generalize cutB (cutB t)=v at*;have h2:(bZ k key v !=0)=true:=eP.2 hc;clear hW h hc;go_enter Tryz.func96,Tryz.ntmps96;go_wp2_with fail;refine HSP.out.mono ?_;rintro e w1 ⟨rfl,hb⟩;have HR:=aA ((Stm.new w 0 ⟨#[]⟩ ⟨#[]⟩ 41).below hb);go_wp2_with fail;refine(nQ k key v (w1.alloc (.cells #[.int .i64 k,.string key,.string v] 41)) hk8 hv8 (((HW.out.alloc _).below hb).alloc _)).mono ?_;rintro e w2 ⟨rfl,hb2⟩;obtain⟨rl,r0,r1,r2,rf⟩:=(HR.out.below ((aD _ _).alloc (aI _) (.cells #[.int .i64 k,.string key,.string v] 41))).below hb2;have bel:Below w.heap.size w w2:=bU ((bU ((aD _ _).alloc (aI _) _) hb).alloc (bU ((aD _ _).alloc (aI _) _) hb).size _) hb2;go_wp2;refine bE (v:= .tuple #[.agg #[.int .i64 0,.string ⟨#[]⟩,.string ⟨#[]⟩],.int .i64 (bZ k key v)]) (by simp[results,Tryz.results96,go_sem,r0,r1,r2]) rfl ⟨rfl,?_⟩
 repeat' (first|exact aD _ _|assumption|with_reducible refine aZ ?_ _|with_reducible refine Below.drew ?_|with_reducible refine dT ?_ ?_ _|with_reducible refine dU ?_ ?_ _|(simp;done)|(simp;omega))
theorem jAp (t:ByteArray)(w:World)(hW:Words w)(h:dI t≠0):
  Calls Tryz.prog 96 #[.string t] w fun e w'=>e= .returned (.tuple #[.agg #[.int .i64 0,.string ⟨#[]⟩,.string ⟨#[]⟩],.int .i64 (dI t)])/\Below w.heap.size w w':=by
 by_cases hl:60<t.size
 ·rw[lU hl];exact jAm t w hl
 ·by_cases hs:dV t=0
  ·rw[kU hl hs]at h ⊢;exact jAo t w hW hl hs h
  ·rw[oI hl hs];exact jAn t w hW hl hs
theorem jAq {v:ByteArray}(h:gY v=true):dI v=0/\(1<=aU (aK v)/\aU (aK v)<=11/\aU (aK v)≠8)/\(aK (cutB v)).size<=8/\(cutB (cutB v)).size<=60:=by
 have h38:=vAa h;unfold gY at h;simp only[eB,decide_eq_true_eq]at h;have a4:=oJ h.2.2.1;have a5:=vH h.2.2.2;refine⟨?_,by omega,a4.2,by omega⟩;rw[kU (by omega) h.1];refine mL (by omega) ?_ ?_
 ·rw[mK (by omega)];exact h.2.2.1
 ·unfold fP;rw[if_neg (by omega)];exact h.2.2.2
theorem jAr {k v:ByteArray}(h:bZ 11 k v=0):gY v=true:=by
 cases e:gY v
 ·exfalso
  rw[lT (by omega) (by unfold fP;rw[if_pos rfl];exact e)]at h
  cases h
 ·rfl
theorem jAs (X S gR cR:Nat)(G C:Nat->Nat->Nat)(W:Wd)(i:Nat)(key:ByteArray)(w:World)(h:OwnD w X S gR cR G C W)(hw:bX W)(hi:i<W.ss.length)(hat:aX W.ss[i].prep key=none):
  Calls Tryz.prog 69 #[.pointer (some ⟨X,0,none⟩),.int .i64 i,.string key] w fun e w'=>e= .returned (bQ 4 kI)/\Below w.heap.size w w':=by
 have hz:=dN hw;have hXw:=h.box.lt;have hSw:=h.blk.lt;have x1:=h.box.cell (j:=1) (by simp);simp only[aB,aC]at x1;unfold slc at x1;have hii:(i:Int)<(W.ss.length:Int):=by omega
 have p1:w.cell? ⟨S,i*5+2,none⟩=some (.slice (some ⟨G i 1,0,none⟩) W.ss[i].prep.length (C i 1)):=h.cs i 1 hi (by omega);have b0:Below w.heap.size w ((w.alloc (.cells #[.int .i64 0,.string ⟨#[]⟩,.int .i64 0] 46)).alloc (.cells #[.slice (some ⟨G i 1,0,none⟩) W.ss[i].prep.length (C i 1)] 27)):=((aD _ _).alloc (aI _) _).alloc (by simp) _;have X0:RowTo ((w.alloc (.cells #[.int .i64 0,.string ⟨#[]⟩,.int .i64 0] 46)).alloc (.cells #[.slice (some ⟨G i 1,0,none⟩) W.ss[i].prep.length (C i 1)] 27)) w.heap.size 46 3 [.int .i64 0,.string ⟨#[]⟩,.int .i64 0]:=(RowTo.whole w #[.int .i64 0,.string ⟨#[]⟩,.int .i64 0] 46).alloc _;have HL:=aA ((h.list hz hi (j:=1) (by omega)).step b0);have HRI:=aA ((bW (hw.sess i hi).prep).1);have hF:gU [W.ss[i].prep] key=none:=by simp only[gU,hat]
 have HF := aA (show Calls Tryz.prog 68 #[.string key, .slice (some ⟨w.heap.size + 1, 0, none⟩) 1 1] ((w.alloc (.cells #[.int .i64 0, .string ⟨#[]⟩, .int .i64 0] 46)).alloc (.cells #[.slice (some ⟨G i 1, 0, none⟩) W.ss[i].prep.length (C i 1)] 27)) (fun e w' => e = .returned (.agg #[.int .i64 3, .string ⟨#[]⟩, .int .i64 0]) ∧ Below ((w.alloc (.cells #[.int .i64 0, .string ⟨#[]⟩, .int .i64 0] 46)).alloc (.cells #[.slice (some ⟨G i 1, 0, none⟩) W.ss[i].prep.length (C i 1)] 27)).heap.size ((w.alloc (.cells #[.int .i64 0, .string ⟨#[]⟩, .int .i64 0] 46)).alloc (.cells #[.slice (some ⟨G i 1, 0, none⟩) W.ss[i].prep.length (C i 1)] 27)) w') by
  have q := sG key (w.heap.size + 1) [W.ss[i].prep] (fun _ => .slice (some ⟨G i 1, 0, none⟩) W.ss[i].prep.length (C i 1)) ((w.alloc (.cells #[.int .i64 0, .string ⟨#[]⟩, .int .i64 0] 46)).alloc (.cells #[.slice (some ⟨G i 1, 0, none⟩) W.ss[i].prep.length (C i 1)] 27)) (by simp) (by simp) (fun n hn => by
   obtain rfl:n=0:=by simp at hn;omega
   exact ⟨by simp [go_sem], HL.out, HRI.out⟩)
  rw[hF]at q
  exact q)
 have hzs:((w.alloc (.cells #[.int .i64 0,.string ⟨#[]⟩,.int .i64 0] 46)).alloc (.cells #[.slice (some ⟨G i 1,0,none⟩) W.ss[i].prep.length (C i 1)] 27)).heap.size=w.heap.size+1+1:=by simp
 have H:=aA h;have HZ:=aA hz;have HW:=aA hw;have B0:=aA b0;have HX0:=aA X0;have HZS:=aA hzs;have HAT:=aA hat;clear h hz hw b0 X0 hzs hF hat;go_enter Tryz.func69,Tryz.ntmps69;go_wp2_with fail;refine HF.out.mono ?_;rintro e w1 ⟨rfl,hb1⟩;have hs1:=hb1.size;rw[HZS.out]at hs1;have X1:=HX0.out.below hb1 HX0.out.lt;have B1:=aA (aR B0.out hb1 B0.out.size);have HX1:=aA X1;clear hb1 X1;go_wp2_with fail;refine(lZ kI _).mono ?_;rintro e w2 ⟨rfl,hb2⟩;have B2:=aA (show Below w.heap.size w w2 from aR ((B1.out).alloc (by omega) _) hb2 (by simp;omega));have X2:RowTo w2 w.heap.size 46 3 [.int .i64 0,.string ⟨#[]⟩,.int .i64 0]:=(HX1.out.alloc _).below hb2 (by simp;omega);have r0:=X2.cell (j:=0) (by simp);have r1:=X2.cell (j:=1) (by simp);have r2:=X2.cell (j:=2) (by simp);have s0:=X2.frozen 0;have s1:=X2.frozen 1;have s2:=X2.frozen 2;simp only[aB,aC]at r0 r1 r2;clear hb2 X2;unfold bQ;go_wp2;refine bE (v:= .agg #[.int .i64 4,.string kI,.int .i64 0]) (by simp[results,Tryz.results69,go_sem,r0,r1,r2]) rfl ⟨rfl,?_⟩;exact((B2.out.setCell (by simp) _).setCell (by simp) _).setCell (by simp) _
theorem jAt (base X S gR cR:Nat)(G C:Nat->Nat->Nat)(W:Wd)(i:Nat)(key t:ByteArray)(w:World)(h:OwnD w X S gR cR G C W)(lo:LoD base X S gR G W.ss.length)(hw:bX W)(hb:base<=w.heap.size)(hi:i<W.ss.length)(hW:Words w)(hat:aX W.ss[i].prep key=some t):
  Calls Tryz.prog 69 #[.pointer (some ⟨X,0,none⟩),.int .i64 i,.string key] w (ExPost w base X S gR G W.ss.length (did1 W i (aU (aK t)) (aK (cutB t)) (cutB (cutB t)))):=by
 obtain⟨hre,⟨hk1,hk2,hk8⟩,hkz,hvz⟩:=jAq (v:=t) (jAr (k:=key) (v:=t) ((bW (hw.sess i hi).prep).2.2 _ (kF hat)));have HRE:=aA hre;have HWW:=aA hW;obtain⟨r,hr⟩: ∃r,r=did1 W i (aU (aK t)) (aK (cutB t)) (cutB (cutB t)):=⟨_,rfl⟩;rw[<-hr]
 have HX := aA (show ∀ (w9 : World), OwnD w9 X S gR cR G C W → base ≤ w9.heap.size → Calls Tryz.prog 45 #[.pointer (some ⟨X, 0, none⟩), .int .i64 i, .agg #[.int .i64 (aU (aK t)), .string (aK (cutB t)), .string (cutB (cutB t))]] w9 (ExPost w9 base X S gR G W.ss.length r) from fun w9 h9 hb9 => by
  rw[hr]
  exact kAm base X S gR cR G C W i _ _ _ w9 h9 lo hw hb9 hi hkz hvz (by omega) (by omega) (by omega))
 clear hre hr hk1 hk2 hk8 hkz hvz hW;have hz:=dN hw;have hXw:=h.box.lt;have hSw:=h.blk.lt;have x1:=h.box.cell (j:=1) (by simp);simp only[aB,aC]at x1;unfold slc at x1;have hii:(i:Int)<(W.ss.length:Int):=by omega
 have p1:w.cell? ⟨S,i*5+2,none⟩=some (.slice (some ⟨G i 1,0,none⟩) W.ss[i].prep.length (C i 1)):=h.cs i 1 hi (by omega);have b0:Below w.heap.size w ((w.alloc (.cells #[.int .i64 0,.string ⟨#[]⟩,.int .i64 0] 46)).alloc (.cells #[.slice (some ⟨G i 1,0,none⟩) W.ss[i].prep.length (C i 1)] 27)):=((aD _ _).alloc (aI _) _).alloc (by simp) _;have X0:RowTo ((w.alloc (.cells #[.int .i64 0,.string ⟨#[]⟩,.int .i64 0] 46)).alloc (.cells #[.slice (some ⟨G i 1,0,none⟩) W.ss[i].prep.length (C i 1)] 27)) w.heap.size 46 3 [.int .i64 0,.string ⟨#[]⟩,.int .i64 0]:=(RowTo.whole w #[.int .i64 0,.string ⟨#[]⟩,.int .i64 0] 46).alloc _;have HL:=aA ((h.list hz hi (j:=1) (by omega)).step b0);have HRI:=aA ((bW (hw.sess i hi).prep).1);have hF:gU [W.ss[i].prep] key=some t:=by simp only[gU,hat]
 have HF := aA (show Calls Tryz.prog 68 #[.string key, .slice (some ⟨w.heap.size + 1, 0, none⟩) 1 1] ((w.alloc (.cells #[.int .i64 0, .string ⟨#[]⟩, .int .i64 0] 46)).alloc (.cells #[.slice (some ⟨G i 1, 0, none⟩) W.ss[i].prep.length (C i 1)] 27)) (fun e w' => e = .returned (.agg #[.int .i64 2, .string t, .int .i64 0]) ∧ Below ((w.alloc (.cells #[.int .i64 0, .string ⟨#[]⟩, .int .i64 0] 46)).alloc (.cells #[.slice (some ⟨G i 1, 0, none⟩) W.ss[i].prep.length (C i 1)] 27)).heap.size ((w.alloc (.cells #[.int .i64 0, .string ⟨#[]⟩, .int .i64 0] 46)).alloc (.cells #[.slice (some ⟨G i 1, 0, none⟩) W.ss[i].prep.length (C i 1)] 27)) w') by
  have q := sG key (w.heap.size + 1) [W.ss[i].prep] (fun _ => .slice (some ⟨G i 1, 0, none⟩) W.ss[i].prep.length (C i 1)) ((w.alloc (.cells #[.int .i64 0, .string ⟨#[]⟩, .int .i64 0] 46)).alloc (.cells #[.slice (some ⟨G i 1, 0, none⟩) W.ss[i].prep.length (C i 1)] 27)) (by simp) (by simp) (fun n hn => by
   obtain rfl:n=0:=by simp at hn;omega
   exact ⟨by simp [go_sem], HL.out, HRI.out⟩)
  rw[hF]at q
  exact q)
 have hzs:((w.alloc (.cells #[.int .i64 0,.string ⟨#[]⟩,.int .i64 0] 46)).alloc (.cells #[.slice (some ⟨G i 1,0,none⟩) W.ss[i].prep.length (C i 1)] 27)).heap.size=w.heap.size+1+1:=by simp
 have H:=aA h;have HZ:=aA hz;have HW:=aA hw;have B0:=aA b0;have HX0:=aA X0;have HZS:=aA hzs;have HAT:=aA hat;clear h hz hw b0 X0 hzs hF hat;go_enter Tryz.func69,Tryz.ntmps69;go_wp2_with fail;refine HF.out.mono ?_;rintro e w1 ⟨rfl,hb1⟩;have hs1:=hb1.size;rw[HZS.out]at hs1;have X1:=HX0.out.below hb1 HX0.out.lt;have B1:=aA (aR B0.out hb1 B0.out.size);have HX1:=aA X1;clear hb1 X1;go_wp2_with fail;refine(kAt t _ (by first|exact HWW.out.below (B1.out.alloc (by omega) _)|exact HWW.out.below B1.out) HRE.out).mono ?_
 rintro e w2 ⟨rfl,hb2⟩;generalize hkk:aU (aK t)=kk at*;generalize aK (cutB t)=aa at*;generalize cutB (cutB t)=bb at*;have B2:=aA (show Below w.heap.size w (w2.alloc (.cells #[.int .i64 kk,.string aa,.string bb] 41))from(aR (B1.out.alloc (by omega) _) hb2 (by simp;omega)).alloc (by have:=hb2.size;simp at this;omega) _);have X2:=aA (show RowTo (w2.alloc (.cells #[.int .i64 kk,.string aa,.string bb] 41)) w.heap.size 46 3 [.int .i64 0,.string ⟨#[]⟩,.int .i64 0]from(((HX1.out.alloc _).below hb2 (by simp;omega)).alloc _));have HGG:=aA (show∀i j,i<W.ss.length->j<4->w.heap.size≠G i j from fun i j hi hj=>by have:=(H.out.ls i j hi hj).row.lt;omega);have hgr:=H.out.rows.row.lt;have hs2:w.heap.size<(w2.alloc (.cells #[.int .i64 kk,.string aa,.string bb] 41)).heap.size:=X2.out.lt;have HS2:=aA hs2;clear hb2 hs2;go_wp2_with fail;refine(HX.out _ (H.out.kept B2.out) (by have:=HS2.out;omega)).mono ?_;rintro e wB hp;obtain rfl:=hp.1;have RB:=X2.out.same (hp.2.2.2 w.heap.size HS2.out (by omega) (by omega) (by omega) HGG.out);have HP:=aA hp;have r0:=RB.cell (j:=0) (by simp);have r1:=RB.cell (j:=1) (by simp);have r2:=RB.cell (j:=2) (by simp);have s0:=RB.frozen 0;have s1:=RB.frozen 1;have s2:=RB.frozen 2;simp only[aB,aC]at r0 r1 r2;have HRB:=aA RB;clear hp RB;unfold bQ;go_wp2;refine bE (v:= .agg #[.int .i64 r.2.kind,.string r.2.text,.int .i64 0]) (by simp[results,Tryz.results69,go_sem,r0,r1,r2]) rfl ?_;exact HP.out.laid B2.out hb (aI _) HRB.out _ _ _
theorem jAu (base X S gR cR:Nat)(G C:Nat->Nat->Nat)(W:Wd)(i:Nat)(key val:ByteArray)(w:World)(h:OwnD w X S gR cR G C W)(lo:LoD base X S gR G W.ss.length)(hw:bX W)(hb:base<=w.heap.size)(hi:i<W.ss.length)(hkz:key.size<=8)(hvz:val.size<=60)(hst:W.ss[i].st≠2)(hW:Words w):
  Calls Tryz.prog 45 #[.pointer (some ⟨X,0,none⟩),.int .i64 i,.agg #[.int .i64 8,.string key,.string val]] w (ExPost w base X S gR G W.ss.length (didM W i 8 key val)):=by
 have hz:=dN hw;have hXw:=h.box.lt;have hSw:=h.blk.lt;have x1:=h.box.cell (j:=1) (by simp);simp only[aB,aC]at x1;unfold slc at x1;have c0:=h.st i hi;have hii:(i:Int)<(W.ss.length:Int):=by omega
 have b0:Below w.heap.size w ((w.alloc (.cells #[.int .i64 8,.string key,.string val] 41)).alloc (.cells #[.int .i64 0,.string ⟨#[]⟩,.int .i64 0] 46)):=((aD _ _).alloc (aI _) _).alloc (by simp) _;have h0:=h.kept b0
 have X0:RowTo ((w.alloc (.cells #[.int .i64 8,.string key,.string val] 41)).alloc (.cells #[.int .i64 0,.string ⟨#[]⟩,.int .i64 0] 46)) (w.heap.size+1) 46 3 [.int .i64 0,.string ⟨#[]⟩,.int .i64 0]:=by
  have:=RowTo.whole (w.alloc (.cells #[.int .i64 8,.string key,.string val] 41)) #[.int .i64 0,.string ⟨#[]⟩,.int .i64 0] 46
  simpa using this
 have hzs:((w.alloc (.cells #[.int .i64 8,.string key,.string val] 41)).alloc (.cells #[.int .i64 0,.string ⟨#[]⟩,.int .i64 0] 46)).heap.size=w.heap.size+1+1:=by simp
 have hgr:=h.rows.row.lt;have hgg: ∀i j,i<W.ss.length->j<4->w.heap.size+1≠G i j:=fun i j hi hj=>by have:=(h.ls i j hi hj).row.lt;omega
 obtain⟨r,hr⟩: ∃r,r=didM W i 8 key val:=⟨_,rfl⟩;rw[<-hr];have hbs:base<=((w.alloc (.cells #[.int .i64 8,.string key,.string val] 41)).alloc (.cells #[.int .i64 0,.string ⟨#[]⟩,.int .i64 0] 46)).heap.size:=by omega
 have HC := aA (show Calls Tryz.prog 69 #[.pointer (some ⟨X, 0, none⟩), .int .i64 i, .string key] ((w.alloc (.cells #[.int .i64 8, .string key, .string val] 41)).alloc (.cells #[.int .i64 0, .string ⟨#[]⟩, .int .i64 0] 46)) (ExPost ((w.alloc (.cells #[.int .i64 8, .string key, .string val] 41)).alloc (.cells #[.int .i64 0, .string ⟨#[]⟩, .int .i64 0] 46)) base X S gR G W.ss.length r) by
  rw[hr];rw[show didM W i 8 key val=(match aX W.ss[i].prep key with|none=>(W,cY kI)|some t=>did1 W i (aU (aK t)) (aK (cutB t)) (cutB (cutB t))) by unfold didM;simp only[fY hi];rw[if_pos trivial,if_neg hst];cases aX W.ss[i].prep key<;>rfl]
  cases hat:aX W.ss[i].prep key
  ·exact(jAs X S gR cR G C W i key _ h0 hw hi hat).mono fun e w' hh=>ExPost.same h0 lo hz hbs hh.1 hh.2
  ·exact jAt base X S gR cR G C W i key _ _ h0 lo hw hbs hi (hW.below b0) hat)
 have H:=aA h;have HZ:=aA hz;have HW:=aA hw;have B0:=aA b0;have HX0:=aA X0;have HZS:=aA hzs;have HG:=aA hgg;have HR:=aA hr;clear h hz hw b0 X0 hzs hgg hr h0 hbs;have e2:(W.ss[i].st==2)=false:=bJ.2 hst
 ·skip;go_enter Tryz.func45,Tryz.ntmps45;go_wp2_with fail;refine HC.out.mono ?_;rintro e wB hp;obtain rfl:=hp.1;have RB:=HX0.out.same (hp.2.2.2 (w.heap.size+1) (by rw[HZS.out];omega) (by omega) (by omega) (by omega) HG.out);have HP:=aA hp;have r0:=RB.cell (j:=0) (by simp);have r1:=RB.cell (j:=1) (by simp);have r2:=RB.cell (j:=2) (by simp);have s0:=RB.frozen 0;have s1:=RB.frozen 1;have s2:=RB.frozen 2;simp only[aB,aC]at r0 r1 r2;have HRB:=aA RB;clear hp RB;unfold bQ;go_wp2;refine bE (v:= .agg #[.int .i64 r.2.kind,.string r.2.text,.int .i64 0]) (by simp[results,Tryz.results45,go_sem,r0,r1,r2]) rfl ?_;exact HP.out.laid B0.out hb (by omega) HRB.out _ _ _
theorem jAv (base X S gR cR:Nat)(G C:Nat->Nat->Nat)(W:Wd)(i:Nat)(k:Int)(key val:ByteArray)(w:World)(h:OwnD w X S gR cR G C W)(lo:LoD base X S gR G W.ss.length)(hw:bX W)(hb:base<=w.heap.size)(hi:i<W.ss.length)(hg:bZ k key val=0)(hW:Words w):
  Calls Tryz.prog 45 #[.pointer (some ⟨X,0,none⟩),.int .i64 i,.agg #[.int .i64 k,.string key,.string val]] w (ExPost w base X S gR G W.ss.length (didM W i k key val)):=by
 have g:=kE hg
 by_cases h8:k=8
 ·subst h8
  by_cases hst:W.ss[i].st=2
  ·have q:=kAl base X S gR cR G C W i 8 key val w h lo hw hb hi g.key8 g.v60 hst (by omega);rw[show didM W i 8 key val=did1 W i 8 key val by rw[show did1 W i 8 key val=(W,cY jU) by unfold did1;simp only[fY hi];rw[if_pos ⟨hst,by omega⟩]];unfold didM;simp only[fY hi];rw[if_pos trivial,if_pos hst]];exact q
  ·exact jAu base X S gR cR G C W i key val w h lo hw hb hi g.key8 g.v60 hst hW
 ·rw[show didM W i k key val=did1 W i k key val by unfold didM;rw[if_neg h8]];exact kAm base X S gR cR G C W i k key val w h lo hw hb hi g.key8 g.v60 g.lo g.hi h8
end Go.Proofs.YtpbaobmegomfpabGreatDoor
namespace Go.Proofs.YtpbaobmegomfpabGreatDoor
open Go.RowKit Go.Maps Go.WideMaps
theorem kAu {key:Value}{l:Lit}(h:keyOf Tryz.prog 9 key=some l): ∃s,key= .string s/\l=kl s:=by
 cases key<;>simp[keyOf,Tryz.underlying9,mapKey]at h
 exact⟨_,rfl,h.2.symm⟩
def jAw (w:World)(W:Wd)(b r n:Nat)(D:DataW Unit)(wr:World):Prop:=
 ∃left cnt,wr.ranges Tryz.prog 9 (plainElem Tryz.prog 3) b r n D left cnt/\(∀key,Maps.has D (kl key)=true->left (kl key)=true\/bK (W.ss.flatMap (·.wr)) key<=1)/\Below w.heap.size w wr
theorem jAx (r s:Value)(W:Wd)(w:World)(hW:Wld w w.heap.size r s W)(hr100:W.rows.length<=100)(hrise:bG W.rows=true)(h8:W.ss.length<=8)(hw100: ∀i (hi:i<W.ss.length),W.ss[i].wr.length<=100):
  Calls Tryz.prog 92 #[.agg #[r,s]] w fun e w'=>e= .returned (.bool (kZ W&&decide ((aW W).length<=100)))/\Below w.heap.size w w':=by
 have HWW:=aA hW;obtain⟨A,c,rfl,hc⟩:=hW.sess.form;obtain⟨D,d,rfl,hd⟩:=hW.rows.form;have HN:=aA hw100;have HI:=aA hrise;clear hw100 hrise hW;have b0:Below w.heap.size w (w.alloc (.cells #[.slice D W.rows.length d,.slice A W.ss.length c] 39)):=(aD _ _).alloc (aI _) _;go_enter Tryz.func92,Tryz.ntmps92;go_wp2_with fail;refine(mS _ _ W _ (HWW.out.step b0) hr100 HI.out h8 HN.out).mono ?_;rintro e w1 ⟨b,n,M,rfl,hown,hmap,hn,hb,hb1⟩;have HB:=aA (aR b0 hb1 b0.size);have HM:=aA hmap;have HO:=aA hown;have hbw:w.heap.size<=b:=by have:=b0.size;omega
 clear hown hmap hb1;go_wp2_with (first|(at_range;refine wpList_range_own _ rfl _ 162 rfl 9 3 jE Tryz.underlying162 _ b n M rfl HO.out ?_;intro w0 hrg0 hg0 hs0)|go_in)
 go_frame
 have HR0:=aA hrg0;have HB0:=aA (HB.out.grown hg0 HB.out.size (fun k hk=>by cases hk));have hrr:w.heap.size<=w1.heap.size:=HB.out.size;clear hrg0 hg0 hs0 HO
 go_loopw [5] (fun _ wr=>jAw w W b w1.heap.size n M wr) (fun _ wr=>wr.rangeLeft b w1.heap.size)
 case atStart=>exact⟨_,_,HR0.out,fun key h=> .inl h,HB0.out⟩
 case round=>
  clear HR0 HB0;obtain⟨left,cnt,hrg,hok,bel⟩:=hrel;have HG:=aA hrg;have HK:=aA hok;have HB1:=aA bel;clear hrg hok bel;go_wp2_with (first|(at_next;refine wpList_next_ranges _ rfl _ rfl 9 jE (plainElem Tryz.prog 3) Value.string (Value.int .i64) (fun key l h=>(by obtain⟨x,hx,_⟩:=kAu h;exact⟨x,hx⟩)) (fun v y hv=>(by obtain⟨q,hq,_⟩:=plainElem_int_inv Tryz.underlying3 hv;exact⟨q,hq⟩)) b w1.heap.size n _ _ _ rfl HG.out ?_ ?_)|go_in)
  ·intro hc0 hl0
   have HF := aA (kA4 (W := W) (fun key => by
    cases hh:Maps.has M (kl key)
    ·have h1:=HM.out.at_ key;rw[atKey_of_not_has hh]at h1;have:=lF h1;omega
    ·rcases HK.out key hh with h|h
     ·rw[hl0]at h;cases h
     ·exact h))
   have HZ:=aA HM.out.size;clear hc0 hl0;go_wp2_with (first|(at_len;refine wpList_len_own _ rfl _ 162 rfl 9 3 Tryz.underlying162 _ b n M rfl HG.out.owns ?_)|go_in)
   go_ret;refine⟨?_,HB1.out⟩;rw[HF.out,HZ.out,Bool.true_and];simp;omega
  ·intro x q l y yp w2 cnt2 hkey hlx hval hat hrg2 hlt2 hg2 hs2 hen;obtain⟨x',ex,rfl⟩:=kAu hkey;obtain rfl:x=x':=by injection ex
   obtain⟨q',eq',hy,_⟩:=plainElem_int_inv Tryz.underlying3 hval;obtain rfl:q=q':=by injection eq'
   have hq:q=(bK (W.ss.flatMap (·.wr)) x:Int):=by
    have h1:=hat (.lit (.int .i64 0));rw[HM.out.at_ x,(Prod.mk.inj hy).1]at h1;exact(lF h1).symm
   subst hq;have HH:=aA hrg2;have HB2:=aA (HB1.out.grown hg2 HB1.out.size (fun k hk=>by injection hk with hk;omega));have HLQ:=aA (show wr.rangeLeft b w1.heap.size=cnt from HG.out.left_eq);clear hrg2 hg2 hs2 hkey hlx hval hat ex eq' hy
   by_cases hgt:1<bK (W.ss.flatMap (·.wr)) x
   ·have HP:=aA (kA3 hgt);have e1:decide ((1:Int)<(bK (W.ss.flatMap (·.wr)) x:Int))=true:=cF (by omega);have e2:decide (1<bK (W.ss.flatMap (·.wr)) x)=true:=cF hgt;go_wp2;go_ret;exact⟨by rw[HP.out];rfl,HB2.out⟩
   ·have e1:decide ((1:Int)<(bK (W.ss.flatMap (·.wr)) x:Int))=false:=aY (by omega);have e2:decide (1<bK (W.ss.flatMap (·.wr)) x)=false:=aY hgt;have HX:=aA hgt;clear hgt;go_wp2;go_roundw
    case rel=>
     refine⟨_,_,HH.out,fun key hk=>?_,HB2.out⟩
     by_cases e:key=x
     ·subst e;exact .inr (by have:=HX.out;omega)
     ·rcases HK.out key hk with h|h
      ·left;rw[h,sameKey_ne (vU e)];rfl
      ·exact .inr h
    case measure=>rw[HH.out.left_eq,HLQ.out];exact hlt2
end Go.Proofs.YtpbaobmegomfpabGreatDoor
namespace Go.Proofs.YtpbaobmegomfpabGreatDoor
open Go.RowKit
def GoodTo (l:PL)(kind:Int)(k:Nat):Prop:=(∀j (h:j<l.length),j<k->bZ kind l[j].1 l[j].2=0)/\ ∀j (h:j+1<l.length),j+1<k->bP l[j].1 l[j+1].1=true
theorem GoodTo.zero {l:PL}{kind:Int}{k:Nat}(h:GoodTo l kind k)(hk:k=0){hlt:k<l.length}(hc:bZ kind l[k].1 l[k].2=0):GoodTo l kind (k+1):=by
 subst hk;refine⟨fun j hj hjk=>?_,fun j hj hjk=>by omega⟩;obtain rfl:j=0:=by omega
 exact hc
theorem GoodTo.succ {l:PL}{kind:Int}{k:Nat}(h:GoodTo l kind k)(hk:k≠0){hlt:k<l.length}(hc:bZ kind l[k].1 l[k].2=0)(hq:bP l[k-1].1 l[k].1=true):GoodTo l kind (k+1):=by
 refine⟨fun j hj hjk=>?_,fun j hj hjk=>?_⟩
 ·by_cases e:j=k
  ·subst e;exact hc
  ·exact h.1 j hj (by omega)
 ·by_cases e:j+1=k
  ·subst e;exact hq
  ·exact h.2 j hj (by omega)
theorem GoodTo.all {l:PL}{kind:Int}{k most:Nat}(h:GoodTo l kind k)(hk:l.length<=k)(hm:l.length<=most):cD l most kind=true:=
 zAc (fun j hj=>h.1 j hj (by omega)) (fun j hj=>h.2 j hj (by omega)) hm
theorem jAy {l:PL}{most:Nat}{kind:Int}{k:Nat}(hk:k<l.length)(h0:k≠0)(h:bP l[k-1].1 l[k].1=false):cD l most kind=false:=by
 obtain⟨j,rfl⟩: ∃j,k=j+1:=⟨k-1,by omega⟩;exact zAf hk h
theorem jAz {a b:ByteArray}(h:bP b a=false):(Op.bytesLess a.toList b.toList||a.toList==b.toList)=true:=by
 cases h1:bP a b
 ·have:=rW h h1;subst this;simp
 ·unfold bP at h1;rw[h1];rfl
theorem uA0 {a b:ByteArray}(h:bP b a=true):Op.bytesLess a.toList b.toList=false/\(a.toList==b.toList)=false:=
 ⟨zB h,fF.2 (fun e=>hU h e.symm)⟩
def uA1 (w:World)(l:PL)(kind:Int)(k:Nat)(wr:World):Prop:=GoodTo l kind k/\Below w.heap.size w wr
theorem dE (v:Value)(l:PL)(kind:Int)(limit:Nat)(w:World)(hl:Lst w w.heap.size v l)(hW:Words w)(hlim:limit<=1000):
  Calls Tryz.prog 90 #[v,.int .i64 kind,.int .i64 limit] w fun e w'=>e= .returned (.bool (cD l limit kind))/\Below w.heap.size w w':=by
 obtain⟨A,c,rfl,hc⟩:=hl.form;have hby:=hl.bytes;have HL:=aA hl;have HW:=aA hW;clear hl hW
 by_cases hlen:l.length<=limit
 ·have hd:decide ((limit:Int)<(l.length:Int))=false:=aY (by omega);have hd':decide (limit<l.length)=false:=aY (by omega);go_enter Tryz.func90,Tryz.ntmps90;go_wp2
  go_loopw [15] (fun i wr=> ∃k:Nat,k<=l.length/\i= .int .i64 k/\uA1 w l kind k wr) (fun i _=>l.length-(intOf i).toNat)
  case atStart=>exact⟨0,by omega,rfl,⟨fun j _ h=>by omega,fun j _ h=>by omega⟩,aD _ _⟩
  case round=>
   obtain⟨k,hk,rfl,good,bel⟩:=hrel
   by_cases hlt:k<l.length
   ·obtain⟨b,off,rfl,hb,c0,c1⟩:=HL.out.pt hlt;obtain⟨z0,z1⟩:=HL.out.key hlt;have d0:=(bel.cell (p:=⟨b,off+k*2,none⟩) hb).trans c0;have d1:=(bel.cell (p:=⟨b,off+k*2+1,none⟩) hb).trans c1;have hbw:b<wr.heap.size:=bD hb bel.size;have HG:=aA good;have HB:=aA bel;clear good bel c0 c1
    by_cases hk0:k=0
    ·have g0:decide ((0:Int)<(k:Int))=false:=aY (by omega);have g1:decide (0<k)=false:=aY (by omega);have HK:=aA hk0;clear hk0;go_wp2
     go_quiet (fail)
     go_wp2_with fail;have B1:=aZ (HB.out.alloc HB.out.size (.cells #[.string l[k].1,.string l[k].2] 60)) nq
     by_cases hce:bZ kind l[k].1 l[k].2=0
     ·have HC:=aA hce;clear hce;refine(nQ kind l[k].1 l[k].2 _ (by unfold maxLen;omega) (by unfold maxLen;omega) (HW.out.below B1)).mono ?_;rw[HC.out];rintro e w2 ⟨rfl,hb2⟩;go_wp2;go_roundw
      case rel=>exact⟨k+1,by omega,by go_num,HG.out.zero HK.out HC.out,bU B1 hb2⟩
      case measure=>simp[intOf];omega
     ·have HP:=aA (zF (most:=limit) hlt hce);have hne:(bZ kind l[k].1 l[k].2 !=0)=true:=eP.2 hce;clear hce;refine(nQ kind l[k].1 l[k].2 _ (by unfold maxLen;omega) (by unfold maxLen;omega) (HW.out.below B1)).mono ?_;rintro e w2 ⟨rfl,hb2⟩;go_wp2;go_ret;exact⟨by rw[HP.out];rfl,bU B1 hb2⟩
    ·obtain⟨b',off',e',_,c0',_⟩:=HL.out.pt (k:=k-1) (by omega);obtain⟨rfl,rfl⟩:b=b'/\off=off':=(by injection e' with e';injection e' with e1 e2;exact⟨e1,e2⟩);clear e';have d0':=(HB.out.cell (p:=⟨b,off+(k-1)*2,none⟩) hb).trans c0';have g0:decide ((0:Int)<(k:Int))=true:=cF (by omega);have g1:decide (0<k)=true:=cF (by omega);have q1:IntKind.i64.wrap ((k:Int)-1)=(k:Int)-1:=IntWalk.i64_in _ (by omega);have q2:((k:Int)-1).toNat=k-1:=(by omega);have q3:(0:Int)<=(k:Int)-1:=(by omega);have q4:(1:Int)<=(k:Int):=(by omega);have q5:(k:Int)-1<(l.length:Int):=(by omega);clear c0'
     cases hq:bP l[k-1].1 l[k].1
     ·have HP:=aA (jAy (most:=limit) (kind:=kind) hlt hk0 hq);have e1:=jAz hq;clear hq;go_wp2
      go_quiet (fail)
      go_wp2;go_ret;exact⟨by rw[HP.out];rfl,aZ (HB.out.alloc HB.out.size _) nq⟩
     obtain⟨e1,e2⟩:=uA0 hq;have HQ:=aA hq;clear hq;go_wp2
     go_quiet (fail)
     go_wp2_with fail;have B1:=aZ (HB.out.alloc HB.out.size (.cells #[.string l[k].1,.string l[k].2] 60)) nq
     by_cases hce:bZ kind l[k].1 l[k].2=0
     ·have HC:=aA hce;clear hce;refine(nQ kind l[k].1 l[k].2 _ (by unfold maxLen;omega) (by unfold maxLen;omega) (HW.out.below B1)).mono ?_;rw[HC.out];rintro e w2 ⟨rfl,hb2⟩;go_wp2;go_roundw
      case rel=>exact⟨k+1,by omega,by go_num,HG.out.succ hk0 HC.out HQ.out,bU B1 hb2⟩
      case measure=>simp[intOf];omega
     ·have HP:=aA (zF (most:=limit) hlt hce);have hne:(bZ kind l[k].1 l[k].2 !=0)=true:=eP.2 hce;clear hce;refine(nQ kind l[k].1 l[k].2 _ (by unfold maxLen;omega) (by unfold maxLen;omega) (HW.out.below B1)).mono ?_;rintro e w2 ⟨rfl,hb2⟩;go_wp2;go_ret;exact⟨by rw[HP.out];rfl,bU B1 hb2⟩
   ·have HP:=aA (good.all (by omega) hlen);go_wp2;go_ret;exact⟨by rw[HP.out];rfl,bel⟩
 ·have hd:decide ((limit:Int)<(l.length:Int))=true:=cF (by omega);have HP:=aA (zAe (kind:=kind) hlen);go_enter Tryz.func90,Tryz.ntmps90;go_wp2;go_ret;exact⟨by rw[HP.out];rfl,aD _ _⟩
end Go.Proofs.YtpbaobmegomfpabGreatDoor

/-
  Texts of the proof.
-/
import Derived.Test.YtpbaobmegomfpabGreatDoorG2
set_option linter.unusedVariables false
set_option linter.unusedSimpArgs false
set_option maxRecDepth 100000
set_option maxHeartbeats 16000000
open List renaming getElem_cons_zero→aB,getElem_cons_succ→aC
open Nat renaming le_refl→aI,lt_of_lt_of_le→bD,le_trans→bL
open Go.Lib renaming hid→aA
open Go.RowKit.Below renaming refl→aD
open Go.World renaming cell?_of_block→aV,frozen?_of_block→iR
open And renaming intro→aJ
open Go renaming bodyPost_ret→bE,below_drewN→aZ
namespace Go.Proofs.YtpbaobmegomfpabGreatDoor
open Go.RowKit
theorem zAt (g c pb po:Nat)(l:PL)(k:Int)(key val:ByteArray)(limit:Nat)(w:World)(ho:OwnL w g c l)(hr:bG l=true)(hn:l.length<=1000)(hs:Sz l)
  (hp:w.cell? ⟨pb,po,none⟩=some (.slice (some ⟨g,0,none⟩) l.length c)) (hpf:w.frozen? ⟨pb,po,none⟩=false) (hne:pb≠g) (hk:key.size<=140737488351232) (hv:val.size<=140737488351232) (hf:aM l key=true):
  Calls Tryz.prog 70 #[.pointer (some ⟨pb,po,none⟩),.agg #[.int .i64 k,.string key,.string val],.int .i64 limit] w (sH w g pb po (cI l key val)):=by
 have HI:=aA (fun(w9:World) (h9:OwnL w9 g c l)=>vS g c l key val w9 h9 hr hn hs);have HF:=aA hf;clear hf;have hpb:pb<w.heap.size:=World.block_lt_of_cell? w _ hp;have b0:Below w.heap.size w ((w.alloc (.cells #[.int .i64 k,.string key,.string val] 41)).alloc (.cells #[.int .i64 0,.string ⟨#[]⟩,.int .i64 0] 46)):=((aD _ _).alloc (aI _) _).alloc (by simp) _;have HL:=aA (ho.lst hn hs);have HR:=aA hr;have HO:=aA ho;have hgw:=ho.row.lt;clear ho hr hs;go_enter Tryz.func70,Tryz.ntmps70;go_wp2;have q0:=(b0.cell (p:=⟨pb,po,none⟩) hpb).trans hp;have q1:((w.alloc (.cells #[.int .i64 k,.string key,.string val] 41)).alloc (.cells #[.int .i64 0,.string ⟨#[]⟩,.int .i64 0] 46)).cell? ⟨w.heap.size,1,none⟩=some (.string key):=by simp[go_sem]
 have q2:((w.alloc (.cells #[.int .i64 k,.string key,.string val] 41)).alloc (.cells #[.int .i64 0,.string ⟨#[]⟩,.int .i64 0] 46)).cell? ⟨w.heap.size,2,none⟩=some (.string val):=by simp[go_sem]
 have X0:Hid (RowTo ((w.alloc (.cells #[.int .i64 k,.string key,.string val] 41)).alloc (.cells #[.int .i64 0,.string ⟨#[]⟩,.int .i64 0] 46)) (w.heap.size+1) 46 3 [.int .i64 0,.string ⟨#[]⟩,.int .i64 0]):=by
  have:=RowTo.whole (w.alloc (.cells #[.int .i64 k,.string key,.string val] 41)) #[.int .i64 0,.string ⟨#[]⟩,.int .i64 0] 46;exact aA (by simpa using this)
 have hz:((w.alloc (.cells #[.int .i64 k,.string key,.string val] 41)).alloc (.cells #[.int .i64 0,.string ⟨#[]⟩,.int .i64 0] 46)).heap.size=w.heap.size+1+1:=by simp
 have B0:=aA b0;clear b0;generalize((w.alloc (.cells #[.int .i64 k,.string key,.string val] 41)).alloc (.cells #[.int .i64 0,.string ⟨#[]⟩,.int .i64 0] 46))=W0 at*;have hz0:w.heap.size<W0.heap.size:=by omega
 have hz1:pb<W0.heap.size:=by omega
 have HZ:=aA hz;clear hz;have kb:=aD W0.heap.size W0;have dS:=aA (show W0.drew.cell? ⟨pb,po,none⟩=some (.slice (some ⟨g,0,none⟩) l.length c)/\W0.drew.cell? ⟨w.heap.size,1,none⟩=some (.string key)from⟨q0,q1⟩)
 go_region_held3 (fun wx=>wx.cell? ⟨pb,po,none⟩=some (.slice (some ⟨g,0,none⟩) l.length c)/\wx.cell? ⟨w.heap.size,1,none⟩=some (.string key))
  (first
   |with_reducible exact⟨q0,q1⟩
   |with_reducible exact dS.out
   | with_reducible exact ⟨(kb.cell (p := ⟨pb, po, none⟩) hz1).trans q0, (kb.cell (p := ⟨w.heap.size, 1, none⟩) hz0).trans q1⟩)
  (first
   | (
    go_at_call 95
    refine(jA _ l key _ (by first|exact(HL.out.step B0.out)|exact(HL.out.step B0.out.drew)|exact(HL.out.step (aZ B0.out _))) HR.out).mono ?_
    rw[HF.out];rintro e w8 ⟨rfl,hy⟩
    have kb : Below W0.heap.size W0 w8 := by first | exact kb.trans (hy.mono kb.size) | exact kb.trans ⟨hy.os, hy.tape, hy.output, hy.size, fun i hi => hy.block i (bD hi kb.size)⟩))
 have p0:=(kb.cell (p:=⟨pb,po,none⟩) hz1).trans q0;have p1:=(kb.cell (p:=⟨w.heap.size,1,none⟩) hz0).trans q1;have p2:=(kb.cell (p:=⟨w.heap.size,2,none⟩) hz0).trans q2;have KB:=aA kb;have B8:=aA (aR B0.out kb B0.out.size);have X8:=aA (X0.out.below kb X0.out.lt);have hs8:=kb.size;clear kb q0 q1 q2 dS;have O8:=aA (HO.out.below B8.out hgw);have pf:=(B8.out.frozen (p:=⟨pb,po,none⟩) hpb).trans hpf;have P8:=aA (aJ p0 (aJ p1 (aJ p2 pf)));have hw8:w.heap.size<w8.heap.size:=by omega
 have hpb8:pb<w8.heap.size:=by omega
 have hg8:g<w8.heap.size:=by omega
 clear hp hpf hy;go_wp2;have kb:=aD w8.heap.size w8
 go_region_with (first
  | (
   go_at_call 94
   refine(HI.out _ (by first|exact O8.out.below kb hg8|exact(O8.out.below kb hg8).same rfl)).mono ?_
   rintro e wB ⟨g',c',rfl,ho',hloc,hgr⟩;have hl8:g'=g\/w8.heap.size<=g':=hloc.imp id (fun h=>bL kb.size h);have hgB:w8.grownBy wB (some g):=by first|exact oP (jM kb _) hgr|exact oP (jM kb _) ⟨hgr.os,hgr.tape,hgr.output,hgr.size,hgr.block⟩
   have p0:wB.cell? ⟨pb,po,none⟩=some (.slice (some ⟨g,0,none⟩) l.length c):=(aV (hgB.block pb hpb8 (fun e=>hne (by injection e)))).trans P8.out.1
   have pf : wB.frozen? ⟨pb, po, none⟩ = false := (iR (hgB.block pb hpb8 (fun e => hne (by injection e)))).trans P8.out.2.2.2)
  | (
   go_at_call_of 46 (Value.string key)
   refine(jT key _ (by omega)).mono ?_;rintro e wA ⟨rfl,hy⟩;have kb:Below w8.heap.size w8 wA:=by first|exact kb.trans (hy.mono kb.size)|exact kb.trans ⟨hy.os,hy.tape,hy.output,hy.size,fun i hi=>hy.block i (bD hi kb.size)⟩
   have p0:=(kb.cell (p:=⟨pb,po,none⟩) hpb8).trans P8.out.1;have p1:=(kb.cell (p:=⟨w.heap.size,1,none⟩) hw8).trans P8.out.2.1
   have p2 := (kb.cell (p := ⟨w.heap.size, 2, none⟩) hw8).trans P8.out.2.2.1)
  | (
   go_at_call_of 46 (Value.string val)
   refine(jT val _ (by omega)).mono ?_;rintro e wA ⟨rfl,hy⟩;have kb:Below w8.heap.size w8 wA:=by first|exact kb.trans (hy.mono kb.size)|exact kb.trans ⟨hy.os,hy.tape,hy.output,hy.size,fun i hi=>hy.block i (bD hi kb.size)⟩
   have p0:=(kb.cell (p:=⟨pb,po,none⟩) hpb8).trans P8.out.1;have p1:=(kb.cell (p:=⟨w.heap.size,1,none⟩) hw8).trans P8.out.2.1
   have p2 := (kb.cell (p := ⟨w.heap.size, 2, none⟩) hw8).trans P8.out.2.2.1))
 all_goals
  have HZ8:=aA (aJ ho' (aJ hl8 hgB));clear ho' hl8 hgB hloc hgr p0 pf;have X9:=aA ((X8.out.same (HZ8.out.2.2.block _ X8.out.lt (fun e=>by injection e;omega))).other (p:=⟨pb,po,none⟩) (by show pb≠_;omega) (.slice (some ⟨g',0,none⟩) (cI l key val).length c'));go_wp2_with fail;refine(oQ _).mono ?_;rintro e w9 ⟨rfl,hb9⟩;have XX:=X9.out.below hb9 X9.out.lt;have r0:=XX.cell (j:=0) (by simp);have r1:=XX.cell (j:=1) (by simp);have r2:=XX.cell (j:=2) (by simp);have s0:=XX.frozen 0;have s1:=XX.frozen 1;have s2:=XX.frozen 2;simp only[aB,aC]at r0 r1 r2;have H9:=aA hb9;clear XX hb9;unfold bQ;go_wp2;refine bE (v:= .agg #[.int .i64 1,.string ⟨#[]⟩,.int .i64 0]) (by simp[results,Tryz.results70,go_sem,r0,r1,r2]) rfl ?_;exact zT B8.out rfl (by have:=HZ.out;omega) hpb hgw hne HZ8.out.2.2 HZ8.out.1 HZ8.out.2.1 H9.out
end Go.Proofs.YtpbaobmegomfpabGreatDoor

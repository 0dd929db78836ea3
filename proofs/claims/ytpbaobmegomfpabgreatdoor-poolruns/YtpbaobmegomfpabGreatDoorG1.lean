/-
  Texts of the proof.
-/
import Derived.Test.YtpbaobmegomfpabGreatDoorRows
import Derived.LaidByTextLater
import Derived.SevenTiedAt
import Derived.LaidSub
import Derived.LaidOnce
import Derived.OrdersHeld
import Derived.Deep.RegionHeld
import Derived.WalkKit
import Derived.Lib.Bytealg
import Derived.Below
import Derived.Lib.Hide
import Derived.Deep.Draws
import Derived.Laws.OwnMore
import Derived.Deep.QuietTactic
import Derived.BigQuiet
import Derived.IntWalk
import Derived.WalkSmall
import Derived.Maps.AppendAt
import Derived.OwnWalk
import Derived.Shelf.Spec.SlicesInsert
import Derived.Lib.AppendZerosOnto
set_option linter.unusedVariables false
set_option linter.unusedSimpArgs false
set_option maxRecDepth 100000
set_option maxHeartbeats 16000000
open List renaming getElem_cons_zero→aB,getElem_cons_succ→aC,set_cons_zero→aG,set_cons_succ→aF,getElem?_eq_getElem→dP,take_succ_eq_append_getElem→gO,getElem?_eq_some_iff→fN,length_append→eN,length_set→fI,length_cons→fC,length_take→gK,mem_cons_of_mem→iZ,take_of_length_le→jR
open Nat renaming le_refl→aI,le_trans→bL,le_of_lt→dM,zero_add→cW
open Go.Lib renaming hid→aA
open Go.RowKit.Below renaming refl→aD,heap_setCell→bF
open Go.World renaming cell?_of_block→aV,setCell→cE,cell?_setCell_other→jS
open And renaming intro→aJ
open Go.Act renaming put→aQ
open Classical renaming byContradiction→gP
open Bool renaming and_eq_true→eB,or_eq_true→fO
open Go renaming below_drewN→aZ
namespace Go.Proofs.YtpbaobmegomfpabGreatDoor
open Go
theorem yAl:Tryz.prog.laidByTextLater [("math/bits.deBruijn32tab",Rows.laid_math_bits_deBruijn32tab),("math/bits.deBruijn64tab",Rows.laid_math_bits_deBruijn64tab),("internal/strconv.uint64pow10",Rows.laid_internal_strconv_uint64pow10),("tillerman/say.words",Rows.laid_tillerman_say_words),("tillerman/say.leads",Rows.laid_tillerman_say_leads)] [.data,.data,.data,.data,.data] true:=
  Program.laidByTextLater_by_one 34 8 65 (by kernel_rfl) (by kernel_rfl) (by kernel_rfl) (by kernel_rfl) (by kernel_rfl) (by kernel_rfl) (fun _ _=>by kernel_rfl)
theorem yAm:Tryz.pinned.checked.prog.headLifts.contains "ownunsafe" =false:=by kernel_rfl
theorem tie:Tryz.prog.laidByTextLater [("tillerman/say.words",Rows.laid_tillerman_say_words),("tillerman/say.leads",Rows.laid_tillerman_say_leads)] [.data,.data] true:=
  Program.laidByTextLater.sub yAl ["tillerman/say.words", "tillerman/say.leads"] (by kernel_rfl) (by kernel_rfl)
theorem yAn:Rows.poolRunsRow.laidByTextAt .later Tryz.pinned [.data,.data] true:=
  OpenClaim.laidByTextAt_later rfl rfl tie yAm
section
variable {P:Program}{ops:Array Oper}{Q:Exit->Go.Act->World->Prop}{md:Region.Mode}{S:World->Prop}{z:Nat}
def cQ (P:Program)(md:Region.Mode)(ops:Array Oper)(Q:Exit->Go.Act->World->Prop)(S:World->Prop)(z:Nat):Nat->Array Bool->Go.Act->World->Prop
 |0,listed,a,w=>Region.ready md ops listed=[]/\Q .normal a w
 |fuel+1,listed,a,w=>
  (Region.ready md ops listed=[]->Q .normal a w)/\
  ∀i∈Region.ready md ops listed,wpOp P ops Q i (fun a' w'=>(i≠z->S w')/\cQ P md ops Q S z fuel (listed.setIfInBounds i true) a' w') a w
theorem uV: ∀(fuel:Nat) (listed:Array Bool) (a:Go.Act) (w:World),cQ P md ops Q S z fuel listed a w->wpAny P md ops Q fuel listed a w
 |0,_,_,_,h=>h
 |fuel+1,_,_,_,h=>⟨h.1,fun i hi=>wpOp_mono (fun a' w' h'=>uV fuel _ a' w' h'.2) (h.2 i hi)⟩
def gX (md:Region.Mode)(ops:Array Oper)(z i:Nat):Bool:=match ops[z]? with
 |some oz=>oz.after.any fun e=>Region.binds md e&&e.on==i
 |none=>false
theorem yAo {i:Nat}{oi:Oper}{v:Value}(hi:ops[i]? =some oi)(hsel: ∀(j:Nat) (o:Oper) cs b,ops[j]? =some o->o.op≠ .select cs b)(hz:gX md ops z i=true)(hiz:i≠z)
  (hQ: ∀c a w,Q (.panic c) (a.put oi.dst v) w->Q (.panic c) a w):
  ∀(fuel:Nat) (listed:Array Bool) (a:Go.Act) (w:World),
   (∀j oj,ops[j]? =some oj->j≠i->listed.getD j true=false->(∀e∈oj.after,Region.binds md e=true->e.on≠i)->oi.apart ops oj=true)->
   i∈Region.ready md ops listed->YieldsIf P ops S oi v a->S w->
   cQ P md ops Q S z fuel (listed.setIfInBounds i true) (a.put oi.dst v) w->cQ P md ops Q S z (fuel+1) listed a w:=by
 intro fuel
 induction fuel with
 |zero=>
  intro listed a w _ hr hy hS H;refine⟨fun h=>(by rw[h]at hr;cases hr),fun j hj=>?_⟩
  by_cases hji:j=i
  ·subst hji;exact hy.wpOp hi hS ⟨fun _=>hS,H⟩
  ·have:=ready_mono hj hji;rw[H.1]at this
   cases this
 |succ fuel ih=>
  intro listed a w hfree hr hy hS H;refine⟨fun h=>(by rw[h]at hr;cases hr),fun j hj=>?_⟩
  by_cases hji:j=i
  ·subst hji;exact hy.wpOp hi hS ⟨fun _=>hS,H⟩
  ·have h1:=H.2 j (ready_mono hj hji);obtain⟨hjun,oj,hoj,hall⟩:=mem_ready.1 hj
   have hnot: ∀e∈oj.after,Region.binds md e=true->e.on≠i:=fun e he hb heq=>by
    have h1:=hall e he hb;have h0:=(mem_ready.1 hr).1;rw[heq]at h1;rcases Nat.lt_or_ge i listed.size with h'|h'
    ·simp[h']at h0 h1;rw[h0]at h1;cases h1
    ·simp[Array.getElem?_eq_none h']at h1
   have hjz:j≠z:=fun e=>by
    unfold gX at hz;rw[<-e,hoj]at hz;simp only[Array.any_eq_true']at hz;obtain⟨x,hx,hb⟩:=hz;simp only[eB,beq_iff_eq]at hb;exact hnot x hx hb.1 hb.2
   have h2:=wpOp_putIf hoj (hfree j oj hoj hji hjun hnot) (fun cs b=>hsel i oi cs b hi) (fun cs b=>hsel j oj cs b hoj) hQ hy h1
   have hfree': ∀k ok,ops[k]? =some ok->k≠i->(listed.setIfInBounds j true).getD k true=false->
     (∀e∈ok.after,Region.binds md e=true->e.on≠i)->oi.apart ops ok=true:=fun k ok hk hki hun hno=>by
    refine hfree k ok hk hki ?_ hno
    by_cases hjk:j=k
    ·subst hjk;exact hjun
    ·rw[getD_set_ne true hjk]at hun;exact hun
   refine wpOp_mono (fun a' w' h3=>⟨h3.2.1,ih (listed.setIfInBounds j true) a' w' hfree' (ready_mono hr (Ne.symm hji)) h3.1 (h3.2.1 hjz) ?_⟩) h2;rw[Array.setIfInBounds_comm _ _ hji];exact h3.2.2
theorem iI {i:Nat}{oi:Oper}{v:Value}{fuel:Nat}{listed:Array Bool}{a:Go.Act}{w:World}(hi:ops[i]? =some oi)
  (hs:Region.noSelect ops=true) (hf:Region.free md ops listed i=true) (hr:(Region.ready md ops listed).contains i=true) (hz:(gX md ops z i&&i !=z)=true)
  (hQ: ∀c a w,Q (.panic c) (a.put oi.dst v) w->Q (.panic c) a w) (hy:YieldsIf P ops S oi v a) (hS:S w)
  (h:cQ P md ops Q S z fuel (listed.setIfInBounds i true) (a.put oi.dst v) w):cQ P md ops Q S z (fuel+1) listed a w:=
 yAo hi (Region.noSelect_spec hs) (by simp only[eB]at hz;exact hz.1) (by simp only[eB,bne_iff_ne]at hz;exact hz.2) hQ fuel listed a w (Region.free_spec hi hf) (by simpa using hr) hy hS h
theorem yAp {i:Nat}{o:Oper}{fuel:Nat}{listed:Array Bool}{a:Go.Act}{w:World}(ho:ops[i]? =some o)(hg:o.guard=none)(hr:Region.ready md ops listed=[i])
  (h: ∀K':Go.Act->World->Prop,Shut (∀a w,S w->cQ P md ops Q S z fuel (listed.setIfInBounds i true) a w->K' a w)->Oper.wp P o a w K' Q):cQ P md ops Q S z (fuel+1) listed a w:=by
 refine⟨fun h0=>(by rw[hr]at h0;cases h0),fun j hj=>?_⟩;rw[hr]at hj;obtain rfl:=List.mem_singleton.1 hj;refine wpOp_step ho fun K' hK=>?_
 rw[if_pos (by simp[Region.wanted,hg])];exact h K' (fun a w hS hW=>hK a w ⟨fun _=>hS,hW⟩)
theorem yAq {o:Oper}{fuel:Nat}{listed:Array Bool}{a:Go.Act}{w:World}(ho:ops[z]? =some o)(hg:o.guard=none)(hr:Region.ready md ops listed=[z])(hr':Region.ready md ops (listed.setIfInBounds z true)=[])
  (h: ∀K':Go.Act->World->Prop,Shut (∀a w,Q .normal a w->K' a w)->Oper.wp P o a w K' Q):cQ P md ops Q S z (fuel+1) listed a w:=by
 refine⟨fun h0=>(by rw[hr]at h0;cases h0),fun j hj=>?_⟩;rw[hr]at hj;obtain rfl:=List.mem_singleton.1 hj;refine wpOp_step ho fun K' hK=>?_
 rw[if_pos (by simp[Region.wanted,hg])];refine h K' (fun a w hq=>hK a w ⟨fun hne=>absurd rfl hne,?_⟩)
 cases fuel with
 |zero=>exact⟨hr',hq⟩
 |succ n=>exact⟨fun _=>hq,by rw[hr'];simp⟩
theorem eF (z:Nat)(S:World->Prop){id:Nat}{a:Go.Act}{w:World}(hm:P.follows .mixedOrders=true)(hS:S w.drew)
  (h:S w.drew->cQ P .any ops Q S z ops.size (Array.replicate ops.size false) a w.drew):(Code.region id ops true).wp P Q a w:=
 wp_region_any hm (uV _ _ _ _ (h hS))
end
section
variable {P:Program}{ops:Array Oper}{Q:Exit->Go.Act->World->Prop}{md:Region.Mode}{S:World->Prop}{z:Nat}
theorem yO {i:Nat}{o:Oper}{fuel:Nat}{listed:Array Bool}{a:Go.Act}{w:World}(ho:ops[i]? =some o)(hg:Region.wanted o (yielded ops a.tmps)=true)(hr:Region.ready md ops listed=[i])
  (h: ∀K':Go.Act->World->Prop,Shut (∀a w,S w->cQ P md ops Q S z fuel (listed.setIfInBounds i true) a w->K' a w)->Oper.wp P o a w K' Q):cQ P md ops Q S z (fuel+1) listed a w:=by
 refine⟨fun h0=>(by rw[hr]at h0;cases h0),fun j hj=>?_⟩;rw[hr]at hj;obtain rfl:=List.mem_singleton.1 hj;refine wpOp_step ho fun K' hK=>?_
 rw[if_pos hg];exact h K' (fun a w hS hW=>hK a w ⟨fun _=>hS,hW⟩)
theorem yAr {md:Region.Mode}{ops:Array Oper}{z i:Nat}(hz:gX md ops z i=true): ∃oz,ops[z]? =some oz/\ ∃e∈oz.after,Region.binds md e=true/\e.on=i:=by
 unfold gX at hz
 cases ho:ops[z]? with
 |none=>rw[ho]at hz;cases hz
 |some oz=>
  rw[ho]at hz;simp only[Array.any_eq_true']at hz;obtain⟨x,hx,hb⟩:=hz;simp only[eB,beq_iff_eq]at hb;exact⟨oz,rfl,x,hx,hb.1,hb.2⟩
theorem uW {md:Region.Mode}{ops:Array Oper}{listed:Array Bool}{z i:Nat}(hz:gX md ops z i=true)(hi:listed.getD i true=false):z ∉ Region.ready md ops listed:=fun hm=>by
 obtain⟨oz,ho,e,he,hb,hon⟩:=yAr hz;obtain⟨_,o',ho',hall⟩:=mem_ready.1 hm;rw[ho]at ho';injection ho' with ho';subst ho';have h1:=hall e he hb;rw[hon]at h1;rcases Nat.lt_or_ge i listed.size with h'|h'
 ·simp[h']at hi h1;rw[hi]at h1;cases h1
 ·simp[Array.getElem?_eq_none h']at h1
theorem yAs {i:Nat}{C:List Nat}{oi:Oper}{v:Value}(hi:ops[i]? =some oi)(hsel: ∀(j:Nat) (o:Oper) cs b,ops[j]? =some o->o.op≠ .select cs b)(hC: ∀c∈C,gX md ops c i=true\/ ∃d∈C,gX md ops c d=true)(hzC: ∃d∈C,gX md ops z d=true)(hiz:i≠z)
  (hQ: ∀c a w,Q (.panic c) (a.put oi.dst v) w->Q (.panic c) a w):
  ∀(fuel:Nat) (listed:Array Bool) (a:Go.Act) (w:World),
   (∀j oj,ops[j]? =some oj->j≠i->listed.getD j true=false->(∀e∈oj.after,Region.binds md e=true->e.on≠i)->oi.apart ops oj=true)->
   (∀c∈C,listed.getD c true=false)->i∈Region.ready md ops listed->YieldsIf P ops S oi v a->S w->
   cQ P md ops Q S z fuel (listed.setIfInBounds i true) (a.put oi.dst v) w->cQ P md ops Q S z (fuel+1) listed a w:=by
 intro fuel
 induction fuel with
 |zero=>
  intro listed a w _ _ hr hy hS H;refine⟨fun h=>(by rw[h]at hr;cases hr),fun j hj=>?_⟩
  by_cases hji:j=i
  ·subst hji;exact hy.wpOp hi hS ⟨fun _=>hS,H⟩
  ·have:=ready_mono hj hji;rw[H.1]at this
   cases this
 |succ fuel ih=>
  intro listed a w hfree hkl hr hy hS H;refine⟨fun h=>(by rw[h]at hr;cases hr),fun j hj=>?_⟩
  by_cases hji:j=i
  ·subst hji;exact hy.wpOp hi hS ⟨fun _=>hS,H⟩
  ·have h1:=H.2 j (ready_mono hj hji);obtain⟨hjun,oj,hoj,hall⟩:=mem_ready.1 hj;have hiun:=(mem_ready.1 hr).1
   have hnot: ∀e∈oj.after,Region.binds md e=true->e.on≠i:=fun e he hb heq=>by
    have h1:=hall e he hb;rw[heq]at h1;rcases Nat.lt_or_ge i listed.size with h'|h'
    ·simp[h']at hiun h1;rw[hiun]at h1;cases h1
    ·simp[Array.getElem?_eq_none h']at h1
   have hjz:j≠z:=fun e=>by obtain⟨d,hd,hw⟩:=hzC;exact uW hw (hkl d hd) (e▸hj)
   have hjC:j ∉ C:=fun hm=>by
    rcases hC j hm with hw|⟨d,hd,hw⟩
    ·exact uW hw hiun hj
    ·exact uW hw (hkl d hd) hj
   have h2:=wpOp_putIf hoj (hfree j oj hoj hji hjun hnot) (fun cs b=>hsel i oi cs b hi) (fun cs b=>hsel j oj cs b hoj) hQ hy h1
   have hfree': ∀k ok,ops[k]? =some ok->k≠i->(listed.setIfInBounds j true).getD k true=false->
     (∀e∈ok.after,Region.binds md e=true->e.on≠i)->oi.apart ops ok=true:=fun k ok hk hki hun hno=>by
    refine hfree k ok hk hki ?_ hno
    by_cases hjk:j=k
    ·subst hjk;exact hjun
    ·rw[getD_set_ne true hjk]at hun;exact hun
   have hkl': ∀c∈C,(listed.setIfInBounds j true).getD c true=false:=fun c hc=>by
    have hne:j≠c:=fun e=>(by subst e;exact hjC hc);rw[getD_set_ne true hne];exact hkl c hc
   refine wpOp_mono (fun a' w' h3=>⟨h3.2.1,ih (listed.setIfInBounds j true) a' w' hfree' hkl' (ready_mono hr (Ne.symm hji)) h3.1 (h3.2.1 hjz) ?_⟩) h2;rw[Array.setIfInBounds_comm _ _ hji];exact h3.2.2
theorem iS {i:Nat}(C:List Nat){oi:Oper}{v:Value}{fuel:Nat}{listed:Array Bool}{a:Go.Act}{w:World}(hi:ops[i]? =some oi)
  (hs:Region.noSelect ops=true) (hf:Region.free md ops listed i=true) (hr:(Region.ready md ops listed).contains i=true)
  (hz:((C.all fun c=>gX md ops c i||C.any fun d=>gX md ops c d)&&(C.any fun d=>gX md ops z d)&&(C.all fun c=>!(listed.getD c true))&&i !=z)=true)
  (hQ: ∀c a w,Q (.panic c) (a.put oi.dst v) w->Q (.panic c) a w) (hy:YieldsIf P ops S oi v a) (hS:S w)
  (h:cQ P md ops Q S z fuel (listed.setIfInBounds i true) (a.put oi.dst v) w):cQ P md ops Q S z (fuel+1) listed a w:=by
 simp only[eB,bne_iff_ne,Bool.not_eq_true',List.all_eq_true,List.any_eq_true,fO]at hz;exact yAs hi (Region.noSelect_spec hs) hz.1.1.1 hz.1.1.2 hz.2 hQ fuel listed a w (Region.free_spec hi hf) hz.1.2 (by simpa using hr) hy hS h
end
section
variable {P:Program}{ops:Array Oper}{Q:Exit->Go.Act->World->Prop}{md:Region.Mode}{S:World->Prop}{z:Nat}
theorem bY {o:Oper}{fuel:Nat}{listed:Array Bool}{a:Go.Act}{w:World}(h: ∀K':Go.Act->World->Prop,Shut (∀a w,Q .normal a w->K' a w)->Oper.wp P o a w K' Q)(ho:ops[z]? =some o:=by rfl)(hg:o.guard=none:=by rfl)(hr:Region.ready md ops listed=[z]:=by kernel_rfl)(hr':Region.ready md ops (listed.setIfInBounds z true)=[]:=by kernel_rfl):cQ P md ops Q S z (fuel+1) listed a w:=yAq ho hg hr hr' h
theorem cK {i:Nat}{o:Oper}{fuel:Nat}{listed:Array Bool}{a:Go.Act}{w:World}(h: ∀K':Go.Act->World->Prop,Shut (∀a w,S w->cQ P md ops Q S z fuel (listed.setIfInBounds i true) a w->K' a w)->Oper.wp P o a w K' Q)(ho:ops[i]? =some o:=by rfl)(hg:o.guard=none:=by rfl)(hr:Region.ready md ops listed=[i]:=by kernel_rfl):cQ P md ops Q S z (fuel+1) listed a w:=yAp ho hg hr h
theorem gQ {i:Nat}{oi:Oper}{v:Value}{fuel:Nat}{listed:Array Bool}{a:Go.Act}{w:World}(hv: ∀w,S w->(execOp a.eval oi).run P w= .ok (.value v) w)(hS:S w)(h:cQ P md ops Q S z fuel (listed.setIfInBounds i true) (a.put oi.dst v) w)(hi:ops[i]? =some oi:=by rfl)(hw:Region.wanted oi (yielded ops a.tmps)=true:=by rfl)
 (hs:Region.noSelect ops=true:=by kernel_rfl) (hf:Region.free md ops listed i=true:=by kernel_rfl) (hr:(Region.ready md ops listed).contains i=true:=by kernel_rfl) (hz:(gX md ops z i&&i !=z)=true:=by kernel_rfl) (hQ: ∀c a w,Q (.panic c) (a.put oi.dst v) w->Q (.panic c) a w:=by exact fun _ _ _ h=>h):cQ P md ops Q S z (fuel+1) listed a w:=iI hi hs hf hr hz hQ (Or.inl ⟨hw,hv⟩) hS h
theorem aY {p:Prop} [Decidable p] (h: ¬p):decide p=false:=decide_eq_false h
theorem cF {p:Prop} [Decidable p] (h:p):decide p=true:=decide_eq_true h
theorem bJ {α:Type} [BEq α] [LawfulBEq α] {a b:α}:(a==b)=false ↔ a≠b:=beq_eq_false_iff_ne
theorem eP {α:Type} [BEq α] [LawfulBEq α] {a b:α}:(a !=b)=true ↔ a≠b:=bne_iff_ne
def Tk (_:List (Nat×List Nat))(G:Prop):Prop:=G
def tkc (md:Region.Mode)(ops:Array Oper)(listed:Array Bool)(z i:Nat):List Nat->Bool
 |[]=>gX md ops z i&&i !=z
 |c::C=>((c::C).all fun c'=>gX md ops c' i||(c::C).any fun d=>gX md ops c' d)&&((c::C).any fun d=>gX md ops z d)&&((c::C).all fun c'=>!(listed.getD c' true))&&i !=z
theorem dF (L:List (Nat×List Nat)){G:Prop}(h:Tk L G):G:=h
theorem dG {G:Prop}(h:G):Tk [] G:=h
theorem dH {i:Nat}{C:List Nat}{L:List (Nat×List Nat)}{oi:Oper}{v:Value}{fuel:Nat}{listed:Array Bool}{a:Go.Act}{w:World}(hS:S w)(hv: ∀w,S w->(execOp a.eval oi).run P w= .ok (.value v) w)
  (h:Tk L (cQ P md ops Q S z fuel (listed.setIfInBounds i true) (a.put oi.dst v) w)) (hi:ops[i]? =some oi:=by rfl) (hw:Region.wanted oi (yielded ops a.tmps)=true:=by rfl)
  (hs:Region.noSelect ops=true:=by kernel_rfl) (hf:Region.free md ops listed i=true:=by kernel_rfl) (hr:(Region.ready md ops listed).contains i=true:=by kernel_rfl) (hz:tkc md ops listed z i C=true:=by kernel_rfl)
  (hQ: ∀c a w,Q (.panic c) (a.put oi.dst v) w->Q (.panic c) a w:=by exact fun _ _ _ h=>h):Tk ((i,C)::L) (cQ P md ops Q S z (fuel+1) listed a w):=by
 cases C with
 |nil=>exact iI hi hs hf hr hz hQ (Or.inl ⟨hw,hv⟩) hS h
 |cons c C=>exact iS (c::C) hi hs hf hr hz hQ (Or.inl ⟨hw,hv⟩) hS h
end
end Go.Proofs.YtpbaobmegomfpabGreatDoor
namespace Go.Proofs.YtpbaobmegomfpabGreatDoor
open Go.RowKit
def eC (lo hi lim:Nat)(s:ByteArray):Bool:=decide (1<=s.size)&&decide (s.size<=lim)&&s.data.toList.all fun c=>decide (lo<=c.toNat)&&decide (c.toNat<=hi)
theorem uX {lo hi lim:Nat}{s:ByteArray}(h:s.size=0\/lim<s.size):eC lo hi lim s=false:=by
 unfold eC;rcases h with h|h
 ·rw[decide_eq_false (by omega)];rfl
 ·rw[decide_eq_false (p:=s.size<=lim) (by omega)];simp
theorem rM {lo hi lim:Nat}{s:ByteArray}{k:Nat}(hk:k<s.size)(h:s[k].toNat<lo\/hi<s[k].toNat):eC lo hi lim s=false:=by
 unfold eC
 have:(s.data.toList.all fun c=>decide (lo<=c.toNat)&&decide (c.toNat<=hi))=false:=by
  rw[List.all_eq_false];refine⟨s[k],?_,?_⟩
  ·have:s[k]=s.data.toList[k]'(by simpa using hk):=rfl;rw[this];exact List.getElem_mem _
  ·simp;omega
 rw[this];simp
theorem yP {lo hi lim:Nat}{s:ByteArray}(h1:1<=s.size)(h2:s.size<=lim)(h: ∀k (hk:k<s.size),lo<=s[k].toNat/\s[k].toNat<=hi):eC lo hi lim s=true:=by
 unfold eC;rw[decide_eq_true h1,decide_eq_true h2];simp only[Bool.true_and,List.all_eq_true];intro c hc;obtain⟨k,hk,rfl⟩:=List.getElem_of_mem hc;have:=h k (by simpa using hk);have e:s[k]'(by simpa using hk)=s.data.toList[k]:=rfl;rw[e]at this
 simpa using this
def lS (k:UInt8)(s:ByteArray):ByteArray:=⟨#[k,UInt8.ofNat s.size]⟩++s
def iJ (a n b:Int):Bool:=decide (a<=n)&&decide (n<=b)
theorem rN {a n b:Int}(h:a<=n/\n<=b):iJ a n b=true:=by simp[iJ,h]
theorem uY {a n b:Int}(h: ¬(a<=n/\n<=b)):iJ a n b=false:=by
 unfold iJ;by_cases h1:a<=n
 ·rw[decide_eq_false (p:=n<=b) (by omega)];simp
 ·rw[decide_eq_false h1];rfl
theorem yQ {k:IntKind}{a b:Int}(h:a=b):Ending.returned (.int k a)= .returned (.int k b):=by rw[h]
theorem rO (k:UInt8)(s:ByteArray):(lS k s).size=s.size+2:=by
 unfold lS;rw[ByteArray.size_append];show 2+s.size=_;omega
theorem kS {a b:ByteArray}(h:a.data.toList=b.data.toList):a=b:=by
 apply ByteArray.ext;exact Array.ext' h
def eV:List UInt8->Nat
 |[]=>0
 |c::l=>if c==32 then 0 else eV l+1
theorem yAt (l:List UInt8):eV l<=l.length:=by
 induction l with
 |nil=>exact aI _
 |cons c l ih=>unfold eV;split<;>simp<;>omega
theorem yAu (l:List UInt8):Lib.indexByte l 32=if eV l<l.length then(eV l:Int)else-1:=by
 induction l with
 |nil=>rfl
 |cons c l ih=>
  by_cases h:(c==32)=true
  ·have e1:Lib.indexByte (c::l) 32=0:=by unfold Lib.indexByte;rw[if_pos h]
   have e2:eV (c::l)=0:=by unfold eV;rw[if_pos h]
   rw[e1,e2,if_pos (by simp)];rfl
  ·have e1:Lib.indexByte (c::l) 32=if Lib.indexByte l 32== -1 then-1 else Lib.indexByte l 32+1:=by rw[Lib.indexByte,if_neg h]
   have e2:eV (c::l)=eV l+1:=by rw[eV,if_neg h]
   by_cases hb:eV l<l.length
   ·have ih':Lib.indexByte l 32=(eV l:Int):=(by rw[ih,if_pos hb]);rw[e1,ih',e2,fC,if_neg (by simp),if_pos (by omega)];rfl
   ·have ih':Lib.indexByte l 32= -1:=(by rw[ih,if_neg hb]);rw[e1,ih',e2,fC,if_pos (by rfl),if_neg (by omega)]
def fD (s:ByteArray):Nat:=eV s.data.toList
def aK (s:ByteArray):ByteArray:=s.extract 0 (fD s)
def cutB (s:ByteArray):ByteArray:=s.extract (fD s+1) s.size
def dK (s:ByteArray):Bool:=decide (fD s<s.size)
theorem kT (s:ByteArray):fD s<=s.size:=by have:=yAt s.data.toList;simpa [fD] using this
theorem yAv (s:ByteArray):Lib.indexByte s.data.toList 32=if dK s then(fD s:Int)else-1:=by
 rw[yAu];unfold dK fD;simp only[decide_eq_true_eq,Array.length_toList];rfl
theorem uZ {s:ByteArray}(h:fD s=s.size):aK s=s:=by
 unfold aK;rw[h];apply kS;simp
theorem rP {s:ByteArray}(h:fD s=s.size):cutB s=⟨#[]⟩:=by
 unfold cutB;rw[h];apply kS;simp
theorem oH (s:ByteArray):(aK s).size=fD s:=by
 unfold aK;rw[ByteArray.size_extract];have:=kT s;omega
theorem iO (s:ByteArray):(cutB s).size=s.size-(fD s+1):=by
 unfold cutB;rw[ByteArray.size_extract];omega
def gD:Nat->List UInt8
 |1=>[98,101,103,105,110]
 |2=>[99,111,109,109,105,116]
 |3=>[114,111,108,108,98,97,99,107]
 |4=>[114,101,115,101,116]
 |5=>[102,97,105,108]
 |6=>[103,101,116]
 |7=>[114,101,97,100]
 |8=>[101,120,101,99]
 |9=>[115,101,116]
 |10=>[112,117,116]
 |11=>[112,114,101,112]
 |_=>[]
def gS (k:Nat):ByteArray:=⟨(gD k).toArray⟩
theorem vA (k:Nat):(gS k).data.toList=gD k:=by simp[gS]
def pZ (l:List UInt8):Nat:=((List.range 12).find? fun k=>decide (1<=k)&&(gD k==l)).getD 0
def aU (s:ByteArray):Nat:=pZ s.data.toList
theorem yAw: ∀k,k<=11->1<=k->pZ (gD k)=k:=by decide
theorem yR {s:ByteArray}{k:Nat}(h1:1<=k)(h2:k<=11)(h:gD k=s.data.toList):aU s=k:=by
 unfold aU;rw[<-h];exact yAw k h2 h1
theorem yAx {s:ByteArray}(h: ∀k,1<=k->k<=11->gD k≠s.data.toList):aU s=0:=by
 unfold aU pZ;rw[List.find?_eq_none.2]
 ·rfl
 ·intro k hk;simp only[List.mem_range]at hk;simp only[eB,decide_eq_true_eq,beq_iff_eq,not_and];exact fun h1=>h k h1 (by omega)
theorem rQ (s:ByteArray):aU s<=11:=by
 unfold aU pZ
 cases hf:(List.range 12).find? fun k=>decide (1<=k)&&(gD k==s.data.toList)with
 |none=>simp
 |some k=>
  have:=List.mem_of_find?_eq_some hf;simp only[List.mem_range]at this;simp;omega
theorem qA {s:ByteArray}(h:1<=aU s):gD (aU s)=s.data.toList:=by
 unfold aU pZ at h ⊢
 cases hf:(List.range 12).find? fun k=>decide (1<=k)&&(gD k==s.data.toList)with
 |none=>rw[hf]at h;simp at h
 |some k=>
  have:=List.find?_some hf;simp only[eB,decide_eq_true_eq,beq_iff_eq]at this;simp[this.2]
def gL (t:ByteArray):Bool:=(dK t&&(aK (cutB t)).toList.isEmpty)||(dK (cutB t)&&(cutB (cutB t)).toList.isEmpty)
def dV (t:ByteArray):Int:=if aU (aK t)=0 then 3 else if gL t=true then 4 else 0
theorem rR {t:ByteArray}(h:dV t=0):aU (aK t)≠0/\gL t=false:=by
 unfold dV at h
 split at h
 ·omega
 ·rename_i h0
  split at h
  ·omega
  ·rename_i h1;exact⟨h0,by simpa using h1⟩
theorem vB {t:ByteArray}(h:aU (aK t)=0):dV t=3:=by unfold dV;rw[if_pos h]
theorem vC {t:ByteArray}(h:aU (aK t)≠0)(hb:gL t=true):dV t=4:=by unfold dV;rw[if_neg h,if_pos hb]
theorem yAy {t:ByteArray}(h:aU (aK t)≠0)(he:dV t≠0):gL t=true:=by
 unfold dV at he;rw[if_neg h]at he
 cases hb:gL t
 ·rw[hb]at he;simp at he
 ·rfl
theorem vD {t:ByteArray}(h:dK t=false):dK (cutB t)=false:=by
 have:=iO t;unfold dK at h ⊢;simp only[decide_eq_false_iff_not]at h ⊢;omega
def jK (k:Int)(v:ByteArray):Bool:=if k=9\/k=10 then eC 33 126 20 v else v.toList.isEmpty
theorem vF {k:Int}{v:ByteArray}(h:k=9\/k=10):jK k v=eC 33 126 20 v:=by unfold jK;rw[if_pos h]
theorem qB {k:Int}{v:ByteArray}(h: ¬(k=9\/k=10)):jK k v=v.toList.isEmpty:=by unfold jK;rw[if_neg h]
def iT (k:Int)(key:ByteArray):Bool:=if 6<=k/\k<=11 then eC 97 122 8 key else key.toList.isEmpty
theorem mK {k:Int}{v:ByteArray}(h:6<=k/\k<=11):iT k v=eC 97 122 8 v:=by unfold iT;rw[if_pos h]
theorem rT {k:Int}{v:ByteArray}(h: ¬(6<=k/\k<=11)):iT k v=v.toList.isEmpty:=by unfold iT;rw[if_neg h]
def gY (t:ByteArray):Bool:=decide (dV t=0)&&(decide (aU (aK t)=6\/aU (aK t)=7\/aU (aK t)=10)&&(eC 97 122 8 (aK (cutB t))&&jK (aU (aK t)) (cutB (cutB t))))
theorem yS {t:ByteArray}(h:dV t≠0):gY t=false:=by unfold gY;rw[decide_eq_false h,Bool.false_and]
theorem yT {t:ByteArray}(h: ¬(aU (aK t)=6\/aU (aK t)=7\/aU (aK t)=10)):gY t=false:=by unfold gY;rw[decide_eq_false h];simp
theorem yU {t:ByteArray}(h:dV t=0)(hk:aU (aK t)=6\/aU (aK t)=7\/aU (aK t)=10):
  gY t=(eC 97 122 8 (aK (cutB t))&&jK (aU (aK t)) (cutB (cutB t))):=by unfold gY;rw[decide_eq_true h,decide_eq_true hk,Bool.true_and,Bool.true_and]
def fP (k:Int)(v:ByteArray):Bool:=if k=11 then gY v else jK k v
def bZ (k:Int)(key v:ByteArray):Int:=if k<1\/11<k then 3 else if(iT k key&&fP k v)=true then 0 else 4
theorem vG {k:Int}{key v:ByteArray}(h:k<1\/11<k):bZ k key v=3:=by unfold bZ;rw[if_pos h]
theorem mL {k:Int}{key v:ByteArray}(h: ¬(k<1\/11<k))(h1:iT k key=true)(h2:fP k v=true):bZ k key v=0:=by unfold bZ;rw[if_neg h,h1,h2];rfl
theorem qC {k:Int}{key v:ByteArray}(h: ¬(k<1\/11<k))(h1:iT k key=false):bZ k key v=4:=by unfold bZ;rw[if_neg h,h1];rfl
theorem lT {k:Int}{key v:ByteArray}(h: ¬(k<1\/11<k))(h2:fP k v=false):bZ k key v=4:=by unfold bZ;rw[if_neg h,h2];simp
def dI (t:ByteArray):Int:=if 60<t.size then 1 else if dV t=0 then bZ (aU (aK t)) (aK (cutB t)) (cutB (cutB t))else dV t
theorem lU {t:ByteArray}(h:60<t.size):dI t=1:=by unfold dI;rw[if_pos h]
theorem oI {t:ByteArray}(h: ¬60<t.size)(h1:dV t≠0):dI t=dV t:=by unfold dI;rw[if_neg h,if_neg h1]
theorem kU {t:ByteArray}(h: ¬60<t.size)(h1:dV t=0):dI t=bZ (aU (aK t)) (aK (cutB t)) (cutB (cutB t)):=by unfold dI;rw[if_neg h,if_pos h1]
theorem rU {s:ByteArray}(h:s.toList.isEmpty=true):s.size=0:=by
 rw[Lib.toList_data,List.isEmpty_iff]at h;have e:s.size=s.data.toList.length:=by simp
 rw[e,h];rfl
theorem oJ {lo hi lim:Nat}{s:ByteArray}(h:eC lo hi lim s=true):1<=s.size/\s.size<=lim:=by
 unfold eC at h;simp only[eB,decide_eq_true_eq]at h;exact h.1
theorem yAz: ∀k,k<=11->(gD k).length<=8:=by decide
theorem rV (t:ByteArray):t.size<=(aK t).size+1+(cutB t).size:=by
 have:=oH t;have:=iO t;have:=kT t;omega
theorem yV {t:ByteArray}(h:aU (aK t)≠0):(aK t).size<=8:=by
 have h1:=qA (s:=aK t) (by omega);have h2:=yAz (aU (aK t)) (rQ _);rw[h1]at h2
 simpa using h2
theorem vH {k:Int}{v:ByteArray}(h:jK k v=true):v.size<=20:=by
 unfold jK at h
 split at h
 ·exact(oJ h).2
 ·have:=rU h;omega
theorem vI (t:ByteArray):gY t=(decide (dI t=0)&&decide (aU (aK t)=6\/aU (aK t)=7\/aU (aK t)=10)):=by
 by_cases hk:aU (aK t)=6\/aU (aK t)=7\/aU (aK t)=10
 ·rw[decide_eq_true hk,Bool.and_true]
  by_cases h:dV t=0
  ·rw[yU h hk];have hkb:iT (aU (aK t)) (aK (cutB t))=eC 97 122 8 (aK (cutB t)):=mK (by omega);have hvb:fP (aU (aK t)) (cutB (cutB t))=jK (aU (aK t)) (cutB (cutB t)):=by unfold fP;rw[if_neg (by omega)]
   have hk1: ¬((aU (aK t):Int)<1\/11<(aU (aK t):Int)):=by omega
   cases h1:eC 97 122 8 (aK (cutB t))
   ·by_cases hl:60<t.size
    ·rw[lU hl];rfl
    ·rw[kU hl h,qC hk1 (hkb.trans h1)];rfl
   ·cases h2:jK (aU (aK t)) (cutB (cutB t))
    ·by_cases hl:60<t.size
     ·rw[lU hl];rfl
     ·rw[kU hl h,lT hk1 (hvb.trans h2)];rfl
    ·have hl: ¬60<t.size:=by
      have a1:=rV t;have a2:=rV (cutB t);have a3:=yV (t:=t) (by omega);have a4:=oJ h1;have a5:=vH h2;omega
     rw[kU hl h,mL hk1 (hkb.trans h1) (hvb.trans h2)];rfl
  ·rw[yS h]
   by_cases hl:60<t.size
   ·rw[lU hl];rfl
   ·rw[oI hl h,decide_eq_false h]
 ·rw[yT hk,decide_eq_false hk,Bool.and_false]
theorem yW {t:ByteArray}(h:dK t=false):aK (cutB t)=⟨#[]⟩/\cutB (cutB t)=⟨#[]⟩:=by
 have h0:fD t=t.size:=by
  have:=kT t;unfold dK at h;simp only[decide_eq_false_iff_not]at h;omega
 rw[rP h0];exact⟨rfl,rfl⟩
theorem zA0 {t:ByteArray}(h:dK t=false):gL t=false:=by
 unfold gL;rw[h,vD h];rfl
theorem vJ {t:ByteArray}(h:aU (aK t)≠0)(hb:gL t=false):dV t=0:=by
 unfold dV;rw[if_neg h,hb];rfl
theorem kV {s:ByteArray}(h:s.size=0):s.toList.isEmpty=true:=by
 rw[Lib.toList_data,List.isEmpty_iff];have:s.data.toList.length=0:=by simpa using congrArg (fun n=>n) (show s.data.size=0 from h)
 exact List.length_eq_zero_iff.1 this
theorem mM {s:ByteArray}(h:1<=s.size):s.toList.isEmpty=false:=by
 cases e:s.toList.isEmpty
 ·rfl
 ·have:=rU e;omega
theorem zA1: ∀k,k<=11->1<=k->1<=(gD k).length:=by decide
theorem zA2 {t:ByteArray}(h:aU (aK t)≠0):1<=t.size:=by
 have h1:=qA (s:=aK t) (by omega);have h2:=zA1 (aU (aK t)) (rQ _) (by omega);rw[h1]at h2;have h3:(aK t).data.toList.length=(aK t).size:=by simp
 have:=oH t;have:=kT t;omega
theorem zA3 {v:ByteArray}(h:gY v=true):1<=v.size/\v.size<=60:=by
 rw[vI]at h;simp only[eB,decide_eq_true_eq]at h;refine⟨zA2 (by omega),?_⟩
 by_cases hl:60<v.size
 ·rw[lU hl]at h;omega
 ·omega
structure zA4 (k:Int)(key v:ByteArray):Prop where
 lo:1<=k
 hi:k<=11
 key8:key.size<=8
 v60:v.size<=60
 keyE:key.toList.isEmpty=decide (k<6)
 vE:v.toList.isEmpty=decide (k<9)
theorem kE {k:Int}{key v:ByteArray}(h:bZ k key v=0):zA4 k key v:=by
 by_cases hk:k<1\/11<k
 ·rw[vG hk]at h;cases h
 ·cases h1:iT k key
  ·rw[qC hk h1]at h;cases h
  ·cases h2:fP k v
   ·rw[lT hk h2]at h;cases h
   ·have a1:key.size<=8/\key.toList.isEmpty=decide (k<6):=by
     by_cases h6:6<=k/\k<=11
     ·rw[mK h6]at h1;have:=oJ h1;exact⟨this.2,by rw[mM this.1,decide_eq_false (by omega)]⟩
     ·rw[rT h6]at h1;exact⟨by have:=rU h1;omega,by rw[h1,decide_eq_true (by omega)]⟩
    have a2:v.size<=60/\v.toList.isEmpty=decide (k<9):=by
     by_cases h11:k=11
     ·unfold fP at h2;rw[if_pos h11]at h2;have:=zA3 h2;exact⟨this.2,by rw[mM this.1,decide_eq_false (by omega)]⟩
     ·unfold fP at h2;rw[if_neg h11]at h2
      by_cases h9:k=9\/k=10
      ·rw[vF h9]at h2;have:=oJ h2;exact⟨by omega,by rw[mM this.1,decide_eq_false (by omega)]⟩
      ·rw[qB h9]at h2;exact⟨by have:=rU h2;omega,by rw[h2,decide_eq_true (by omega)]⟩
    exact⟨by omega,by omega,a1.1,a2.1,a1.2,a2.2⟩
def nJ (k:Nat)(key v:ByteArray):ByteArray:=
 if k<6 then gS k else if k<9 then gS k++(⟨#[32]⟩++key)else(gS k++(⟨#[32]⟩++key))++(⟨#[32]⟩++v)
theorem zA5 {k:Nat}{key v:ByteArray}(h:k<6):nJ k key v=gS k:=by unfold nJ;rw[if_pos h]
theorem zA6 {k:Nat}{key v:ByteArray}(h: ¬k<6)(h2:k<9):nJ k key v=gS k++(⟨#[32]⟩++key):=by unfold nJ;rw[if_neg h,if_pos h2]
theorem zA7 {k:Nat}{key v:ByteArray}(h: ¬k<9):nJ k key v=(gS k++(⟨#[32]⟩++key))++(⟨#[32]⟩++v):=by unfold nJ;rw[if_neg (by omega),if_neg h]
abbrev PL:=List (ByteArray×ByteArray)
def bN (a b:ByteArray):Bool:=a.toList==b.toList
def bP (a b:ByteArray):Bool:=Op.bytesLess a.toList b.toList
theorem iK {a b:ByteArray}:bN a b=true ↔ a=b:=by
 unfold bN;rw[beq_iff_eq,Lib.toList_data,Lib.toList_data];exact⟨fun h=>kS h,fun h=>by rw[h]⟩
theorem mN (a:ByteArray):bN a a=true:=iK.2 rfl
theorem yX: ∀l:List UInt8,Op.bytesLess l l=false
 |[]=>rfl
 |a::l=>by simp[Op.bytesLess,yX l]
theorem yY: ∀{x y z:List UInt8},Op.bytesLess x y=true->Op.bytesLess y z=true->Op.bytesLess x z=true
 |[],[],_,h,_=>by simp[Op.bytesLess]at h
 |[],b::y,[],_,h=>by simp[Op.bytesLess]at h
 |[],b::y,c::z,_,_=>by simp[Op.bytesLess]
 |a::x,[],_,h,_=>by simp[Op.bytesLess]at h
 |a::x,b::y,[],_,h=>by simp[Op.bytesLess]at h
 |a::x,b::y,c::z,h1,h2=>by
  simp only[Op.bytesLess,fO,decide_eq_true_eq,eB,beq_iff_eq]at h1 h2 ⊢;rcases h1 with h1|⟨rfl,h1⟩
  ·rcases h2 with h2|⟨rfl,h2⟩
   ·exact .inl (UInt8.lt_trans h1 h2)
   ·exact .inl h1
  ·rcases h2 with h2|⟨rfl,h2⟩
   ·exact .inl h2
   ·exact .inr ⟨rfl,yY h1 h2⟩
theorem yZ: ∀{x y:List UInt8},Op.bytesLess x y=false->Op.bytesLess y x=false->x=y
 |[],[],_,_=>rfl
 |[],b::y,h,_=>by simp[Op.bytesLess]at h
 |a::x,[],_,h=>by simp[Op.bytesLess]at h
 |a::x,b::y,h1,h2=>by
  simp only[Op.bytesLess,Bool.or_eq_false_iff,decide_eq_false_iff_not,Bool.and_eq_false_iff,beq_eq_false_iff_ne]at h1 h2
  have e:a=b:=by
   apply UInt8.toNat_inj.1
   have h3:=h1.1;have h4:=h2.1;rw[UInt8.lt_iff_toNat_lt]at h3 h4;omega
  subst e;rw[yZ (h1.2.resolve_left (by simp)) (h2.2.resolve_left (by simp))]
theorem zA (a:ByteArray):bP a a=false:=yX _
theorem lV {a b c:ByteArray}(h1:bP a b=true)(h2:bP b c=true):bP a c=true:=yY h1 h2
theorem rW {a b:ByteArray}(h1:bP a b=false)(h2:bP b a=false):a=b:=by
 have:=yZ h1 h2;rw[Lib.toList_data,Lib.toList_data]at this;exact kS this
theorem hU {a b:ByteArray}(h:bP a b=true):a≠b:=fun e=>by rw[e,zA]at h;cases h
theorem zB {a b:ByteArray}(h:bP a b=true):bP b a=false:=by
 cases e:bP b a
 ·rfl
 ·have:=lV h e;rw[zA]at this;cases this
def aX:PL->ByteArray->Option ByteArray
 |[],_=>none
 |p::l,k=>if bN p.1 k then some p.2 else aX l k
def eG (k v:ByteArray):Bool->PL->PL
 |done,[]=>if done then []else [(k,v)]
 |done,p::l=>(if !done&&!bP p.1 k then [(k,v)]else [])++((if bN p.1 k then []else [p])++eG k v (done||!bP p.1 k) l)
def bI (l:PL)(k v:ByteArray):PL:=eG k v false l
def bG:PL->Bool
 |[]=>true
 |[_]=>true
 |p::q::l=>bP p.1 q.1&&bG (q::l)
def cD (l:PL)(most:Nat)(kind:Int):Bool:=(l.all fun p=>decide (bZ kind p.1 p.2=0))&&(bG l&&decide (l.length<=most))
structure Sess where
 st:Int
 set:PL
 prep:PL
 sav:PL
 wr:PL
structure Wd where
 rows:PL
 ss:List Sess
end Go.Proofs.YtpbaobmegomfpabGreatDoor
namespace Go.Proofs.YtpbaobmegomfpabGreatDoor
open Go.RowKit
structure Lst (w:World)(B:Nat)(v:Value)(l:PL):Prop where
 form: ∃A c,v= .slice A l.length c/\l.length<=c
 bytes:l.length*32<=140737488351232
 sizes: ∀p∈l,p.1.size<=140737488351232/\p.2.size<=140737488351232
 cells:0<l.length-> ∃b off c,v= .slice (some ⟨b,off,none⟩) l.length c/\b<B/\
  ∀i (h:i<l.length),w.cell? ⟨b,off+i*2,none⟩=some (.string l[i].1)/\w.cell? ⟨b,off+i*2+1,none⟩=some (.string l[i].2)
 nil: ∀n c,v= .slice none n c->c=0
theorem Lst.keep {w w':World}{B B':Nat}{v:Value}{l:PL}(h:Lst w B v l)(hB:B<=B')(hk: ∀p:Addr,p.block<B->w'.cell? p=w.cell? p):Lst w' B' v l:=by
 refine⟨h.form,h.bytes,h.sizes,fun hn=>?_,h.nil⟩;obtain⟨b,off,c,e,hb,hc⟩:=h.cells hn;exact⟨b,off,c,e,by omega,fun i hi=>⟨(hk _ hb).trans (hc i hi).1,(hk _ hb).trans (hc i hi).2⟩⟩
theorem Lst.below {w w':World}{B:Nat}{v:Value}{l:PL}(h:Lst w B v l)(hb:Below B w w'):Lst w' B v l:=h.keep (aI _) fun _ hp=>hb.cell hp
theorem Lst.more {w:World}{B B':Nat}{v:Value}{l:PL}(h:Lst w B v l)(hB:B<=B'):Lst w B' v l:=h.keep hB fun _ _=>rfl
theorem Lst.alloc {w:World}{B:Nat}{v:Value}{l:PL}(h:Lst w B v l)(hB:B<=w.heap.size)(o:Obj):Lst (w.alloc o) B v l:=h.keep (aI _) fun p hp=>World.cell?_alloc_lt w o p (by omega)
theorem Lst.drew {w:World}{B:Nat}{v:Value}{l:PL}(h:Lst w B v l):Lst w.drew B v l:=h.keep (aI _) fun _ _=>rfl
theorem Lst.drewN {w:World}{B:Nat}{v:Value}{l:PL}(h:Lst w B v l)(k:Nat):Lst (w.drewN k) B v l:=h.keep (aI _) fun _ _=>rfl
theorem Lst.setCell {w:World}{B:Nat}{v:Value}{l:PL}(h:Lst w B v l){p:Addr}(hB:B<=p.block)(u:Value):Lst (w.setCell p u) B v l:=
 h.keep (aI _) fun q hq=>jS w p q u (fun e=>by subst e;omega)
theorem Lst.at {w:World}{B:Nat}{v:Value}{l:PL}(h:Lst w B v l){k:Nat}(hk:k<l.length):
  ∃b off c,v= .slice (some ⟨b,off,none⟩) l.length c/\b<B/\w.cell? ⟨b,off+k*2,none⟩=some (.string l[k].1)/\w.cell? ⟨b,off+k*2+1,none⟩=some (.string l[k].2):=by
 obtain⟨b,off,c,e,hb,hc⟩:=h.cells (by omega);exact⟨b,off,c,e,hb,(hc k hk).1,(hc k hk).2⟩
theorem Lst.key {w:World}{B:Nat}{v:Value}{l:PL}(h:Lst w B v l){k:Nat}(hk:k<l.length):l[k].1.size<=140737488351232/\l[k].2.size<=140737488351232:=h.sizes _ (List.getElem_mem hk)
theorem Lst.pt {w:World}{B n c:Nat}{A:Option Addr}{l:PL}(h:Lst w B (.slice A n c) l){k:Nat}(hk:k<l.length):
  ∃b off,A=some ⟨b,off,none⟩/\b<B/\w.cell? ⟨b,off+k*2,none⟩=some (.string l[k].1)/\w.cell? ⟨b,off+k*2+1,none⟩=some (.string l[k].2):=by
 obtain⟨b,off,c',e,hb,hc⟩:=h.at hk;injection e with e1 e2 e3;exact⟨b,off,e1,hb,hc⟩
def RowTo (w:World)(g t n:Nat)(xs:List Value):Prop:= ∃cur:Array Value,w.heap[g]? =some (.cells cur t (0,0))/\cur.size=n/\cur.toList.take xs.length=xs
section
variable {w w':World}{g t n B:Nat}{xs:List Value}
theorem RowTo.len (h:RowTo w g t n xs):xs.length<=n:=by
 obtain⟨cur,_,hs,hx⟩:=h;have:=congrArg List.length hx;simp at this;omega
theorem RowTo.lt (h:RowTo w g t n xs):g<w.heap.size:=by
 obtain⟨cur,hh,_⟩:=h;exact(Array.getElem?_eq_some_iff.1 hh).1
theorem RowTo.same (h:RowTo w g t n xs)(e:w'.heap[g]? =w.heap[g]?):RowTo w' g t n xs:=by
 obtain⟨cur,hh,r⟩:=h;exact⟨cur,e.trans hh,r⟩
theorem RowTo.below (h:RowTo w g t n xs)(hb:Below B w w')(hg:g<B):RowTo w' g t n xs:=h.same (hb.block g hg)
theorem RowTo.alloc (h:RowTo w g t n xs)(o:Obj):RowTo (w.alloc o) g t n xs:=h.same (Below.heap_alloc _ _ _ h.lt)
theorem RowTo.drew (h:RowTo w g t n xs):RowTo w.drew g t n xs:=h
theorem RowTo.drewN (h:RowTo w g t n xs)(k:Nat):RowTo (w.drewN k) g t n xs:=h
theorem RowTo.other (h:RowTo w g t n xs){p:Addr}(hp:p.block≠g)(u:Value):RowTo (w.setCell p u) g t n xs:=h.same (bF _ _ _ _ (fun e=>hp e.symm))
theorem RowTo.cell (h:RowTo w g t n xs){j:Nat}(hj:j<xs.length):w.cell? ⟨g,j,none⟩=some xs[j]:=by
 obtain⟨cur,hh,hs,hx⟩:=h;unfold World.cell?;simp only[hh];have e:cur[j]? =cur.toList[j]? :=by simp
 show cur[j]? =_;rw[e];have:cur.toList[j]? =(cur.toList.take xs.length)[j]? :=by rw[List.getElem?_take,if_pos hj]
 rw[this,hx,dP hj]
theorem RowTo.any (h:RowTo w g t n xs){j:Nat}(hj:j<n): ∃u,w.cell? ⟨g,j,none⟩=some u:=by
 obtain⟨cur,hh,hs,hx⟩:=h;refine⟨cur[j]'(by omega),?_⟩;unfold World.cell?;simp only[hh];show cur[j]? =_;rw[Array.getElem?_eq_getElem (by omega)]
theorem RowTo.frozen (h:RowTo w g t n xs)(j:Nat):w.frozen? ⟨g,j,none⟩=false:=by
 obtain⟨cur,hh,hs,hx⟩:=h;unfold World.frozen?;simp[hh]
theorem RowTo.push (h:RowTo w g t n xs)(hl:xs.length<n)(u:Value){j:Nat}(hj:j=xs.length):RowTo (w.setCell ⟨g,j,none⟩ u) g t n (xs++[u]):=by
 subst hj;have hlt:=h.lt;obtain⟨cur,hh,hs,hx⟩:=h;refine⟨cur.setIfInBounds xs.length u,?_,by simpa using hs,?_⟩
 ·simp[cE,Array.getElem?_modify,hh]
 ·rw[Array.toList_setIfInBounds,eN,List.length_singleton,List.take_add_one,List.getElem?_set,if_pos rfl,List.take_set_of_le (aI _),hx,if_pos (by simp;omega)];rfl
theorem RowTo.put (h:RowTo w g t n xs){j:Nat}(hj:j<xs.length)(u:Value):RowTo (w.setCell ⟨g,j,none⟩ u) g t n (xs.set j u):=by
 obtain⟨cur,hh,hs,hx⟩:=h;refine⟨cur.setIfInBounds j u,?_,by simpa using hs,?_⟩
 ·simp[cE,Array.getElem?_modify,hh]
 ·rw[Array.toList_setIfInBounds,fI,List.take_set,hx]
theorem RowTo.new (w:World)(cs:Array Value)(t:TypeId):RowTo (w.alloc (.cells cs t)) w.heap.size t cs.size []:=
 ⟨cs,heap_alloc_new w _,rfl,rfl⟩
theorem RowTo.whole (w:World)(cs:Array Value)(t:TypeId):RowTo (w.alloc (.cells cs t)) w.heap.size t cs.size cs.toList:=
 ⟨cs,heap_alloc_new w _,rfl,by rw[jR (by simp)]⟩
theorem RowTo.front (h:RowTo w g t n xs)(k:Nat):RowTo w g t n (xs.take k):=by
 obtain⟨cur,hh,hs,hx⟩:=h;refine⟨cur,hh,hs,?_⟩;rw[gK,<-List.take_take,hx]
end
def bO (l:PL):List Value:=l.flatMap fun p=>[.string p.1,.string p.2]
theorem vK:bO []=[]:=rfl
theorem lW (p:ByteArray×ByteArray)(l:PL):bO (p::l)= .string p.1:: .string p.2::bO l:=rfl
theorem kW (l m:PL):bO (l++m)=bO l++bO m:=by unfold bO;rw[List.flatMap_append]
theorem fE (l:PL):(bO l).length=l.length*2:=by
 induction l with
 |nil=>rfl
 |cons p l ih=>rw[lW];simp only[fC,ih];omega
theorem rX: ∀(l:PL) (i:Nat) (h:i<l.length),(bO l)[i*2]? =some (.string l[i].1)
 |p::l,0,h=>rfl
 |p::l,i+1,h=>by rw[lW,show(i+1)*2=i*2+1+1 by omega];simpa using rX l i (by simpa using h)
theorem rY: ∀(l:PL) (i:Nat) (h:i<l.length),(bO l)[i*2+1]? =some (.string l[i].2)
 |p::l,0,h=>rfl
 |p::l,i+1,h=>by rw[lW,show(i+1)*2+1=i*2+1+1+1 by omega];simpa using rY l i (by simpa using h)
theorem zC (l:PL)(k:Nat):bO (l.take k)=(bO l).take (k*2):=by
 induction l generalizing k with
 |nil=>simp[vK]
 |cons p l ih=>
  cases k with
  |zero=>simp[vK]
  |succ k=>rw[List.take_succ_cons,lW,lW,ih,show(k+1)*2=k*2+1+1 by omega];rfl
theorem zA8 (l:PL)(k:Nat)(h:k<l.length):bO (l.take (k+1))=bO (l.take k)++[.string l[k].1]++[.string l[k].2]:=by
 rw[gO h,kW];simp[bO]
theorem RowTo.lst {w:World}{g t n c B:Nat}{l:PL}(h:RowTo w g t n (bO l))(hc:l.length<=c)(hB:g<B)(hby:l.length*32<=140737488351232)(hs: ∀p∈l,p.1.size<=140737488351232/\p.2.size<=140737488351232):
  Lst w B (.slice (some ⟨g,0,none⟩) l.length c) l:=by
 refine⟨⟨_,c,rfl,hc⟩,hby,hs,fun _=>⟨g,0,c,rfl,hB,fun i hi=>⟨?_,?_⟩⟩,fun n c h=>by cases h⟩
 ·have h1:=h.cell (j:=i*2) (by rw[fE];omega);have h2:=rX l i hi;rw[dP (by rw[fE];omega)]at h2;rw[cW,h1,h2]
 ·have h1:=h.cell (j:=i*2+1) (by rw[fE];omega);have h2:=rY l i hi;rw[dP (by rw[fE];omega)]at h2;rw[cW,h1,h2]
theorem vL (l:PL): ∀u∈bO l,u.oneCell'=true:=by
 intro u hu;unfold bO at hu;rw[List.mem_flatMap]at hu;obtain⟨p,_,hp⟩:=hu;simp only[List.mem_cons,List.not_mem_nil,or_false]at hp;rcases hp with rfl|rfl<;>rfl
theorem aR {B:Nat}{a b c:World}(h:Below B a b)(k:Below b.heap.size b c)(hB:B<=b.heap.size):Below B a c:=h.trans (k.mono hB)
structure Ses (w:World)(B b o:Nat)(s:Sess)(v1 v2 v3 v4:Value):Prop where
 c0:w.cell? ⟨b,o,none⟩=some (.int .i64 s.st)
 c1:w.cell? ⟨b,o+1,none⟩=some v1
 c2:w.cell? ⟨b,o+2,none⟩=some v2
 c3:w.cell? ⟨b,o+3,none⟩=some v3
 c4:w.cell? ⟨b,o+4,none⟩=some v4
 l1:Lst w B v1 s.set
 l2:Lst w B v2 s.prep
 l3:Lst w B v3 s.sav
 l4:Lst w B v4 s.wr
theorem Ses.keep {w w':World}{B B' b o:Nat}{s:Sess}{v1 v2 v3 v4:Value}(h:Ses w B b o s v1 v2 v3 v4)(hb:b<B)(hB:B<=B')(hk: ∀p:Addr,p.block<B->w'.cell? p=w.cell? p):Ses w' B' b o s v1 v2 v3 v4:=
 ⟨(hk _ hb).trans h.c0,(hk _ hb).trans h.c1,(hk _ hb).trans h.c2,(hk _ hb).trans h.c3,(hk _ hb).trans h.c4,h.l1.keep hB hk,h.l2.keep hB hk,h.l3.keep hB hk,h.l4.keep hB hk⟩
structure Sss (w:World)(B:Nat)(v:Value)(ss:List Sess):Prop where
 form: ∃A c,v= .slice A ss.length c/\ss.length<=c
 bytes:ss.length*104<=140737488351232
 cells:0<ss.length-> ∃b off c,v= .slice (some ⟨b,off,none⟩) ss.length c/\b<B/\
  ∀i (h:i<ss.length),∃v1 v2 v3 v4,Ses w B b (off+i*5) ss[i] v1 v2 v3 v4
theorem Sss.keep {w w':World}{B B':Nat}{v:Value}{ss:List Sess}(h:Sss w B v ss)(hB:B<=B')(hk: ∀p:Addr,p.block<B->w'.cell? p=w.cell? p):Sss w' B' v ss:=by
 refine⟨h.form,h.bytes,fun hn=>?_⟩;obtain⟨b,off,c,e,hb,hc⟩:=h.cells hn;refine⟨b,off,c,e,by omega,fun i hi=>?_⟩;obtain⟨v1,v2,v3,v4,hs⟩:=hc i hi;exact⟨v1,v2,v3,v4,hs.keep hb hB hk⟩
theorem Sss.below {w w':World}{B:Nat}{v:Value}{l:List Sess}(h:Sss w B v l)(hb:Below B w w'):Sss w' B v l:=h.keep (aI _) fun _ hp=>hb.cell hp
theorem Sss.more {w:World}{B B':Nat}{v:Value}{l:List Sess}(h:Sss w B v l)(hB:B<=B'):Sss w B' v l:=h.keep hB fun _ _=>rfl
theorem Sss.alloc {w:World}{B:Nat}{v:Value}{l:List Sess}(h:Sss w B v l)(hB:B<=w.heap.size)(o:Obj):Sss (w.alloc o) B v l:=h.keep (aI _) fun p hp=>World.cell?_alloc_lt w o p (by omega)
theorem Sss.pt {w:World}{B n c:Nat}{A:Option Addr}{ss:List Sess}(h:Sss w B (.slice A n c) ss){k:Nat}(hk:k<ss.length):
  ∃b off v1 v2 v3 v4,A=some ⟨b,off,none⟩/\b<B/\Ses w B b (off+k*5) ss[k] v1 v2 v3 v4:=by
 obtain⟨b,off,c',e,hb,hc⟩:=h.cells (by omega);injection e with e1 e2 e3;obtain⟨v1,v2,v3,v4,hs⟩:=hc k hk;exact⟨b,off,v1,v2,v3,v4,e1,hb,hs⟩
structure Wld (w:World)(B:Nat)(r s:Value)(W:Wd):Prop where
 rows:Lst w B r W.rows
 sess:Sss w B s W.ss
theorem Wld.keep {w w':World}{B B':Nat}{r s:Value}{W:Wd}(h:Wld w B r s W)(hB:B<=B')(hk: ∀p:Addr,p.block<B->w'.cell? p=w.cell? p):Wld w' B' r s W:=⟨h.rows.keep hB hk,h.sess.keep hB hk⟩
theorem Wld.below {w w':World}{B:Nat}{r s:Value}{W:Wd}(h:Wld w B r s W)(hb:Below B w w'):Wld w' B r s W:=h.keep (aI _) fun _ hp=>hb.cell hp
theorem Wld.more {w:World}{B B':Nat}{r s:Value}{W:Wd}(h:Wld w B r s W)(hB:B<=B'):Wld w B' r s W:=h.keep hB fun _ _=>rfl
theorem Wld.step {w w':World}{r s:Value}{W:Wd}(h:Wld w w.heap.size r s W)(hb:Below w.heap.size w w'):Wld w' w'.heap.size r s W:=(h.below hb).more hb.size
theorem Lst.step {w w':World}{v:Value}{l:PL}(h:Lst w w.heap.size v l)(hb:Below w.heap.size w w'):Lst w' w'.heap.size v l:=(h.below hb).more hb.size
theorem Sss.step {w w':World}{v:Value}{l:List Sess}(h:Sss w w.heap.size v l)(hb:Below w.heap.size w w'):Sss w' w'.heap.size v l:=(h.below hb).more hb.size
def sl (g n:Nat):Value:= .slice (some ⟨g,0,none⟩) n n
def cJ (w:World)(S o:Nat)(a0 a1 a2 a3 a4:Value):World:=
 ((((w.setCell ⟨S,o,none⟩ a0).setCell ⟨S,o+1,none⟩ a1).setCell ⟨S,o+2,none⟩ a2).setCell ⟨S,o+3,none⟩ a3).setCell ⟨S,o+4,none⟩ a4
theorem fX {w:World}{g t n:Nat}{xs:List Value}(h:RowTo w g t n xs){j:Nat}(hj:j<n)(u:Value):(w.setCell ⟨g,j,none⟩ u).cell? ⟨g,j,none⟩=some u:=by
 obtain⟨x,hx⟩:=h.any hj;simp[go_sem,hx]
theorem bT {w:World}{g j i:Nat}(u:Value)(h:i≠j):(w.setCell ⟨g,j,none⟩ u).cell? ⟨g,i,none⟩=w.cell? ⟨g,i,none⟩:=
 jS _ _ _ _ (fun e=>h (by injection e with e1 e2;exact e2.symm))
theorem RowTo.nil {w:World}{g t n:Nat}{xs:List Value}(h:RowTo w g t n xs):RowTo w g t n []:=h.front 0
theorem RowTo.hit {w:World}{g t n j:Nat}(h:RowTo w g t n [])(u:Value):RowTo (w.setCell ⟨g,j,none⟩ u) g t n []:=by
 obtain⟨cur,hh,hs,hx⟩:=h;refine⟨cur.setIfInBounds j u,?_,by simpa using hs,rfl⟩;simp[cE,Array.getElem?_modify,hh]
section
variable {w:World}{S o t n:Nat}{a0 a1 a2 a3 a4:Value}
theorem zD (h:RowTo w S t n []):RowTo (cJ w S o a0 a1 a2 a3 a4) S t n []:=((((h.hit _).hit _).hit _).hit _).hit _
theorem nK {g t n:Nat}{xs:List Value}(h:RowTo w g t n xs)(hne:S≠g):RowTo (cJ w S o a0 a1 a2 a3 a4) g t n xs:=((((h.other hne _).other hne _).other hne _).other hne _).other hne _
theorem zE (h:RowTo w S t n [])(ho:o+4<n):(cJ w S o a0 a1 a2 a3 a4).cell? ⟨S,o,none⟩=some a0/\(cJ w S o a0 a1 a2 a3 a4).cell? ⟨S,o+1,none⟩=some a1/\(cJ w S o a0 a1 a2 a3 a4).cell? ⟨S,o+2,none⟩=some a2/\
  (cJ w S o a0 a1 a2 a3 a4).cell? ⟨S,o+3,none⟩=some a3/\(cJ w S o a0 a1 a2 a3 a4).cell? ⟨S,o+4,none⟩=some a4:=by
 unfold cJ;refine⟨?_,?_,?_,?_,fX (xs:=[]) ((((h.hit _).hit _).hit _).hit _) (by omega) _⟩
 ·rw[bT _ (by omega),bT _ (by omega),bT _ (by omega),bT _ (by omega)];exact fX h (by omega) _
 ·rw[bT _ (by omega),bT _ (by omega),bT _ (by omega)];exact fX (h.hit _) (by omega) _
 ·rw[bT _ (by omega),bT _ (by omega)];exact fX ((h.hit _).hit _) (by omega) _
 ·rw[bT _ (by omega)];exact fX (((h.hit _).hit _).hit _) (by omega) _
theorem vM {i:Nat}(h:i<o\/o+4<i):(cJ w S o a0 a1 a2 a3 a4).cell? ⟨S,i,none⟩=w.cell? ⟨S,i,none⟩:=by
 unfold cJ;rw[bT _ (by omega),bT _ (by omega),bT _ (by omega),bT _ (by omega),bT _ (by omega)]
theorem zA9 {B:Nat}{a:World}(h:Below B a w)(hS:B<=S):Below B a (cJ w S o a0 a1 a2 a3 a4):=((((h.setCell hS _).setCell hS _).setCell hS _).setCell hS _).setCell hS _
theorem zAa {p:Addr}(h:p.block≠S):(cJ w S o a0 a1 a2 a3 a4).cell? p=w.cell? p:=by
 unfold cJ;rw[jS _ _ _ _ (fun e=>h (by rw[<-e])),jS _ _ _ _ (fun e=>h (by rw[<-e])),jS _ _ _ _ (fun e=>h (by rw[<-e])),jS _ _ _ _ (fun e=>h (by rw[<-e])),jS _ _ _ _ (fun e=>h (by rw[<-e]))]
end
def Sess.li (s:Sess):Nat->PL
 |0=>s.set
 |1=>s.prep
 |2=>s.sav
 |_=>s.wr
structure OwnS (w:World)(base S n:Nat)(G:Nat->Nat->Nat)(ss:List Sess)(k:Nat):Prop where
 blk:RowTo w S 115 (n*5) []
 st: ∀i (h:i<ss.length),i<k->w.cell? ⟨S,i*5,none⟩=some (.int .i64 ss[i].st)
 cs: ∀i j (h:i<ss.length),i<k->j<4->w.cell? ⟨S,i*5+(j+1),none⟩=some (sl (G i j) (ss[i].li j).length)
 ls: ∀i j (h:i<ss.length),i<k->j<4->RowTo w (G i j) 60 ((ss[i].li j).length*2) (bO (ss[i].li j))
 lo: ∀i j,i<k->j<4->base<=G i j
 ne: ∀i j,i<k->j<4->G i j≠S
 inj: ∀i j i' j',i<k->j<4->i'<k->j'<4->G i j=G i' j'->i=i'/\j=j'
def nM (g0 g1 g2 g3:Nat):Nat->Nat
 |0=>g0
 |1=>g1
 |2=>g2
 |_=>g3
theorem j4 {j:Nat}(h:j<4):j=0\/j=1\/j=2\/j=3:=by omega
theorem OwnS.step {wr w3:World}{base S n k:Nat}{G:Nat->Nat->Nat}{ss:List Sess}(h:OwnS wr base S n G ss k)(hk:k<ss.length)(hn:ss.length=n)(hb:base<=wr.heap.size)(kb:Below wr.heap.size wr w3){g0 g1 g2 g3:Nat}
  (r0:RowTo w3 g0 60 (ss[k].set.length*2) (bO ss[k].set)) (r1:RowTo w3 g1 60 (ss[k].prep.length*2) (bO ss[k].prep))
  (r2:RowTo w3 g2 60 (ss[k].sav.length*2) (bO ss[k].sav)) (r3:RowTo w3 g3 60 (ss[k].wr.length*2) (bO ss[k].wr))
  (q0:wr.heap.size<=g0) (q1:g0<g1) (q2:g1<g2) (q3:g2<g3):
  OwnS (cJ w3 S (k*5) (.int .i64 ss[k].st) (sl g0 ss[k].set.length) (sl g1 ss[k].prep.length) (sl g2 ss[k].sav.length) (sl g3 ss[k].wr.length)) base S n (fun i j=>if i=k then nM g0 g1 g2 g3 j else G i j) ss (k+1):=by
 have hS:=h.blk.lt;have b3:RowTo w3 S 115 (n*5) []:=h.blk.below kb hS;have hc:=zE (a0:= .int .i64 ss[k].st) (a1:=sl g0 ss[k].set.length) (a2:=sl g1 ss[k].prep.length) (a3:=sl g2 ss[k].sav.length) (a4:=sl g3 ss[k].wr.length) b3 (o:=k*5) (by omega);refine⟨zD b3,fun i hi hik=>?_,fun i j hi hik hj=>?_,fun i j hi hik hj=>?_,fun i j hik hj=>?_,fun i j hik hj=>?_,fun i j i' j' hik hj hik' hj' e=>?_⟩
 ·by_cases e:i=k
  ·subst e;exact hc.1
  ·rw[vM (by omega),kb.cell (p:=⟨S,i*5,none⟩) hS];exact h.st i hi (by omega)
 ·by_cases e:i=k
  ·subst e;simp only[if_pos];rcases j4 hj with rfl|rfl|rfl|rfl
   ·exact hc.2.1
   ·exact hc.2.2.1
   ·exact hc.2.2.2.1
   ·exact hc.2.2.2.2
  ·simp only[if_neg e];rw[vM (by omega),kb.cell (p:=⟨S,i*5+(j+1),none⟩) hS];exact h.cs i j hi (by omega) hj
 ·by_cases e:i=k
  ·subst e;simp only[if_pos];rcases j4 hj with rfl|rfl|rfl|rfl
   ·exact nK r0 (by show S≠g0;omega)
   ·exact nK r1 (by show S≠g1;omega)
   ·exact nK r2 (by show S≠g2;omega)
   ·exact nK r3 (by show S≠g3;omega)
  ·simp only[if_neg e];have h1:=h.ls i j hi (by omega) hj;exact nK (h1.below kb h1.lt) (fun e'=>h.ne i j (by omega) hj e'.symm)
 ·by_cases e:i=k
  ·simp only[if_pos e];rcases j4 hj with rfl|rfl|rfl|rfl<;>simp only[nM]<;>omega
  ·simp only[if_neg e];exact h.lo i j (by omega) hj
 ·by_cases e:i=k
  ·simp only[if_pos e];rcases j4 hj with rfl|rfl|rfl|rfl<;>simp only[nM]<;>omega
  ·simp only[if_neg e];exact h.ne i j (by omega) hj
 ·have old: ∀a b,a<k->b<4->G a b<wr.heap.size:=fun a b ha hb=>(h.ls a b (by omega) ha hb).lt
  by_cases e1:i=k<;>by_cases e2:i'=k
  ·simp only[if_pos e1,if_pos e2]at e;refine⟨by omega,?_⟩;rcases j4 hj with rfl|rfl|rfl|rfl<;>rcases j4 hj' with rfl|rfl|rfl|rfl<;>simp only[nM]at e<;>omega
  ·simp only[if_pos e1,if_neg e2]at e;have:=old i' j' (by omega) hj';rcases j4 hj with rfl|rfl|rfl|rfl<;>simp only[nM]at e<;>omega
  ·simp only[if_neg e1,if_pos e2]at e;have:=old i j (by omega) hj;rcases j4 hj' with rfl|rfl|rfl|rfl<;>simp only[nM]at e<;>omega
  ·simp only[if_neg e1,if_neg e2]at e;exact h.inj i j i' j' (by omega) hj (by omega) hj' e
theorem OwnS.kept {w w':World}{base S n k:Nat}{G:Nat->Nat->Nat}{ss:List Sess}(h:OwnS w base S n G ss k)(hk:k<=ss.length)(kb:Below w.heap.size w w'):OwnS w' base S n G ss k:=by
 have hS:=h.blk.lt;refine⟨h.blk.below kb hS,fun i hi hik=>(kb.cell (p:=⟨S,i*5,none⟩) hS).trans (h.st i hi hik),fun i j hi hik hj=>(kb.cell (p:=⟨S,i*5+(j+1),none⟩) hS).trans (h.cs i j hi hik hj),fun i j hi hik hj=>?_,h.lo,h.ne,h.inj⟩;have:=h.ls i j hi hik hj;exact this.below kb this.lt
theorem fF {a b:ByteArray}:bN a b=false ↔ a≠b:=by
 rw[<-Bool.not_eq_true,iK]
theorem qD: ∀{l:PL},bG l=true ↔ ∀j (h:j+1<l.length),bP l[j].1 l[j+1].1=true
 |[]=>by simp[bG]
 |[p]=>by simp[bG]
 |p::q::l=>by
  unfold bG;rw[eB,qD]
  constructor
  ·rintro⟨h0,h1⟩ j hj
   cases j with
   |zero=>exact h0
   |succ j=>exact h1 j (by simpa using hj)
  ·intro h;exact⟨h 0 (by simp),fun j hj=>h (j+1) (by simpa using hj)⟩
theorem iL {p:ByteArray×ByteArray}{l:PL}(h:bG (p::l)=true):bG l=true:=by
 cases l with
 |nil=>rfl
 |cons q l=>unfold bG at h;rw[eB]at h;exact h.2
theorem iM: ∀{l:PL} {p:ByteArray×ByteArray},bG (p::l)=true-> ∀q∈l,bP p.1 q.1=true
 |q0::l,p,h,q,hq=>by
  have h':=h;unfold bG at h';rw[eB]at h';rcases List.mem_cons.1 hq with rfl|hq
  ·exact h'.1
  ·exact lV h'.1 (iM h'.2 q hq)
theorem vN {l:PL}{p:ByteArray×ByteArray}(h:bG l=true)(hp: ∀q∈l,bP p.1 q.1=true):bG (p::l)=true:=by
 cases l with
 |nil=>rfl
 |cons q l=>unfold bG;rw[hp q (by simp),h];rfl
theorem zAb {l:PL}(h:bG l=true): ∀i j (hi:i<j) (hj:j<l.length),bP (l[i]'(by omega)).1 l[j].1=true:=by
 intro i j hi hj
 induction j with
 |zero=>omega
 |succ j ih=>
  have h1:=(qD.1 h) j hj
  by_cases e:i=j
  ·subst e;exact h1
  ·exact lV (ih (by omega) (by omega)) h1
theorem zAc {l:PL}{most:Nat}{kind:Int}(h1: ∀j (h:j<l.length),bZ kind l[j].1 l[j].2=0)(h2: ∀j (h:j+1<l.length),bP l[j].1 l[j+1].1=true)(h3:l.length<=most):cD l most kind=true:=by
 unfold cD;rw[qD.2 h2,cF h3,Bool.and_true,Bool.and_true,List.all_eq_true];intro p hp;obtain⟨j,hj,rfl⟩:=List.getElem_of_mem hp;exact cF (h1 j hj)
theorem zAe {l:PL}{most:Nat}{kind:Int}(h: ¬l.length<=most):cD l most kind=false:=by
 unfold cD;rw[aY h];simp
theorem zF {l:PL}{most:Nat}{kind:Int}{j:Nat}(hj:j<l.length)(h:bZ kind l[j].1 l[j].2≠0):cD l most kind=false:=by
 unfold cD
 have:(l.all fun p=>decide (bZ kind p.1 p.2=0))=false:=by
  rw[List.all_eq_false];exact⟨l[j],List.getElem_mem hj,by simpa using h⟩
 rw[this];rfl
theorem zAf {l:PL}{most:Nat}{kind:Int}{j:Nat}(hj:j+1<l.length)(h:bP l[j].1 l[j+1].1=false):cD l most kind=false:=by
 unfold cD
 have:bG l=false:=by
  rw[<-Bool.not_eq_true];intro hr;have:=qD.1 hr j hj;rw[h]at this;cases this
 rw[this];simp
theorem bW {l:PL}{most:Nat}{kind:Int}(h:cD l most kind=true):bG l=true/\l.length<=most/\ ∀p∈l,bZ kind p.1 p.2=0:=by
 unfold cD at h;simp only[eB,decide_eq_true_eq,List.all_eq_true]at h;exact⟨h.2.1,h.2.2,h.1⟩
def cI:PL->ByteArray->ByteArray->PL
 |[],k,v=>[(k,v)]
 |p::l,k,v=>if bP p.1 k then p::cI l k v else if bN p.1 k then(k,v)::l else(k,v)::p::l
theorem zG: ∀{l:PL} {k v:ByteArray},(∀q∈l,bP k q.1=true)->eG k v true l=l
 |[],_,_,_=>rfl
 |p::l,k,v,h=>by
  unfold eG;have hp:=h p (by simp);have:bN p.1 k=false:=fF.2 (fun e=>hU hp e.symm);rw[this,Bool.true_or,zG (fun q hq=>h q (by simp[hq]))];rfl
theorem eS: ∀{l:PL} {k v:ByteArray},bG l=true->bI l k v=cI l k v
 |[],_,_,_=>rfl
 |p::l,k,v,h=>by
  unfold bI eG cI
  cases h1:bP p.1 k
  ·have hd: ∀q∈l,bP k q.1=true:=fun q hq=>by
    cases h2:bN p.1 k
    ·have:bP k p.1=true:=by
      cases h3:bP k p.1
      ·exact absurd (rW h1 h3) (fF.1 h2)
      ·rfl
     exact lV this (iM h q hq)
    ·rw[<-iK.1 h2];exact iM h q hq
   rw[Bool.false_or,Bool.not_false,zG hd]
   cases h2:bN p.1 k<;>simp
  ·have:bN p.1 k=false:=fF.2 (hU h1);rw[this,Bool.false_or];have ih:=eS (k:=k) (v:=v) (iL h);unfold bI at ih;simp[ih]
theorem oK: ∀{l:PL} {k v:ByteArray} {q:ByteArray×ByteArray},q∈cI l k v->q=(k,v)\/q∈l
 |[],k,v,q,h=>by simpa [cI] using h
 |p::l,k,v,q,h=>by
  unfold cI at h
  split at h
  ·rcases List.mem_cons.1 h with rfl|h
   ·exact .inr (by simp)
   ·rcases oK h with h|h
    ·exact .inl h
    ·exact .inr (by simp[h])
  ·split at h
   ·rcases List.mem_cons.1 h with rfl|h
    ·exact .inl rfl
    ·exact .inr (by simp[h])
   ·rcases List.mem_cons.1 h with rfl|h
    ·exact .inl rfl
    ·exact .inr h
theorem jL: ∀{l:PL} {k v:ByteArray},bG l=true->bG (cI l k v)=true
 |[],_,_,_=>rfl
 |p::l,k,v,h=>by
  unfold cI
  cases h1:bP p.1 k
  ·rw[if_neg (by simp)]
   cases h2:bN p.1 k
   ·rw[if_neg (by simp)]
    have hk:bP k p.1=true:=by
     cases h3:bP k p.1
     ·exact absurd (rW h1 h3) (fF.1 h2)
     ·rfl
    exact vN h (fun q hq => by
     rcases List.mem_cons.1 hq with rfl|hq
     ·exact hk
     ·exact lV hk (iM h q hq))
   ·rw[if_pos rfl];exact vN (iL h) (fun q hq=>by show bP k q.1=true;rw[<-iK.1 h2];exact iM h q hq)
  ·rw[if_pos rfl];refine vN (jL (iL h)) (fun q hq=>?_);rcases oK hq with rfl|hq
   ·exact h1
   ·exact iM h q hq
theorem gT {p:ByteArray×ByteArray}{l:PL}{k:ByteArray}(h:bN p.1 k=true):aX (p::l) k=some p.2:=by rw[aX,if_pos h]
theorem fJ {p:ByteArray×ByteArray}{l:PL}{k:ByteArray}(h:bN p.1 k=false):aX (p::l) k=aX l k:=by rw[aX,if_neg (by simp[h])]
theorem qE {p:ByteArray×ByteArray}{l:PL}{k v:ByteArray}(h:bP p.1 k=true):cI (p::l) k v=p::cI l k v:=by rw[cI,if_pos h]
theorem vO {p:ByteArray×ByteArray}{l:PL}{k v:ByteArray}(h1:bP p.1 k=false)(h:bN p.1 k=true):cI (p::l) k v=(k,v)::l:=by rw[cI,if_neg (by simp[h1]),if_pos h]
theorem vP {p:ByteArray×ByteArray}{l:PL}{k v:ByteArray}(h1:bP p.1 k=false)(h:bN p.1 k=false):cI (p::l) k v=(k,v)::p::l:=by rw[cI,if_neg (by simp[h1]),if_neg (by simp[h])]
theorem rZ: ∀{l:PL} {k v k':ByteArray},bG l=true->aX (cI l k v) k'=if bN k k' then some v else aX l k'
 |[],k,v,k',_=>by simp[cI,aX]
 |p::l,k,v,k',h=>by
  cases h1:bP p.1 k
  ·cases h2:bN p.1 k
   ·rw[vP h1 h2,aX]
   ·rw[vO h1 h2]
    cases h3:bN k k'
    ·rw[fJ h3,fJ (by rw[iK.1 h2];exact h3),if_neg (by simp)]
    ·rw[gT h3,if_pos rfl]
  ·rw[qE h1]
   cases h3:bN p.1 k'
   ·rw[fJ h3,fJ h3,rZ (iL h)]
   ·have:bN k k'=false:=fF.2 (fun e=>hU h1 (by rw[iK.1 h3,e]));rw[gT h3,gT h3,this,if_neg (by simp)]
theorem qF {l:PL}{k:ByteArray}(hd: ∀q∈l,bN q.1 k=false):aX l k=none:=by
 induction l with
 |nil=>rfl
 |cons q l ih=>rw[fJ (hd q (by simp))];exact ih (fun q hq=>hd q (by simp[hq]))
theorem zH {p k:ByteArray}(h1:bP p k=false)(h2:bN p k=false):bP k p=true:=by
 cases h3:bP k p
 ·exact absurd (rW h1 h3) (fF.1 h2)
 ·rfl
theorem qG: ∀{l:PL} {k v:ByteArray},bG l=true->(cI l k v).length=if(aX l k).isSome then l.length else l.length+1
 |[],_,_,_=>rfl
 |p::l,k,v,h=>by
  cases h1:bP p.1 k
  ·cases h2:bN p.1 k
   ·have hk:=zH h1 h2;rw[vP h1 h2,fJ h2,qF (fun q hq=>fF.2 (fun e=>hU (lV hk (iM h q hq)) e.symm))];simp
   ·rw[vO h1 h2,gT h2];simp
  ·rw[qE h1,fJ (fF.2 (hU h1)),fC,qG (iL h),fC]
   split<;>rfl
theorem kF: ∀{l:PL} {k v:ByteArray},aX l k=some v->(k,v)∈l
 |p::l,k,v,h=>by
  unfold aX at h
  split at h
  ·rename_i h1
   have:=iK.1 h1;simp only[Option.some.injEq]at h;subst this h;simp
  ·exact iZ _ (kF h)
theorem oL: ∀{l:PL} {p:ByteArray×ByteArray},p∈l->(aX l p.1).isSome=true
 |q::l,p,h=>by
  unfold aX
  cases h1:bN q.1 p.1
  ·rw[if_neg (by simp)];rcases List.mem_cons.1 h with rfl|h
   ·rw[mN]at h1;cases h1
   ·exact oL h
  ·rw[if_pos rfl];rfl
def dL:PL->ByteArray->Nat
 |[],_=>0
 |p::l,k=>if bP p.1 k then dL l k+1 else 0
def aM (l:PL)(k:ByteArray):Bool:=(aX l k).isSome
theorem oM {p:ByteArray×ByteArray}{l:PL}{k:ByteArray}(h:bP p.1 k=true):dL (p::l) k=dL l k+1:=by rw[dL,if_pos h]
theorem lX {p:ByteArray×ByteArray}{l:PL}{k:ByteArray}(h:bP p.1 k=false):dL (p::l) k=0:=by rw[dL,if_neg (by simp[h])]
theorem sC: ∀(l:PL) (k:ByteArray),dL l k<=l.length
 |[],_=>aI _
 |p::l,k=>by
  have:=sC l k;unfold dL;split<;>simp<;>omega
theorem zI: ∀{l:PL} {k:ByteArray} {j:Nat} (hj:j<l.length),j<dL l k->bP l[j].1 k=true
 |p::l,k,j,hj,h=>by
  cases e:bP p.1 k
  ·rw[lX e]at h;omega
  ·rw[oM e]at h
   cases j with
   |zero=>exact e
   |succ j=>exact zI (l:=l) (by simpa using hj) (by omega)
theorem zJ: ∀{l:PL} {k:ByteArray} {j:Nat},bG l=true->(hj:j<l.length)->dL l k<=j->bP l[j].1 k=false
 |p::l,k,j,hr,hj,h=>by
  cases e:bP p.1 k
  ·cases j with
   |zero=>exact e
   |succ j=>
    have hj':j<l.length:=by simpa using hj
    have h1:=iM hr l[j] (List.getElem_mem hj');show bP l[j].1 k=false
    cases e2:bP l[j].1 k
    ·rfl
    ·rw[lV h1 e2]at e;cases e
  ·rw[oM e]at h
   cases j with
   |zero=>omega
   |succ j=>exact zJ (l:=l) (iL hr) (by simpa using hj) (by omega)
theorem vQ: ∀{l:PL} {k:ByteArray},bG l=true->l.length<=dL l k->aM l k=false
 |[],_,_,_=>rfl
 |p::l,k,hr,h=>by
  cases e:bP p.1 k
  ·rw[lX e]at h;simp at h
  ·rw[oM e]at h;unfold aM;rw[fJ (fF.2 (hU e))];exact vQ (iL hr) (by simpa using h)
theorem qH: ∀{l:PL} {k:ByteArray},bG l=true->(h:dL l k<l.length)->aM l k=bN (l[dL l k]).1 k/\(aM l k=true->aX l k=some (l[dL l k]).2)
 |p::l,k,hr,h=>by
  cases e:bP p.1 k
  ·have hp:=lX (l:=l) e;simp only[hp,aB]
   cases e2:bN p.1 k
   ·have hk:=zH e e2
    have:aM (p::l) k=false:=by
     unfold aM;rw[fJ e2,qF (fun q hq=>fF.2 (fun e'=>hU (lV hk (iM hr q hq)) e'.symm))];rfl
    exact⟨this,fun h=>by rw[this]at h;cases h⟩
   ·have:aM (p::l) k=true:=(by unfold aM;rw[gT e2];rfl);exact⟨this,fun _=>gT e2⟩
  ·have hp:=oM (l:=l) e;have e2:bN p.1 k=false:=fF.2 (hU e);have hl:dL l k<l.length:=by rw[hp]at h;simpa using h
   obtain⟨h1,h2⟩:=qH (iL hr) hl;have hf:aM (p::l) k=aM l k:=by unfold aM;rw[fJ e2]
   simp only[hp,aC];exact⟨hf.trans h1,fun h=>by rw[fJ e2];exact h2 (hf▸h)⟩
theorem zK {l:PL}{k:ByteArray}(hr:bG l=true)(h:aM l k=true):dL l k<l.length:=by
 apply gP
 intro hn;rw[vQ hr (by omega)]at h;cases h
theorem zL: ∀{l:PL} {k v:ByteArray},bG l=true->aM l k=true->cI l k v=l.set (dL l k) (k,v)
 |[],_,_,_,h=>by cases h
 |p::l,k,v,hr,h=>by
  cases e:bP p.1 k
  ·rw[lX e];have hl:=qH hr (by rw[lX e];simp);rw[h]at hl;simp only[lX (l:=l) e,aB]at hl;rw[vO e hl.1.symm,aG]
  ·rw[oM e,qE e,aF,zL (iL hr)];unfold aM at h ⊢
   rwa [fJ (fF.2 (hU e))]at h
theorem zM: ∀{l:PL} {k v:ByteArray},bG l=true->aM l k=false->cI l k v=l.take (dL l k)++(k,v)::l.drop (dL l k)
 |[],_,_,_,_=>rfl
 |p::l,k,v,hr,h=>by
  cases e:bP p.1 k
  ·rw[lX e];have hl:=qH hr (by rw[lX e];simp);rw[h]at hl;simp only[lX (l:=l) e,aB]at hl;rw[vP e hl.1.symm];rfl
  ·rw[oM e,qE e,zM (iL hr)]
   ·rfl
   ·unfold aM at h ⊢
    rwa [fJ (fF.2 (hU e))]at h
theorem zAg (a b:ByteArray):binOp .geq 9 (.string a) (.string b)=pure (.bool (!bP a b)):=by simp[binOp,Op.stringOp,bP]
theorem zAh (v:Value)(l:PL)(key:ByteArray)(k:Nat)(p q:Addr)(w:World)(B:Nat)(hl:Lst w B v l)(hk:k<l.length)(hp:w.cell? p=some v)(hq:w.cell? q=some (.string key)):
  Calls Tryz.prog 116 #[.int .i64 k,.pointer (some p),.pointer (some q)] w fun e w'=>e= .returned (.bool (!bP l[k].1 key))/\ ∃n,w'=w.drewN n:=by
 obtain⟨A,c,rfl,hc⟩:=hl.form;obtain⟨b,off,rfl,hb,c0,c1⟩:=hl.pt hk;have hge:=zAg l[k].1 key;have hkl:(k:Int)<(l.length:Int):=by omega
 clear hl;go_enter Tryz.func116,Tryz.ntmps116;go_wp2
 go_quiet (fail)
 go_wp2;go_ret;exact⟨rfl,nq,rfl⟩
theorem zN (v:Value)(l:PL)(key:ByteArray)(p q:Addr)(w:World)(B:Nat)(hl:Lst w B v l)(hr:bG l=true)(hp:w.cell? p=some v)(hq:w.cell? q=some (.string key)):
  Calls Tryz.prog 115 #[.int .i64 l.length,.func (.func 116) #[] #[.pointer (some p),.pointer (some q)]] w fun e w'=>e= .returned (.int .i64 (dL l key))/\ ∃n,w'=w.drewN n:=by
 have hby:=hl.bytes;have hpl:=sC l key;have HL:=aA hl;have HR:=aA hr;have HP:=aA hp;have HQ:=aA hq;clear hl hr hp hq;go_enter Tryz.func115,Tryz.ntmps115;go_wp2
 go_loopw [5,6] (fun i j wr=> ∃a b:Nat,i= .int .i64 a/\j= .int .i64 b/\a<=dL l key/\dL l key<=b/\b<=l.length/\ ∃n,wr=w.drewN n) (fun i j _=>(intOf j).toNat-(intOf i).toNat)
 case atStart=>exact⟨0,l.length,rfl,rfl,by omega,hpl,aI _,0,rfl⟩
 case round=>
  obtain⟨a,b,rfl,rfl,h1,h2,h3,n,rfl⟩:=hrel
  by_cases hlt:a<b
  ·go_wp2_with fail;rw[show((a:Int)+(b:Int))/2=(((a+b)/2:Nat):Int)from by omega];have m1:a<=(a+b)/2:=by omega
   have m2:(a+b)/2<b:=by omega
   generalize(a+b)/2=m at*;refine(zAh v l key m p q _ B (HL.out.drewN n) (by omega) HP.out HQ.out).mono ?_
   by_cases hm:m<dL l key
   ·rw[zI (l:=l) (k:=key) (by omega) hm];rintro e w2 ⟨rfl,n2,rfl⟩;go_wp2;go_roundw
    case rel=>exact⟨m+1,b,by go_num,rfl,by omega,h2,h3,n+n2,rfl⟩
    case measure=>simp[intOf];omega
   ·rw[zJ (l:=l) (k:=key) HR.out (by omega) (by omega)];rintro e w2 ⟨rfl,n2,rfl⟩;go_wp2;go_roundw
    case rel=>exact⟨a,m,rfl,rfl,h1,by omega,by omega,n+n2,rfl⟩
    case measure=>simp[intOf];omega
  ·obtain rfl:a=dL l key:=by omega
   go_wp2;go_ret;exact⟨rfl,n,rfl⟩
theorem jA (v:Value)(l:PL)(key:ByteArray)(w:World)(hl:Lst w w.heap.size v l)(hr:bG l=true):
  Calls Tryz.prog 95 #[v,.string key] w fun e w'=>e= .returned (.tuple #[.int .i64 (dL l key),.bool (aM l key)])/\Below w.heap.size w w':=by
 obtain⟨A,c,rfl,hc⟩:=hl.form;have hby:=hl.bytes;have hpl:=sC l key;have HL:=aA hl;have HR:=aA hr;clear hl hr;have b0:Below w.heap.size w ((w.alloc (.cells #[.slice A l.length c] 27)).alloc (.cells #[.string key] 9)):=((aD _ _).alloc (aI _) _).alloc (by simp) _
 by_cases hlt:dL l key<l.length
 ·obtain⟨hf,_⟩:=qH HR.out hlt;obtain⟨b,off,rfl,hb,c0,c1⟩:=HL.out.pt hlt;have g1:decide ((dL l key:Int)<(l.length:Int))=true:=cF (by omega);have g2:decide (dL l key<l.length)=true:=cF hlt;have hlt2:(dL l key:Int)<(l.length:Int):=by omega
  cases he:bN (l[dL l key]).1 key
  all_goals
   rw[he]at hf;have HF:=aA hf;unfold bN at he;clear hf;go_enter Tryz.func95,Tryz.ntmps95;go_wp2_with fail;refine(zN _ l key _ _ _ _ (HL.out.step b0) HR.out (by simp[go_sem]) (by simp[go_sem])).mono ?_;rintro e w1 ⟨rfl,n,rfl⟩;generalize hm:dL l key=m at*;have HM:=aA hm;clear hm;go_wp2
   go_quiet (fail)
   go_wp2
   go_ret2
   exact⟨by rw[HF.out,HM.out];rfl,aZ (aZ b0 _) _⟩
 ·have HF:=aA (vQ (k:=key) HR.out (by omega));have g1:decide ((dL l key:Int)<(l.length:Int))=false:=aY (by omega);have g2:decide (dL l key<l.length)=false:=aY hlt;go_enter Tryz.func95,Tryz.ntmps95;go_wp2_with fail;refine(zN _ l key _ _ _ _ (HL.out.step b0) HR.out (by simp[go_sem]) (by simp[go_sem])).mono ?_;rintro e w1 ⟨rfl,n,rfl⟩;generalize hm:dL l key=m at*;have HM:=aA hm;clear hm;go_wp2
  go_quiet (fail)
  go_wp2
  go_ret2
  exact⟨by rw[HF.out,HM.out];rfl,aZ (aZ b0 _) _⟩
theorem qI:(Tryz.prog.info? 60).map (fun i=>(i.zero,i.size,i.bytes))=some (some (.agg #[.string ⟨#[]⟩,.string ⟨#[]⟩]),2,32):=by kernel_rfl
theorem lY (a b:ByteArray): ∀u∈([.string a,.string b]:List Value),u.oneCell'=true:=by
 intro u hu;simp only[List.mem_cons,List.not_mem_nil,or_false]at hu;rcases hu with rfl|rfl<;>rfl
section
variable {l out:PL}{key val:ByteArray}{k:Nat}{p:ByteArray×ByteArray}{r:PL}
end
end Go.Proofs.YtpbaobmegomfpabGreatDoor
namespace Go.Proofs.YtpbaobmegomfpabGreatDoor
open Go.RowKit Go.Lib
theorem sE (w:World)(ty:TypeId)(g o dLen dCap:Nat)(a:Addr)(sLen sCap:Nat)(cur:Array Value)(t:TypeId)(cs:List Value)
  (hg:w.heap[g]? =some (.cells cur t (0,0))) (hn:cs.length=Nat.min sLen dLen*2)
  (hsrc: ∀j v,cs[j]? =some v->w.cell? (a.add j)=some v) (hfit:o+cs.length<=cur.size) (h1: ∀v∈cs,v.oneCell'=true):
  (Builtin.copy_ #[27,27] ty #[.slice (some ⟨g,o,none⟩) dLen dCap,.slice (some a) sLen sCap]).run Tryz.prog w=
   .ok (goInt (Nat.min sLen dLen)) (w.setRow g (cur.toList.take o++cs++cur.toList.drop (o+cs.length)).toArray):=by
 obtain⟨i0,hi,hz0,hz1,hz2⟩:=info_parts qI;have hl:=run_loadCells_list (P:=Tryz.prog) w a cs hsrc;have hst:=run_storeCells_at Tryz.prog g o t cs 0 cur w hg (by simpa using hfit) h1;have e:Nat.min sLen dLen*2=cs.length:=hn.symm;simp[Builtin.copy_,run_underlying Tryz.underlying27,Builtin.lenOf,Builtin.firstCells,sizeOf,typeInfo,hi,hz1,e,hl,hst]
theorem sF (w:World)(g:Nat)(cs:Array Value):(w.setRow g cs).heap.size=w.heap.size:=by simp[World.setRow]
theorem oN (w:World)(g:Nat)(cs:Array Value)(k:Nat)(h:k≠g):(w.setRow g cs).heap[k]? =w.heap[k]? :=by
 simp only[World.setRow,Array.getElem?_modify];rw[if_neg (fun e=>h e.symm)]
theorem vR (w:World)(g:Nat)(cs:Array Value):w.grownBy (w.setRow g cs) (some g):=
 ⟨rfl,rfl,rfl,by rw[sF];exact aI _,fun k hk hne=>oN w g cs k (fun e=>hne (by rw[e]))⟩
structure OwnL (w:World)(g cap:Nat)(l:PL):Prop where
 row:RowTo w g 60 (cap*2) (bO l)
 len:l.length<=cap
 most:cap<=9223372036854775807
theorem OwnL.own {w:World}{g cap:Nat}{l:PL}(h:OwnL w g cap l):w.ownsRow 0 60 2 (.slice (some ⟨g,0,none⟩) l.length cap) l.length (bO l):=by
 obtain⟨cur,hh,hs,hx⟩:=h.row;exact⟨fE l,.inr ⟨g,cap,cur,rfl,Nat.zero_le _,hh,h.len,by have:=h.most;unfold maxLen;omega,hs,by rw[fE]at hx;exact hx⟩⟩
def oO (w:World)(g:Nat)(l':PL)(e:Ending)(w':World):Prop:=
 ∃g' cap',e= .returned (.slice (some ⟨g',0,none⟩) l'.length cap')/\OwnL w' g' cap' l'/\(g'=g\/w.heap.size<=g')/\w.grownBy w' (some g)
theorem zAi {w w1:World}{g c:Nat}{n:Nat}{v1:Value}{l:PL}{key val:ByteArray}(ho1:w1.ownsRow 0 60 2 v1 (l.length+1) (bO l++[.string key,.string val]))(hg1:w.grownBy w1 (Value.slice (some ⟨g,0,none⟩) n c).ownBlock)
  (hl:v1.ownBlock=(Value.slice (some ⟨g,0,none⟩) n c).ownBlock\/v1.ownBlock=some w.heap.size):oO w g (l++[(key,val)]) (.returned v1) w1:=by
 obtain⟨_,⟨_,h0⟩|⟨g',cap',cur,hv,_,hh,hc,hm,hz,hx⟩⟩:=ho1
 ·omega
 subst hv;have e1:(l++[(key,val)]).length=l.length+1:=by simp
 have e2:bO (l++[(key,val)])=bO l++[.string key,.string val]:=kW l [(key,val)];refine⟨g',cap',by rw[e1],⟨⟨cur,hh,hz,?_⟩,by rw[e1];exact hc,hm⟩,?_,hg1⟩
 ·rw[fE,e1,e2];exact hx
 ·rcases hl with h|h
  ·left;injection h
  ·right;injection h with h;exact Nat.le_of_eq h.symm
theorem zAj (g c vb:Nat)(l:PL)(key val:ByteArray)(w:World)(ho:OwnL w g c l)(hn:l.length<=1000)(hv:RowTo w vb 60 2 [.string key,.string val]):
  Calls Tryz.prog 114 #[.slice (some ⟨g,0,none⟩) l.length c,.int .i64 l.length,.slice (some ⟨vb,0,none⟩) 1 1] w (oO w g (l++[(key,val)])):=by
 obtain⟨i0,hi,hz0,hz1,hz2⟩:=info_parts qI;have HI:=aA (aJ hi (aJ hz0 (aJ hz1 hz2)));clear hi hz0 hz1 hz2;have hlc:=ho.len;have hcm:=ho.most;have HO:=aA ho.own
 have HF := aA (fun (j : Nat) (u : Value) (h : ([.string key, .string val] : List Value)[j]? = some u) => (show w.cell? ((⟨vb, 0, none⟩ : Addr).add j) = some u from by
  rw[Addr.add_lit,cW];have hj:j<([.string key,.string val]:List Value).length:=(fN.1 h).1
  rw [hv.cell hj, ← h, dP hj]))
 have HG:=aA ho.row.lt;clear ho hv;go_enter Tryz.func114,Tryz.ntmps114;go_wp2_with (at_builtin;refine wpList_append_own_at _ rfl _ _ 27 rfl 0 60 i0 _ 2 32 Tryz.underlying27 HI.out.1 HI.out.2.1 HI.out.2.2.1 HI.out.2.2.2 rfl (by decide) (.slice (some ⟨g,0,none⟩) l.length c) _ _ rfl HO.out ⟨vb,0,none⟩ 1 1 [.string key,.string val] rfl rfl HF.out (lY _ _) (by unfold maxLen;omega) (by omega) (Nat.zero_le _) ?_;intro v1 w1 ho1 hg1 hnil1 hloc1)
 all_goals
  go_ret;exact zAi ho1 hg1 hloc1
theorem zAk {cur fl vs R1 R2:List Value}{i n:Nat}(hfl:fl.length=n*2)(hi:i<=n)(hcur:cur.take (n*2)=fl)(hlen:n*2+2<=cur.length)(hvs:vs.length=2)
  (h1:R1=cur.take ((i+1)*2)++fl.drop (i*2)++cur.drop ((i+1)*2+(fl.drop (i*2)).length)) (h2:R2=R1.take (i*2)++vs++R1.drop (i*2+vs.length)):
  R1.length=cur.length/\R2.length=cur.length/\R2.take ((n+1)*2)=fl.take (i*2)++vs++fl.drop (i*2):=by
 have la:(cur.take ((i+1)*2)).length=(i+1)*2:=by rw[gK];omega
 have ld:(fl.drop (i*2)).length=n*2-i*2:=by rw[List.length_drop,hfl]
 have e1:R1.take (i*2)=fl.take (i*2):=by
  rw[h1,List.append_assoc,List.take_append_of_le_length (by rw[la];omega),List.take_take,<-hcur,List.take_take]
  congr 1;omega
 have e2:R1.drop (i*2+vs.length)=fl.drop (i*2)++cur.drop ((i+1)*2+(fl.drop (i*2)).length):=by
  rw[h1,hvs,List.append_assoc,List.drop_append,la,List.drop_of_length_le (by rw[la];omega),List.nil_append,show i*2+2-(i+1)*2=0 by omega,List.drop_zero]
 have l1:R1.length=cur.length:=by
  rw[h1];simp only[eN,la,ld,List.length_drop];omega
 refine⟨l1,?_,?_⟩
 ·rw[h2];simp only[eN,gK,List.length_drop,l1,hvs];omega
 ·rw[h2,e1,e2,<-List.append_assoc,List.take_append_of_le_length (by simp only[eN,gK,ld,hvs,hfl];omega),jR (by simp only[eN,gK,ld,hvs,hfl];omega)]
theorem zO {w:World}{g cap i:Nat}{l:PL}{p:ByteArray×ByteArray}{arr:Array Value}(hh:w.heap[g]? =some (.cells arr 60 (0,0)))(hs:arr.size=cap*2)(hc:l.length+1<=cap)(hm:cap<=9223372036854775807)(hi:i<=l.length)
  (ht:arr.toList.take ((l.length+1)*2)=(bO l).take (i*2)++[.string p.1,.string p.2]++(bO l).drop (i*2)):OwnL w g cap (l.take i++p::l.drop i):=by
 have e1:(l.take i++p::l.drop i).length=l.length+1:=by simp;omega
 have e2:bO (l.take i++p::l.drop i)=(bO l).take (i*2)++[.string p.1,.string p.2]++(bO l).drop (i*2):=by
  rw[kW,lW,zC]
  have:bO (l.drop i)=(bO l).drop (i*2):=by
   have h1:bO l=(bO l).take (i*2)++bO (l.drop i):=by rw[<-zC,<-kW,List.take_append_drop]
   have h2:((bO l).take (i*2)).length=i*2:=by rw[gK,fE];omega
   rw[h1,List.drop_append,h2,List.drop_take];simp
  rw[this];simp
 exact⟨⟨arr,hh,hs,by rw[fE,e1,e2];exact ht⟩,by rw[e1];exact hc,hm⟩
theorem zAl (g c vb i:Nat)(l:PL)(key val:ByteArray)(w:World)(ho:OwnL w g c l)(hn:l.length<=1000)(hi:i<l.length)(hroom:l.length+1<=c)(hne:vb≠g)(hv:RowTo w vb 60 2 [.string key,.string val]):
  Calls Tryz.prog 114 #[.slice (some ⟨g,0,none⟩) l.length c,.int .i64 i,.slice (some ⟨vb,0,none⟩) 1 1] w (oO w g (l.take i++(key,val)::l.drop i)):=by
 obtain⟨cur,hh,hs,hx⟩:=ho.row;have hcm:=ho.most;obtain⟨vcur,hvh,hvs,hvx⟩:=hv;have hz2:((i:Int)==(l.length:Int))=false:=bJ.2 (by omega)
 have hov: ∀lb cb,(callFunc 133 #[.slice (some ⟨vb,0,none⟩) 1 1,.slice (some ⟨g,(i+1)*2,none⟩) lb cb]).run Tryz.prog w= .ok (.value (.bool false)) w:=fun lb cb=>by
  rw [run_callFunc_extern Tryz.func133 (by kernel_rfl) (by kernel_rfl) (by kernel_rfl) (e := Extern.SlicesOverlaps.overlaps #[27, 27] #[4]) (by kernel_rfl),
   Lib.run_overlaps_apart w 27 4 60 Tryz.underlying27 2 (fun _ => by kernel_rfl) ⟨vb, 0, none⟩ ⟨g, (i + 1) * 2, none⟩ 1 1 lb cb hne 60 60 2 (c * 2) (by simp [World.shape?, hvh, hvs]) (by simp [World.shape?, hh, hs]) (by omega) (by simp [World.frozen?, hvh]) (by simp [World.frozen?, hvh])]
  rfl
 go_enter Tryz.func114,Tryz.ntmps114;have hxl:cur.toList.take (l.length*2)=bO l:=by rw[fE]at hx;exact hx
 have hvx':vcur.toList=[.string key,.string val]:=by
  have:=hvx
  rwa [jR (by simp[hvs])]at this
 have hcl:cur.toList.length=c*2:=by simpa using hs
 obtain⟨R1,hR1⟩: ∃R1,R1=cur.toList.take ((i+1)*2)++(bO l).drop (i*2)++cur.toList.drop ((i+1)*2+((bO l).drop (i*2)).length):=⟨_,rfl⟩;obtain⟨R2,hR2⟩: ∃R2,R2=R1.take (i*2)++[.string key,.string val]++R1.drop (i*2+([.string key,.string val]:List Value).length):=⟨_,rfl⟩;have HR:=aA (zAk (fE l) (dM hi) hxl (by rw[hcl];omega) rfl hR1 hR2);have hfd:((bO l).drop (i*2)).length=(l.length-i)*2:=by rw[List.length_drop,fE];omega
 have hcp1: ∀ty dc sc,(Builtin.copy_ #[27,27] ty #[.slice (some ⟨g,(i+1)*2,none⟩) (l.length+1-(i+1)) dc,.slice (some ⟨g,i*2,none⟩) (l.length+1-i) sc]).run Tryz.prog w.drew= .ok (goInt (Nat.min (l.length+1-i) (l.length+1-(i+1)))) (w.drew.setRow g R1.toArray):=fun ty dc sc=>by
  rw[hR1];refine sE w.drew ty g ((i+1)*2) _ dc ⟨g,i*2,none⟩ _ sc cur _ ((bO l).drop (i*2)) hh (by rw[hfd,show Nat.min (l.length+1-i) (l.length+1-(i+1))=l.length+1-(i+1)from Nat.min_eq_right (by omega)];omega) (fun j v hj=>?_) (by rw[hfd];have:=hs;omega) (fun v hv=>vL l v (List.mem_of_mem_drop hv));rw[Addr.add_lit];have hjj:i*2+j<(bO l).length:=by rw[List.getElem?_drop]at hj;exact(fN.1 hj).1
  have h3:=ho.row.cell hjj;rw[List.getElem?_drop,dP hjj]at hj;rw[<-hj];exact h3
 have hcp2: ∀(W:World),(∀x,W.cell? x=(w.setRow g R1.toArray).cell? x)->W.heap[g]? =(w.setRow g R1.toArray).heap[g]? -> ∀ty dc,(Builtin.copy_ #[27,27] ty #[.slice (some ⟨g,i*2,none⟩) (l.length+1-i) dc,.slice (some ⟨vb,0,none⟩) 1 1]).run Tryz.prog W= .ok (goInt (Nat.min 1 (l.length+1-i))) (W.setRow g R2.toArray):=fun W hWc hWg ty dc=>by
  have hW':W.heap[g]? =some (.cells R1.toArray 60 (0,0)):=hWg.trans (setRow_heap w g cur R1.toArray _ _ hh)
  have := sE W ty g (i * 2) (l.length + 1 - i) dc ⟨vb, 0, none⟩ 1 1 R1.toArray 60 [.string key, .string val] hW' (by rw [show Nat.min 1 (l.length + 1 - i) = 1 from Nat.min_eq_left (by omega)]; rfl) (fun j v hj => by
   rw[Addr.add_lit,cW,hWc];have h4:(w.setRow g R1.toArray).cell? ⟨vb,j,none⟩=w.cell? ⟨vb,j,none⟩:=aV (oN w g _ vb hne);rw[h4];unfold World.cell?;simp only[hvh];show vcur[j]? =some v;rw[<-hj,<-hvx']
   simp) (by have := HR.out.1; simp only [List.size_toArray, fC, List.length_nil]; omega) (lY key val)
  rw[hR2]
  simpa using this
 have hw1:IntKind.i64.wrap ((i:Int)+1)=(i:Int)+1:=IntWalk.i64_in _ (by omega);have hb1:(0:Int)<=(i:Int)+1:=by omega
 have htn:((i:Int)+1).toNat=i+1:=by omega
 have hb2: ¬(c=i+1):=by omega
 have hb3:(i:Int)+1<=(l.length:Int)+1:=by omega
 have hb4: ¬(c=i):=by omega
 have hb5:(i:Int)<=(l.length:Int)+1:=by omega
 have hb6:i<=l.length+1:=by omega
 have hb7:i+1<=l.length+1:=by omega
 have mixed:Tryz.prog.follows Departure.mixedOrders=true:=by kernel_rfl
 have HO:=aA ho;have HH:=aA hh;have HS:=aA hs;clear hR1 hR2 hx hxl hvx' hcl hfd hvx hvs hvh hh hs ho;go_wp2_with (simp only[hov])
 go_region_law_o (refine step_copy_runI rfl _ _ 27 27 rfl (.slice (some ⟨g,(i+1)*2,none⟩) (l.length+1-(i+1)) (c-(i+1))) (.slice (some ⟨g,i*2,none⟩) (l.length+1-i) (c-i)) (by simp[Act.eval,aQ]) (by simp[Act.eval,aQ]) (hcp1 _ _ _) ?_)
 have hc2:=hcp2 (w.drew.setRow g R1.toArray) (fun _=>rfl) rfl;clear hcp1 hcp2 hov;go_wp2;go_ret;have hfin:((w.drew.setRow g R1.toArray).setRow g R2.toArray).heap[g]? =some (.cells R2.toArray 60 (0,0)):=setRow_heap _ g R1.toArray _ _ _ (setRow_heap w.drew g cur R1.toArray _ _ HH.out);refine⟨g,c,?_,zO (p:=(key,val)) hfin (by have:=HR.out.2.1;have:=HS.out;simp only[List.size_toArray];simp at*;omega) hroom hcm (dM hi) (by simpa using HR.out.2.2),.inl rfl,?_⟩
 ·have e1:(l.take i++(key,val)::l.drop i).length=l.length+1:=by simp;omega
  rw[e1];rfl
 ·have h1:=vR w.drew g R1.toArray;have h2:=vR (w.drew.setRow g R1.toArray) g R2.toArray;exact⟨rfl,rfl,rfl,bL h1.size h2.size,fun k hk hne=>(h2.block k (by rw[sF];exact hk) hne).trans (h1.block k hk hne)⟩
theorem zAm {R0 fl vs R1 R2:List Value}{i n G:Nat}(hfl:fl.length=n*2)(hi:i<=n)(h0:R0.take (i*2)=fl.take (i*2))(hlen:R0.length=G*2)(hG:n+1<=G)(hvs:vs.length=2)
  (h1:R1=R0.take (i*2)++vs++R0.drop (i*2+vs.length)) (h2:R2=R1.take ((i+1)*2)++fl.drop (i*2)++R1.drop ((i+1)*2+(fl.drop (i*2)).length)):
  R1.length=G*2/\R2.length=G*2/\R2.take ((n+1)*2)=fl.take (i*2)++vs++fl.drop (i*2):=by
 have la:(fl.take (i*2)).length=i*2:=by rw[gK];omega
 have ld:(fl.drop (i*2)).length=n*2-i*2:=by rw[List.length_drop,hfl]
 have l1:R1.length=G*2:=by rw[h1,h0];simp only[eN,la,hvs,List.length_drop,hlen];omega
 have e1:R1.take ((i+1)*2)=fl.take (i*2)++vs:=by
  rw[h1,h0,List.take_append_of_le_length (by simp only[eN,la,hvs];omega),jR (by simp only[eN,la,hvs];omega)]
 refine⟨l1,?_,?_⟩
 ·rw[h2];simp only[eN,gK,List.length_drop,l1,hfl];omega
 ·rw[h2,e1,List.take_append_of_le_length (by simp only[eN,la,ld,hvs];omega),jR (by simp only[eN,la,ld,hvs];omega)]
theorem zAn (g c vb i:Nat)(l:PL)(key val:ByteArray)(w:World)(ho:OwnL w g c l)(hn:l.length<=1000)(hi:i<l.length)(hroom:c<l.length+1)(hne:vb≠g)(hv:RowTo w vb 60 2 [.string key,.string val]):
  Calls Tryz.prog 114 #[.slice (some ⟨g,0,none⟩) l.length c,.int .i64 i,.slice (some ⟨vb,0,none⟩) 1 1] w (oO w g (l.take i++(key,val)::l.drop i)):=by
 obtain⟨i0,hi0,hz0,hz1,hz2'⟩:=info_parts qI;have hgw:=ho.row.lt;have hvw:=hv.lt;have hcm:=ho.most;have hlc:=ho.len;have hz2:((i:Int)==(l.length:Int))=false:=bJ.2 (by omega);have hft:((bO l).take (i*2)).length=i*2:=by rw[gK,fE];omega
 have hfd:((bO l).drop (i*2)).length=(l.length-i)*2:=by rw[List.length_drop,fE];omega
 have hold:(Builtin.firstCells i0.size i (.slice (some ⟨g,0,none⟩) i c)).run Tryz.prog w.drew= .ok ((bO l).take (i*2)).toArray w.drew:=by
  rw[hz1]
  exact run_firstCells_some w.drew 2 i ⟨g, 0, none⟩ i c ((bO l).take (i * 2)) hft (fun j v hj => by
   rw[Addr.add_lit,cW];rw[List.getElem?_take]at hj
   split at hj
   ·have hjj:=(fN.1 hj).1;have h3:=ho.row.cell hjj;rw[dP hjj]at hj;rw[<-hj];exact h3
   ·cases hj)
 obtain⟨G,hG⟩: ∃G,G=grownCap w (l.length+1) c 60:=⟨_,rfl⟩;have hGn:l.length+1<=G:=by rw[hG];exact grownCap_ge w _ _ _
 have hG63:G<=9223372036854775807:=by
  have:=grownCap_le_maxLen w (l.length+1) c 60 (by unfold maxLen;omega);rw[<-hG]at this;unfold maxLen at this;omega
 obtain⟨ROW,hROW⟩: ∃ROW:Array Value,ROW=((bO l).take (i*2)).toArray++Builtin.zeroCells (Value.agg #[.string ⟨#[]⟩,.string ⟨#[]⟩]).cells (l.length+1-i)++Builtin.zeroCells (Value.agg #[.string ⟨#[]⟩,.string ⟨#[]⟩]).cells (G-(l.length+1)):=⟨_,rfl⟩;have hkk:(l.length:Int)+1-(i:Int)=((l.length+1-i:Nat):Int):=by omega
 have hrz: ∀ty,(Builtin.append_ #[27,3] ty #[.slice (some ⟨g,0,none⟩) i c,.int .i64 ((l.length:Int)+1-(i:Int))]).run Tryz.prog w= .ok (.slice (some ⟨w.heap.size,0,none⟩) (l.length+1) G) (w.drew.alloc (.cells ROW 60)):=fun ty=>by
  have hik:i+(l.length+1-i)=l.length+1:=by omega
  have h:=Lib.run_append_grow_zeros w 27 3 ty 60 i0 _ .i64 .i64 Tryz.underlying27 Tryz.underlying3 hi0 hz0 (some ⟨g,0,none⟩) i c ((bO l).take (i*2)) hold (l.length+1-i) (by omega) (by omega) (by omega) (by omega) (by rw[hz2'];omega) (by rw[hz2',hik];exact growslice_fits hroom (by omega));rw[hik]at h;rw[hkk,hROW,hG];exact h
 have hRl:ROW.toList.length=G*2:=by
  rw[hROW];simp[Builtin.zeroCells,Value.cells,hft];omega
 have hR0:ROW.toList.take (i*2)=(bO l).take (i*2):=by
  rw[hROW];simp only[Array.toList_append,List.append_assoc];rw[List.take_append_of_le_length (by simp only[hft];omega),jR (by simp only[hft];omega)]
 obtain⟨R1,hR1⟩: ∃R1,R1=ROW.toList.take (i*2)++[.string key,.string val]++ROW.toList.drop (i*2+([.string key,.string val]:List Value).length):=⟨_,rfl⟩;obtain⟨R2,hR2⟩: ∃R2,R2=R1.take ((i+1)*2)++(bO l).drop (i*2)++R1.drop ((i+1)*2+((bO l).drop (i*2)).length):=⟨_,rfl⟩;have hrg:=zAm (fE l) (dM hi) hR0 hRl hGn rfl hR1 hR2;have HR:=aA hrg;have hX:(w.alloc (.cells ROW 60)).heap[w.heap.size]? =some (.cells ROW 60 (0,0)):=heap_alloc_new w _
 have hcA: ∀(W:World),(∀x,W.cell? x=(w.alloc (.cells ROW 60)).cell? x)->W.heap[w.heap.size]? =some (.cells ROW 60 (0,0))-> ∀ty dc,(Builtin.copy_ #[27,27] ty #[.slice (some ⟨w.heap.size,i*2,none⟩) (l.length+1-i) dc,.slice (some ⟨vb,0,none⟩) 1 1]).run Tryz.prog W= .ok (goInt (Nat.min 1 (l.length+1-i))) (W.setRow w.heap.size R1.toArray):=fun W hWc hWg ty dc=>by
  rw[hR1]
  exact sE W ty w.heap.size (i * 2) (l.length + 1 - i) dc ⟨vb, 0, none⟩ 1 1 ROW 60 [.string key, .string val] hWg (by rw [show Nat.min 1 (l.length + 1 - i) = 1 from Nat.min_eq_left (by omega)]; rfl) (fun j v hj => by
   rw[Addr.add_lit,cW,hWc,World.cell?_alloc_lt w _ _ hvw];have hjj:=(fN.1 hj).1
   rw [hv.cell hjj, ← hj, dP hjj]) (by have := hRl; simp only [Array.length_toList] at this; simp only [fC, List.length_nil]; omega) (lY key val)
 have hcB: ∀(W:World),(∀x,W.cell? x=((w.alloc (.cells ROW 60)).setRow w.heap.size R1.toArray).cell? x)->W.heap[w.heap.size]? =some (.cells R1.toArray 60 (0,0))-> ∀ty dc sc,(Builtin.copy_ #[27,27] ty #[.slice (some ⟨w.heap.size,(i+1)*2,none⟩) (l.length+1-(i+1)) dc,.slice (some ⟨g,i*2,none⟩) (l.length-i) sc]).run Tryz.prog W= .ok (goInt (Nat.min (l.length-i) (l.length+1-(i+1)))) (W.setRow w.heap.size R2.toArray):=fun W hWc hWg ty dc sc=>by
  have hthis := sE W ty w.heap.size ((i + 1) * 2) (l.length + 1 - (i + 1)) dc ⟨g, i * 2, none⟩ (l.length - i) sc R1.toArray 60 ((bO l).drop (i * 2)) hWg (by rw [hfd, show Nat.min (l.length - i) (l.length + 1 - (i + 1)) = l.length - i from Nat.min_eq_left (by omega)]) (fun j v hj => by
   rw[Addr.add_lit,hWc];have h4:((w.alloc (.cells ROW 60)).setRow w.heap.size R1.toArray).cell? ⟨g,i*2+j,none⟩=(w.alloc (.cells ROW 60)).cell? ⟨g,i*2+j,none⟩:=aV (oN _ _ _ g (Nat.ne_of_lt hgw));rw[h4,World.cell?_alloc_lt w _ _ hgw];have hjj:i*2+j<(bO l).length:=by rw[List.getElem?_drop]at hj;exact(fN.1 hj).1
   have h3:=ho.row.cell hjj;rw[List.getElem?_drop,dP hjj]at hj;rw[<-hj]
   exact h3) (by have := hrg.1; simp only [List.size_toArray]; omega) (fun v hv => vL l v (List.mem_of_mem_drop hv))
  rw[hR2]
  simpa using hthis
 have hA1:=hcA ((w.alloc (.cells ROW 60)).drew) (fun _=>rfl) hX;have hA2:=hcA (w.drew.alloc (.cells ROW 60)) (fun _=>rfl) hX;have hY:((w.alloc (.cells ROW 60)).setRow w.heap.size R1.toArray).heap[w.heap.size]? =some (.cells R1.toArray 60 (0,0)):=setRow_heap _ _ ROW _ _ _ hX;have HY:=aA hY;have hw1:IntKind.i64.wrap ((i:Int)+1)=(i:Int)+1:=IntWalk.i64_in _ (by omega);have hb1:(0:Int)<=(i:Int)+1:=by omega
 have htn:((i:Int)+1).toNat=i+1:=by omega
 have hGi: ¬(G=i):=by omega
 have hGi1: ¬(G=i+1):=by omega
 have hci: ¬(c=i):=by omega
 have hb3:(i:Int)+1<=(l.length:Int)+1:=by omega
 have hb5:(i:Int)<=(l.length:Int):=by omega
 have hb6:i<=l.length:=by omega
 have hz3:(c:Int)<(l.length:Int)+1:=by omega
 have mixed:Tryz.prog.follows Departure.mixedOrders=true:=by kernel_rfl
 have HX:=aA hX;have HB:=aA hcB;clear hi0 hz0 hz1 hz2' hft hfd hold hG hROW hkk hRl hR0 hR1 hR2 hrg hcA hX hY ho hv hcB;go_enter Tryz.func114,Tryz.ntmps114;go_wp2_with (at_builtin;refine Lib.wpList_append_run _ rfl _ _ _ _ rfl _ _ rfl rfl _ _ (hrz _) ?_);have hB:=HB.out (((w.alloc (.cells ROW 60)).drew.setRow w.heap.size R1.toArray).drew) (fun _=>rfl) HY.out;clear hA1 hA2 hrz
 go_region_law_o (refine step_copy_runI rfl _ _ 27 27 rfl (.slice (some ⟨w.heap.size,(i+1)*2,none⟩) (l.length+1-(i+1)) (G-(i+1))) (.slice (some ⟨g,i*2,none⟩) (l.length-i) (c-i)) (by simp[Act.eval,aQ]) (by simp[Act.eval,aQ]) (hB _ _ _) ?_)
 clear hB;go_wp2;go_ret;have hfin:((((w.alloc (.cells ROW 60)).drew.setRow w.heap.size R1.toArray).drew).setRow w.heap.size R2.toArray).heap[w.heap.size]? =some (.cells R2.toArray 60 (0,0)):=setRow_heap _ _ R1.toArray _ _ _ HY.out;refine⟨w.heap.size,G,?_,zO (p:=(key,val)) hfin (by have:=HR.out.2.1;simp only[List.size_toArray];omega) hGn hG63 (dM hi) (by simpa using HR.out.2.2),.inr (aI _),?_⟩
 ·have e1:(l.take i++(key,val)::l.drop i).length=l.length+1:=by simp;omega
  rw[e1];rfl
 ·refine⟨rfl,rfl,rfl,?_,fun k hk hne=>?_⟩
  ·rw[sF];show w.heap.size<=((w.alloc (.cells ROW 60)).drew.setRow w.heap.size R1.toArray).heap.size;rw[sF];show w.heap.size<=(w.alloc (.cells ROW 60)).heap.size;simp
  ·rw[oN _ _ _ k (Nat.ne_of_lt hk)];show((w.alloc (.cells ROW 60)).drew.setRow w.heap.size R1.toArray).heap[k]? =_;rw[oN _ _ _ k (Nat.ne_of_lt hk)];exact Below.heap_alloc w _ k hk
theorem zAo (g c vb:Nat)(l:PL)(key val:ByteArray)(w:World)(ho:OwnL w g c l)(hr:bG l=true)(hn:l.length<=1000)(hf:aM l key=false)(hne:vb≠g)(hv:RowTo w vb 60 2 [.string key,.string val]):
  Calls Tryz.prog 114 #[.slice (some ⟨g,0,none⟩) l.length c,.int .i64 (dL l key),.slice (some ⟨vb,0,none⟩) 1 1] w (oO w g (cI l key val)):=by
 rw[zM hr hf];have hp:=sC l key
 by_cases h1:dL l key=l.length
 ·rw[h1,List.take_length,List.drop_length];exact zAj g c vb l key val w ho hn hv
 ·by_cases h2:l.length+1<=c
  ·exact zAl g c vb _ l key val w ho hn (by omega) h2 hne hv
  ·exact zAn g c vb _ l key val w ho hn (by omega) (by omega) hne hv
end Go.Proofs.YtpbaobmegomfpabGreatDoor

/-
  PoolRuns:for every input that the statement speaks of,the Go function tillermanlaw.PoolRuns returns true and its arguments read as before.
  Conditions:the package-level tables hold what the program's text lays in them (the card ties that).
-/
import Derived.Test.YtpbaobmegomfpabGreatDoorCards
import Derived.Test.YtpbaobmegomfpabGreatDoorG24
import Derived.OpenShut
import Derived.ShutString
import Derived.ChangeOld
import Derived.Deep.DeepHandedRow
set_option linter.unusedVariables false
set_option linter.unusedSimpArgs false
set_option maxRecDepth 100000
set_option maxHeartbeats 16000000
namespace Go.Proofs.YtpbaobmegomfpabGreatDoor.poolRuns
open Go.ChangeShapes Go.WideShapes Go.ChangeAt Go.RowKit Go.Joins
open Go.ChangeMaps (open_string shut_string)

theorem own:ownKnob Tryz.prog.godebug=none:=by kernel_rfl
theorem laidOut:laidOutB Tryz.prog=true:=by kernel_rfl

theorem contract (H:Type)(enc:TypeId×Value->H)(W:World)(base:Nat)(args:Array Value)(ds gs:List (DataW H))(before:List MemPlace)
    (hval: ∀(j:Nat) t v,Tryz.f3.params[j]? =some t->args[j]? =some v->Value.okWide Tryz.prog W .any base t v)
    (hW:DataW.Whole enc Tryz.prog Tryz.f3.params.toList Rows.poolRunsSpec.vars false W args.toList ds gs before) (hL:laidMetH Tryz.prog Rows.poolRunsRow.laid W) (hsz:(DataW.weightsEach Tryz.prog (Tryz.f3.params.toList++Rows.poolRunsSpec.plain.varTypes Tryz.prog) (ds++gs)).all (· <=reachBytes)=true):
    Calls Tryz.prog 3 args W fun e W'=> ∃v,e= .returned v/\Rows.poolRunsSpec.post enc Tryz.prog Tryz.f3 false true false false W args v W':=by
  have hW':=hW;obtain⟨p,q,hA0,hV,rfl,hfz,hnd⟩:=hW;have hA:DataW.TrodAll enc Tryz.prog W 0 (fun _=>true) true Tryz.f3.params.toList args.toList ds p:=hA0;rw[Tryz.params3]at hA hval hsz;obtain⟨v0,vs0,d0,ds0,p0,q0,hargs,rfl,rfl,h0,r0⟩:=trodAll_cons hA;obtain⟨v1,vs1,d1,ds1,p1,q1,rfl,rfl,rfl,h1,r1⟩:=trodAll_cons r0;obtain⟨rfl,rfl,rfl⟩:=trodAll_nil r1;obtain rfl:args=#[v0,v1]:=by cases args;simp_all
  obtain⟨rfl,rfl⟩:=trodVars_none hV;have k0:=h0;have lt0: ∀x∈p0,x.block<W.heap.size:=by obtain⟨m,hm⟩:=k0;exact DataW.trod_lt m _ _ _ hm
  obtain⟨c0_0,c0_1,y0_0,y0_1,m0,rfl,rfl,rfl,hy0_0,hy0_1⟩:=open_agg2 Tryz.underlying23 (by kernel_rfl) (show Tryz.prog.cellsOf 23=2 by kernel_rfl) (hval 0 23 v0 rfl rfl) h0;obtain⟨a0_0,e0_0,rfl,w0_0⟩:=DataW.trod_int Tryz.underlying3 hy0_0;obtain rfl:=by simpa using e0_0
  obtain⟨a0_1,e0_1,rfl,w0_1⟩:=DataW.trod_int Tryz.underlying3 hy0_1;obtain rfl:=by simpa using e0_1
  have k1:=h1;have lt1: ∀x∈p1,x.block<W.heap.size:=by obtain⟨m,hm⟩:=k1;exact DataW.trod_lt m _ _ _ hm
  have z1: ∀n∈d1.weights Tryz.prog 24,n<=reachBytes:=fun n hn=>by have h:=List.all_eq_true.1 hsz n (DataW.weights_mem_each (j:=1) rfl rfl n hn);simpa using h
  obtain⟨ww1,hw1⟩:=mAg (hval 1 24 v1 rfl rfl) h1 z1;clear hA0;refine(mAm a0_0 a0_1 v1 ww1 W w0_0 w0_1 hw1 (laidFacts hL)).mono fun e W' ⟨he,bel⟩=>?_
  subst he;exact⟨_,rfl,_,_,_,[],_,[],hW',trodAll_mk1 (shut_bool Tryz.underlying4 _),(trodAll_cons_mk (Below.trod laidOut (by kernel_rfl) (of_decide_eq_true (by kernel_rfl)) k0 bel lt0) (trodAll_cons_mk (Below.trod laidOut (by kernel_rfl) (of_decide_eq_true (by kernel_rfl)) k1 bel lt1) trodAll_mk0)),rfl,bel.frame _,fun h=>by cases h⟩

def setTab (cs:Array Value):Obj->Obj
  | .cells _ t frozen=> .cells cs t frozen
  |o=>o
/-- A world for the witness: the tables hold what their initialisers lay. -/
noncomputable def laidWorld (os:Os):World:=
  {World.holding Tryz.prog os ⟨#[],#[],[]⟩with heap:=(((World.holding Tryz.prog os ⟨#[],#[],[]⟩).heap).modify 1 (setTab #[.string ⟨#[]⟩,.string ⟨#[98,101,103,105,110]⟩,.string ⟨#[99,111,109,109,105,116]⟩,.string ⟨#[114,111,108,108,98,97,99,107]⟩,.string ⟨#[114,101,115,101,116]⟩,.string ⟨#[102,97,105,108]⟩,.string ⟨#[103,101,116]⟩,.string ⟨#[114,101,97,100]⟩,.string ⟨#[101,120,101,99]⟩,.string ⟨#[115,101,116]⟩,.string ⟨#[112,117,116]⟩,.string ⟨#[112,114,101,112]⟩])).modify 0 (setTab #[.string ⟨#[]⟩,.string ⟨#[111,107]⟩,.string ⟨#[61]⟩,.string ⟨#[110,111,110,101]⟩,.string ⟨#[33]⟩])}
theorem laid_met (os:Os):laidMet Tryz.prog Rows.poolRunsRow.laid ((laidWorld os).forCall (fun _ _=>0) ⟨#[],#[.agg #[.int .i64 0,.int .i64 0],.slice none 0 0],[]⟩).memory:=
  laidMet_of_run' 8 (by kernel_rfl) (by kernel_rfl)
theorem reads (os:Os){H:Type}(enc:TypeId×Value->H): ∃places,DataW.whole enc Tryz.prog ((laidWorld os).forCall (fun _ _=>0) ⟨#[],#[.agg #[.int .i64 0,.int .i64 0],.slice none 0 0],[]⟩).memory Tryz.f3.params.toList Rows.poolRunsSpec.vars false (#[.agg #[.int .i64 0,.int .i64 0],.slice none 0 0]:Array Value).toList 8=some ([.agg [.lit (.int .i64 0),.lit (.int .i64 0)],.nil],[],places):=
  ⟨[],by kernel_rfl⟩

set_option maxRecDepth 100000 in
theorem lifted (os:Os)(started:os.Started)(H:Type)(enc:TypeId×Value->H)(F:Stop.Interp):
    ReturnsInHanded {} Tryz.checked os 3 .any ((OpenSpec.ofChange Rows.poolRunsSpec).preRow enc Tryz.prog Tryz.f3 Rows.poolRunsRow.domain false Rows.poolRunsRow.laid) (((OpenSpec.ofChange Rows.poolRunsSpec).at F).post enc Tryz.prog Tryz.f3 false true false false):=by
  obtain⟨places,hx⟩:=reads os enc
  refine returnsInHanded_of_row (C:=Tryz.checked) (s:=(OpenSpec.ofChange Rows.poolRunsSpec)) own started (by kernel_rfl) Tryz.func3
    (witness_row_at (enc := enc) (C := Tryz.checked) false (laidWorld os) #[.agg #[.int .i64 0, .int .i64 0], .slice none 0 0] rfl (by kernel_rfl) (by kernel_rfl) (by kernel_rfl)
      (OpenSpec.preRow_of_cond 8 hx (by kernel_rfl) (fun k hk => by cases hk) (by kernel_rfl) (laid_met os))) ?_
  intro W base args ds gs before hval hW _ hcond hsz hL _ _;exact contract H enc W base args ds gs before hval hW hL hsz

theorem said:Rows.PoolRunsSaid:=
  OpenClaim.holds_of_cond 3 Tryz.f3 rfl rfl rfl rfl rfl rfl rfl ⟨rfl,rfl,rfl,rfl,rfl⟩ rfl rfl rfl rfl rfl (by kernel_rfl) Tryz.func3 (by kernel_rfl)
    (of_decide_eq_true (by kernel_rfl)) (by unfold Func.isWrapper;first|(rw[if_pos (by decide+kernel)];kernel_rfl)|(rw[if_neg (by decide+kernel)];exact⟨rfl,rfl⟩))
    (fun os started H enc _ F=>by rw[OpenClaim.pre_eq_preRow];exact lifted os started H enc F)

theorem plain (f:FuncId)(fn:Func)(hf:Tryz.pinned.checked.prog.funcNamed "tillerman/tillermanlaw.PoolRuns" =some f)(hfn:Tryz.pinned.checked.prog.funcs[f]? =some fn):
    false=Tryz.pinned.checked.prog.looks []/\ ∀(j:Nat) t,fn.params[j]? =some t->Tryz.pinned.checked.prog.wantsStandIn t=false:=by
  obtain rfl:f=3:=Option.some.inj ((show Tryz.prog.funcNamed "tillerman/tillermanlaw.PoolRuns" =some 3 by kernel_rfl).symm.trans hf)|>.symm
  obtain rfl:fn=Tryz.f3:=(Option.some.inj (Tryz.func3.symm.trans hfn)).symm;refine⟨by kernel_rfl,fun j t ht=>?_⟩;rw[Tryz.params3]at ht;have ht2:=Array.mem_of_getElem? ht;simp only[Array.mem_def,List.mem_cons,List.not_mem_nil,or_false]at ht2;rcases ht2 with rfl|rfl
  · exact(show Tryz.prog.wantsStandIn 23=false by kernel_rfl)
  · exact(show Tryz.prog.wantsStandIn 24=false by kernel_rfl)

theorem proved:Rows.PoolRunsCardSaid:=
  Claim7.holds_tied_plain_at .later [] _ _ _ _ said (fun _ h=>by cases h) (by kernel_rfl) (fun _ h=>by cases h) yAn rfl ⟨rfl,rfl⟩ (by kernel_rfl) rfl plain (by kernel_rfl)
end Go.Proofs.YtpbaobmegomfpabGreatDoor.poolRuns

/-
  Texts of the proof.
-/
import Derived.Test.YtpbaobmegomfpabGreatDoorG8
import Derived.ArgAppend
import Derived.Deep.Upon
import Derived.Laws.IdiomCopy
import Derived.Tactics
import Derived.Lib.SliceRun
set_option linter.unusedVariables false
set_option linter.unusedSimpArgs false
set_option maxRecDepth 100000
set_option maxHeartbeats 16000000
open List renaming getElem_cons_zero→aB,getElem_cons_succ→aC,set_cons_zero→aG,set_cons_succ→aF,getElem?_eq_getElem→dP,getD_eq_getElem?_getD→eU,take_succ_eq_append_getElem→gO,getElem?_eq_some_iff→fN,length_append→eN,length_map→dR,mem_cons_self→gJ,length_set→fI,length_cons→fC,length_take→gK,mem_cons_of_mem→iZ
open Nat renaming le_refl→aI,lt_of_lt_of_le→bD,le_trans→bL,zero_add→cW
open Go.Lib renaming hid→aA
open Go.RowKit.Below renaming refl→aD,heap_setCell→bF
open Go.World renaming cell?_of_block→aV,frozen?_of_block→iR,setCell→cE
open And renaming intro→aJ
open Classical renaming byContradiction→gP
open Bool renaming and_eq_true→eB,or_eq_true→fO
open Go renaming below_drewN→aZ
namespace Go.Proofs.YtpbaobmegomfpabGreatDoor
open Go.RowKit
def InP (P:Nat->Prop)(v:Value)(l:PL):Prop:=0<l.length-> ∀b off n c,v= .slice (some ⟨b,off,none⟩) n c->P b
theorem Lst.keepP {w w':World}{B B':Nat}{v:Value}{l:PL}{P:Nat->Prop}(h:Lst w B v l)(hp:InP P v l)(hk: ∀b,P b->w'.heap[b]? =w.heap[b]?)(hB: ∀b,P b->b<B'):Lst w' B' v l:=by
 refine⟨h.form,h.bytes,h.sizes,fun hn=>?_,h.nil⟩;obtain⟨b,off,c,e,hb,hc⟩:=h.cells hn;have hP:=hp hn b off _ c e;exact⟨b,off,c,e,hB b hP,fun i hi=>⟨(aV (hk b hP)).trans (hc i hi).1,(aV (hk b hP)).trans (hc i hi).2⟩⟩
theorem InP.mono {P Q:Nat->Prop}{v:Value}{l:PL}(h:InP P v l)(hpq: ∀b,P b->Q b):InP Q v l:=fun hn b off n c e=>hpq b (h hn b off n c e)
theorem Lst.inP {w:World}{B:Nat}{v:Value}{l:PL}(h:Lst w B v l):InP (· <B) v l:=fun hn b off n c e=>by
 obtain⟨b',off',c',e',hb,_⟩:=h.cells hn;rw[e']at e;injection e with e;injection e with e;injection e with e;rw[<-e];exact hb
theorem InP.and {P Q:Nat->Prop}{v:Value}{l:PL}(h:InP P v l)(h2:InP Q v l):InP (fun b=>P b/\Q b) v l:=fun hn b off n c e=>⟨h hn b off n c e,h2 hn b off n c e⟩
theorem InP.nil_ (P:Nat->Prop)(v:Value):InP P v []:=fun h=>absurd h (by simp)
theorem gM {w:World}{B:Nat}{v:Value}{l:PL}{P:Nat->Prop}(h:Lst w B v l)(hp:InP P v l):InP (fun b=>P b/\b<B) v l:=hp.and h.inP
def oV (w:World)(R:Nat):Prop:= ∀o st A n c,w.cell? ⟨R,o,none⟩=some (.int .i64 st)->w.cell? ⟨R,o+1,none⟩≠some (.slice A n c)
theorem wR {w:World}{R:Nat}{x y:Int}{s:ByteArray}(h:RowTo w R 46 3 [.int .i64 x,.string s,.int .i64 y]):oV w R:=by
 intro o st A n c h1 h2;have r1:=h.cell (j:=1) (by simp);have r2:=h.cell (j:=2) (by simp);simp only[aB,aC]at r1 r2;rcases Nat.lt_or_ge (o+1) 3 with hj|hj
 ·obtain rfl|rfl:o=0\/o=1:=by omega
  ·rw[r1]at h2;cases h2
  ·rw[r2]at h2;cases h2
 ·rw[h.out_ hj]at h2;cases h2
theorem qA5 {w:World}{R t:Nat}{a b:Option Addr}{n m c d:Nat}(h:RowTo w R t 2 [.slice a n c,.slice b m d]):oV w R:=by
 intro o st A n' c' h1 h2;have r0:=h.cell (j:=0) (by simp);have r1:=h.cell (j:=1) (by simp);simp only[aB,aC]at r0 r1;rcases Nat.lt_or_ge o 2 with hj|hj
 ·obtain rfl|rfl:o=0\/o=1:=by omega
  ·rw[r0]at h1;cases h1
  ·rw[r1]at h1;cases h1
 ·rw[h.out_ hj]at h1;cases h1
theorem Sss.off {w w':World}{B R:Nat}{v:Value}{ss:List Sess}(h:Sss w B v ss)(h2:lI w R)(hs:oV w R)(hk: ∀b,b≠R->w'.heap[b]? =w.heap[b]?):Sss w' B v ss:=by
 refine⟨h.form,h.bytes,fun hn=>?_⟩;obtain⟨b,off,c,e,hb,hc⟩:=h.cells hn
 have hne:b≠R:=by
  rintro rfl;obtain⟨v1,v2,v3,v4,q⟩:=hc 0 hn;obtain⟨A,c',hv,_⟩:=q.l1.form;have:=q.c1;rw[hv]at this;exact hs _ _ _ _ _ q.c0 this
 refine⟨b,off,c,e,hb,fun i hi=>?_⟩;obtain⟨v1,v2,v3,v4,q⟩:=hc i hi;have cs: ∀j,w'.cell? ⟨b,j,none⟩=w.cell? ⟨b,j,none⟩:=fun j=>aV (hk b hne)
 exact⟨v1,v2,v3,v4,(cs _).trans q.c0,(cs _).trans q.c1,(cs _).trans q.c2,(cs _).trans q.c3,(cs _).trans q.c4,q.l1.offN h2 hk,q.l2.offN h2 hk,q.l3.offN h2 hk,q.l4.offN h2 hk⟩
theorem Wld.off {w w':World}{B R:Nat}{r s:Value}{W:Wd}(h:Wld w B r s W)(h2:lI w R)(hs:oV w R)(hk: ∀b,b≠R->w'.heap[b]? =w.heap[b]?):Wld w' B r s W:=⟨h.rows.offN h2 hk,h.sess.off h2 hs hk⟩
theorem Wld.set2 {w:World}{R t:Nat}{a b:Option Addr}{n m c d:Nat}{r s:Value}{W:Wd}(h:Wld w w.heap.size r s W)(hR:RowTo w R t 2 [.slice a n c,.slice b m d])(x y:Value):Wld ((w.setCell ⟨R,0,none⟩ x).setCell ⟨R,1,none⟩ y) ((w.setCell ⟨R,0,none⟩ x).setCell ⟨R,1,none⟩ y).heap.size r s W:=by
 have:((w.setCell ⟨R,0,none⟩ x).setCell ⟨R,1,none⟩ y).heap.size=w.heap.size:=by simp[cE]
 rw[this];exact h.off (nU hR) (qA5 hR) fun b hb=>by rw[bF _ _ _ _ hb,bF _ _ _ _ hb]
theorem Wld.set3 {w:World}{R:Nat}{x y:Int}{z:ByteArray}{r s:Value}{W:Wd}(h:Wld w w.heap.size r s W)(hR:RowTo w R 46 3 [.int .i64 x,.string z,.int .i64 y])(a b c:Value):Wld (((w.setCell ⟨R,0,none⟩ a).setCell ⟨R,1,none⟩ b).setCell ⟨R,2,none⟩ c) (((w.setCell ⟨R,0,none⟩ a).setCell ⟨R,1,none⟩ b).setCell ⟨R,2,none⟩ c).heap.size r s W:=by
 have:(((w.setCell ⟨R,0,none⟩ a).setCell ⟨R,1,none⟩ b).setCell ⟨R,2,none⟩ c).heap.size=w.heap.size:=by simp[cE]
 rw[this];exact h.off (mT hR) (wR hR) fun b hb=>by rw[bF _ _ _ _ hb,bF _ _ _ _ hb,bF _ _ _ _ hb]
theorem RowTo.set2 {w:World}{R t:Nat}{a b:Value}(h:RowTo w R t 2 [a,b])(x y:Value):RowTo ((w.setCell ⟨R,0,none⟩ x).setCell ⟨R,1,none⟩ y) R t 2 [x,y]:=(h.put (j:=0) (by simp) x).put (j:=1) (by simp) y
theorem RowTo.set3 {w:World}{R t:Nat}{a b c:Value}(h:RowTo w R t 3 [a,b,c])(x y z:Value):RowTo (((w.setCell ⟨R,0,none⟩ x).setCell ⟨R,1,none⟩ y).setCell ⟨R,2,none⟩ z) R t 3 [x,y,z]:=((h.put (j:=0) (by simp) x).put (j:=1) (by simp) y).put (j:=2) (by simp) z
theorem RowTo.oth2 {w:World}{R g t n:Nat}{xs:List Value}(h:RowTo w g t n xs)(hne:R≠g)(x y:Value):RowTo ((w.setCell ⟨R,0,none⟩ x).setCell ⟨R,1,none⟩ y) g t n xs:=(h.other (p:=⟨R,0,none⟩) hne x).other (p:=⟨R,1,none⟩) hne y
theorem RowTo.oth3 {w:World}{R g t n:Nat}{xs:List Value}(h:RowTo w g t n xs)(hne:R≠g)(x y z:Value):RowTo (((w.setCell ⟨R,0,none⟩ x).setCell ⟨R,1,none⟩ y).setCell ⟨R,2,none⟩ z) g t n xs:=((h.other (p:=⟨R,0,none⟩) hne x).other (p:=⟨R,1,none⟩) hne y).other (p:=⟨R,2,none⟩) hne z
theorem uAj {B R:Nat}{a w:World}(h:Below B a w)(hR:B<=R)(x y:Value):Below B a ((w.setCell ⟨R,0,none⟩ x).setCell ⟨R,1,none⟩ y):=(h.setCell (p:=⟨R,0,none⟩) hR x).setCell (p:=⟨R,1,none⟩) hR y
theorem mE {B R:Nat}{a w:World}(h:Below B a w)(hR:B<=R)(x y z:Value):Below B a (((w.setCell ⟨R,0,none⟩ x).setCell ⟨R,1,none⟩ y).setCell ⟨R,2,none⟩ z):=((h.setCell (p:=⟨R,0,none⟩) hR x).setCell (p:=⟨R,1,none⟩) hR y).setCell (p:=⟨R,2,none⟩) hR z
theorem bR {w:World}{g t n:Nat}{a b:Value}(h:RowTo w g t n [a,b]):w.cell? ⟨g,0,none⟩=some a/\w.cell? ⟨g,1,none⟩=some b:=⟨h.cell (j:=0) (by simp),h.cell (j:=1) (by simp)⟩
theorem bA {w:World}{g t n:Nat}{a b c:Value}(h:RowTo w g t n [a,b,c]):w.cell? ⟨g,0,none⟩=some a/\w.cell? ⟨g,1,none⟩=some b/\w.cell? ⟨g,2,none⟩=some c:=⟨h.cell (j:=0) (by simp),h.cell (j:=1) (by simp),h.cell (j:=2) (by simp)⟩
def oW:Nat->List UInt8
 |1=>[111,107]
 |2=>[61]
 |3=>[110,111,110,101]
 |4=>[33]
 |_=>[]
def dJ (k:Nat):ByteArray:=⟨(oW k).toArray⟩
def tA:Nat->ByteArray
 |0=>⟨#[73]⟩
 |1=>⟨#[84]⟩
 |_=>⟨#[70]⟩
def bM (k st:Nat)(x:ByteArray):ByteArray:=(tA st++dJ k)++x
structure Req where
 k:Int
 key:ByteArray
 val:ByteArray
def Req.none_:Req:=⟨0,⟨#[]⟩,⟨#[]⟩⟩
def Req.fine (r:Req):Prop:=r=Req.none_\/bZ r.k r.key r.val=0
structure iD where
 c:Nat
 r:Req
 a:cU
 st:Int
structure Cl where
 bytes:ByteArray
 wait:List Req
 srv:Option Nat
def Cl.new:Cl:=⟨⟨#[]⟩,[],none⟩
structure mF (E:Type) where
 exec:E->Nat->Nat->Req->E×cU×Int
 state:E->Nat->Option Nat->Int
 grant:E->Nat->Nat->E
 free:E->Nat->Nat->E
 leave:E->Nat->Option Nat->E
structure Mach (E:Type) where
 e:E
 cl:List Cl
 busy:List Bool
 line:List Nat
 sent:List ByteArray
 deeds:List iD
def nV:ByteArray:=⟨#[110,111,116,32,117,110,100,101,114,115,116,111,111,100]⟩
def nW:ByteArray:=⟨#[110,111,116,32,105,110,32,116,104,105,115,32,109,111,100,101]⟩
def fG (mode:Int)(r:Req):ByteArray:=if r.k=0 then nV else if r.k=1/\mode=3 then nW else⟨#[]⟩
def eJ (mode:Int)(r:Req):Bool:=decide (r.k=0\/(r.k=1/\mode=3))
def dD (mode:Int)(x:Cl):Bool:=match x.wait with
 |[]=>false
 |r::_=>x.srv.isSome||eJ mode r
section
variable {E:Type}(o:mF E)(mode:Int)
def Mach.get (m:Mach E)(c:Nat):Cl:=m.cl.getD c Cl.new
def Mach.set (m:Mach E)(c:Nat)(x:Cl):Mach E:={m with cl:=m.cl.set c x}
def eZ (a:cU)(st:Int):ByteArray:=lS 82 (bM a.kind.toNat st.toNat a.text)
def Mach.tell (m:Mach E)(c:Nat)(a:cU)(st:Int):Mach E:={m with sent:=m.sent.set c (m.sent.getD c ⟨#[]⟩++eZ a st)}
def Mach.release (m:Mach E)(c s:Nat):Mach E:={m with e:=o.free m.e c s,busy:=m.busy.set s false,cl:=m.cl.set c {m.get c with srv:=none}}
def Mach.proc (m:Mach E)(c:Nat):Mach E:=match(m.get c).wait with
 |[]=>m
 |r::rest=>
  if eJ mode r then(m.set c {m.get c with wait:=rest}).tell c ⟨4,fG mode r⟩ (o.state m.e c (m.get c).srv)
  else
   let x:=o.exec m.e c ((m.get c).srv.getD 0) r
   let m2:=Mach.tell {m.set c {m.get c with wait:=rest}with e:=x.1,deeds:=m.deeds++[⟨c,r,x.2.1,x.2.2⟩]} c x.2.1 x.2.2
   if mode≠1/\x.2.2=0 then m2.release o c ((m.get c).srv.getD 0)else m2
def fQ (m:Mach E)(l:List Nat)(c:Nat):List Nat:=if(m.get c).wait≠[]/\ ¬c∈l then l++[c]else l
def Mach.enq (m:Mach E):Mach E:={m with line:=(List.range 6).foldl (fQ m) m.line}
def Mach.assign (m:Mach E):Bool×Mach E:=match m.line with
 |[]=>(false,m)
 |c::l=>if m.busy.idxOf false<m.busy.length then(true,{m with line:=l,busy:=m.busy.set (m.busy.idxOf false) true,cl:=m.cl.set c {m.get c with srv:=some (m.busy.idxOf false)},e:=o.grant m.e c (m.busy.idxOf false)})else(false,m)
def Mach.firstR (m:Mach E):Option Nat:=(List.range 6).find? (fun c=>dD mode (m.get c))
def Mach.step (m:Mach E):Bool×Mach E:=match m.firstR mode with
 |some c=>(true,m.proc o mode c)
 |none=>m.enq.assign o
def Mach.iter:Nat->Mach E->Mach E
 |0,m=>m
 |n+1,m=>if(m.step o mode).1 then Mach.iter n (m.step o mode).2 else(m.step o mode).2
def waits (l:List Cl):Nat:=(l.map fun x=>x.wait.length).sum
def bare (l:List Cl):Nat:=l.countP fun x=>x.srv.isNone
def Mach.mu (m:Mach E):Nat:=2*waits m.cl+bare m.cl
def Mach.all (m:Mach E):Mach E:=m.iter o mode (m.mu+1)
def Mach.leave (m:Mach E)(c:Nat):Mach E:=
 { m with e := o.leave m.e c (m.get c).srv, busy := match (m.get c).srv with
   |some s=>m.busy.set s false
   | none => m.busy, line := m.line.filter (fun n => n != c), cl := m.cl.set c Cl.new }
def pull (b:ByteArray):Option (UInt8×ByteArray×Nat):=if h:2<=b.size then(if 2+b[1].toNat<=b.size then some (b[0],b.extract 2 (2+b[1].toNat),2+b[1].toNat)else none)else none
def fK (k:UInt8)(t:ByteArray):Req:=if k=81/\dI t=0 then⟨aU (aK t),aK (cutB t),cutB (cutB t)⟩else Req.none_
def Mach.feed:Nat->Mach E->Nat->Mach E
 |0,m,_=>m
 |n+1,m,c=>match pull (m.get c).bytes with
  |none=>m
  |some (k,t,j)=>if k=88 then(m.all o mode).leave o c else Mach.feed n (m.set c {m.get c with bytes:=(m.get c).bytes.extract j (m.get c).bytes.size,wait:=(m.get c).wait++[fK k t]}) c
def Mach.deliver (m:Mach E)(c:Nat)(data:ByteArray):Mach E:=(m.set c {m.get c with bytes:=(m.get c).bytes++data}).feed o mode ((m.get c).bytes.size+data.size+1) c
structure Act where
 kind:Int
 c:Int
 data:ByteArray
def Mach.act (m:Mach E)(a:Act):Mach E:=(if a.kind=1 then m.deliver o mode a.c.toNat a.data else m.leave o a.c.toNat).all o mode
def Mach.run (m:Mach E)(l:List Act):Mach E:=l.foldl (fun m a=>m.act o mode a) m
def Mach.start (e:E)(n:Nat):Mach E:=⟨e,List.replicate 6 Cl.new,List.replicate n false,[],List.replicate 6 ⟨#[]⟩,[]⟩
end
def dY (mode servers:Int):Int:=if mode<1\/3<mode then 3 else if servers<1\/4<servers then 2 else 0
def dZ (a:Act):Int:=if¬(a.kind=1\/a.kind=2)then 3 else if a.c<0\/6<=a.c then 2 else if 1000<a.data.size then 1 else 0
def eA:List Act->Int
 |[]=>0
 |a::l=>if dZ a≠0 then dZ a else eA l
def eL (mode servers:Int)(l:List Act):Int:=if dY mode servers≠0 then dY mode servers else if 300<l.length then 1 else eA l
structure PE where
 w:Wd
 kept:List (PL×PL)
def PE.of (e:PE)(c:Nat):PL×PL:=e.kept.getD c ([],[])
def iW (p q:ByteArray×ByteArray):Bool:=bN p.1 q.1&&bN p.2 q.2
def eE (l o:PL):PL:=l.filter fun q=>!o.any fun p=>iW p q
def eR (w:Wd)(s:Nat)(k:Int)(l:PL):Wd:=l.foldl (fun w q=>(doM w s k q.1 q.2).1) w
def jV (w:Wd)(s:Nat)(p:PL×PL):Wd:=
 let w1:=if(eE (w.at s).set p.1).length>0\/(eE (w.at s).prep p.2).length>0 then(doM w s 4 ⟨#[]⟩ ⟨#[]⟩).1 else w
 eR (eR w1 s 9 (eE p.1 (w1.at s).set)) s 11 (eE p.2 (w1.at s).prep)
def PE.free (e:PE)(c s:Nat):PE:=⟨e.w,e.kept.set c ((e.w.at s).set,(e.w.at s).prep)⟩
def PE.state (e:PE)(srv:Option Nat):Int:=match srv with
 |none=>0
 |some s=>(e.w.at s).st
def aO:mF PE where
 exec e c s r:=let x:=doM e.w s r.k r.key r.val;(⟨x.1,e.kept⟩,x.2,(x.1.at s).st)
 state e _ srv:=e.state srv
 grant e c s:=⟨jV e.w s (e.of c),e.kept⟩
 free e c s:=e.free c s
 leave e c srv:=match srv with
  |none=>⟨e.w,e.kept.set c ([],[])⟩
  |some s=>⟨if(e.w.at s).st≠0 then(doM e.w s 3 ⟨#[]⟩ ⟨#[]⟩).1 else e.w,e.kept.set c ([],[])⟩
def Sess.zero:Sess:=⟨0,[],[],[],[]⟩
def bC:mF Wd where
 exec e c _ r:=let x:=doM e c r.k r.key r.val;(x.1,x.2,(x.1.at c).st)
 state e c _:=(e.at c).st
 grant e _ _:=e
 free e _ _:=e
 leave e c _:=e.put c Sess.zero
def gA (n:Nat):PE:=⟨⟨[],List.replicate n Sess.zero⟩,List.replicate 6 ([],[])⟩
def jO:Wd:=⟨[],List.replicate 6 Sess.zero⟩
theorem tB: ∀{l:List Cl} {c:Nat} {x:Cl} (h:c<l.length),waits (l.set c x)+l[c].wait.length=waits l+x.wait.length
 |a::l,0,x,_=>by simp[waits];omega
 |a::l,c+1,x,h=>by
  have:=tB (l:=l) (c:=c) (x:=x) (by simpa using h);simp only[waits,aF,List.map_cons,List.sum_cons,aC]at this ⊢;omega
theorem tC: ∀{l:List Cl} {c:Nat} {x:Cl} (h:c<l.length),bare (l.set c x)+l[c].srv.isNone.toNat=bare l+x.srv.isNone.toNat
 |a::l,0,x,_=>by
  simp only[bare,aG,List.countP_cons,aB]
  cases a.srv.isNone<;>cases x.srv.isNone<;>simp
 |a::l,c+1,x,h=>by
  have:=tC (l:=l) (c:=c) (x:=x) (by simpa using h);simp only[bare,aF,List.countP_cons,aC]at this ⊢;omega
section
variable {E:Type}{o:mF E}{mode:Int}{m:Mach E}
theorem nX {c:Nat}(h:c<m.cl.length):m.get c=m.cl[c]:=by
 unfold Mach.get;rw[eU,dP h];rfl
theorem uAk {c:Nat}(h:m.cl.length<=c):m.get c=Cl.new:=by
 unfold Mach.get;rw[eU,List.getElem?_eq_none h];rfl
theorem jW {α:Type}(l:List α)(c d:Nat)(x z:α):(l.set c x).getD d z=if c=d/\c<l.length then x else l.getD d z:=by
 rw[eU,eU,List.getElem?_set]
 by_cases h:c=d
 ·subst h
  by_cases h2:c<l.length
  ·simp[h2]
  ·simp[h2]
 ·simp[h]
theorem cZ {c d:Nat}{x:Cl}(h:c<m.cl.length):(m.set c x).get d=if c=d then x else m.get d:=by
 unfold Mach.get Mach.set;simp only;rw[jW];by_cases e:c=d<;>simp[e,h];intro hh;omega
theorem oX {c d:Nat}{x:Cl}(h:c<m.cl.length):(m.cl.set c x).getD d Cl.new=if c=d then x else m.get d:=cZ h
structure MOk (mode:Int)(m:Mach E):Prop where
 n6:m.cl.length=6
 s6:m.sent.length=6
 line: ∀c∈m.line,c<6/\(m.get c).srv=none/\(m.get c).wait≠[]/\dD mode (m.get c)=false
 nodup:m.line.Nodup
 fine: ∀c r,r∈(m.get c).wait->r.fine
 srv: ∀c s,(m.get c).srv=some s->m.busy[s]? =some true
 inj: ∀c d s,(m.get c).srv=some s->(m.get d).srv=some s->c=d
 own: ∀s,m.busy[s]? =some true-> ∃c,(m.get c).srv=some s
theorem tD {c s:Nat}(h:(m.get c).srv=some s):c<m.cl.length:=by
 rcases Nat.lt_or_ge c m.cl.length with h'|h'
 ·exact h'
 ·rw[uAk h']at h;cases h
theorem qP {x:Cl}(h:dD mode x=true): ∃r l,x.wait=r::l/\(x.srv.isSome||eJ mode r)=true:=by
 unfold dD at h
 cases hx:x.wait with
 |nil=>rw[hx]at h;cases h
 |cons r l=>rw[hx]at h;exact⟨r,l,rfl,h⟩
theorem nY {c:Nat}(h:m.firstR mode=some c):c<6/\dD mode (m.get c)=true:=by
 unfold Mach.firstR at h;have h2:=List.find?_some (p:=fun c=>dD mode (m.get c)) h;exact⟨List.mem_range.1 (List.mem_of_find?_eq_some h),h2⟩
theorem wT (h:m.firstR mode=none){c:Nat}(hc:c<6):dD mode (m.get c)=false:=by
 unfold Mach.firstR at h;have:=List.find?_eq_none.1 h c (List.mem_range.2 hc)
 simpa using this
theorem MOk.turn (h:MOk mode m){c:Nat}(hc:c<6){x:Cl}(hf: ∀r∈x.wait,r.fine)(hs:x.srv=(m.get c).srv)(hl:c∈m.line->x.wait≠[]/\dD mode x=false):MOk mode (m.set c x):=by
 have hc':c<m.cl.length:=by rw[h.n6];exact hc
 have hsrv: ∀d,((m.set c x).get d).srv=(m.get d).srv:=fun d=>by
  rw[cZ hc']
  by_cases e:c=d
  ·subst e;rw[if_pos rfl];exact hs
  ·rw[if_neg e]
 refine⟨by simp[Mach.set,h.n6],h.s6,fun d hd=>?_,h.nodup,fun d r hr=>?_,fun d s hd=>?_,fun d d' s h1 h2=>?_,fun s hb=>?_⟩
 ·obtain⟨h1,h2,h3,h4⟩:=h.line d hd;refine⟨h1,(hsrv d).trans h2,?_⟩;rw[cZ hc']
  by_cases e:c=d
  ·subst e;rw[if_pos rfl];exact hl hd
  ·rw[if_neg e];exact⟨h3,h4⟩
 ·rw[cZ hc']at hr
  by_cases e:c=d
  ·rw[if_pos e]at hr;exact hf r hr
  ·rw[if_neg e]at hr;exact h.fine d r hr
 ·rw[hsrv]at hd;exact h.srv d s hd
 ·rw[hsrv]at h1 h2;exact h.inj d d' s h1 h2
 ·obtain⟨d,hd⟩:=h.own s hb;exact⟨d,(hsrv d).trans hd⟩
theorem MOk.same (h:MOk mode m){m':Mach E}(h1:m'.cl=m.cl)(h2:m'.busy=m.busy)(h3:m'.line=m.line)(h4:m'.sent.length=6):MOk mode m':=by
 have hg: ∀c,m'.get c=m.get c:=fun c=>by unfold Mach.get;rw[h1]
 exact ⟨by rw [h1]; exact h.n6, h4, fun c hc => by rw [h3] at hc; rw [hg]; exact h.line c hc, by rw [h3]; exact h.nodup, fun c r hr => by rw [hg] at hr; exact h.fine c r hr,
  fun c s hs => by rw [hg] at hs; rw [h2]; exact h.srv c s hs, fun c d s a b => by rw [hg] at a b; exact h.inj c d s a b, fun s hs => by rw [h2] at hs; obtain ⟨c, hc⟩ := h.own s hs; exact ⟨c, by rw [hg]; exact hc⟩⟩
theorem MOk.tell (h:MOk mode m)(c:Nat)(a:cU)(st:Int):MOk mode (m.tell c a st):=h.same rfl rfl rfl (by simp[Mach.tell,h.s6])
theorem MOk.release (h:MOk mode m){c s:Nat}(hs:(m.get c).srv=some s):MOk mode (m.release o c s):=by
 have hc':=tD hs;have hc:c<6:=by rw[h.n6]at hc';exact hc'
 have hg: ∀d,(m.release o c s).get d=if c=d then{m.get c with srv:=none}else m.get d:=fun d=>cZ (m:=m) hc'
 have hn:c ∉ m.line:=fun hl=>by have:=(h.line c hl).2.1;rw[hs]at this;cases this
 refine⟨by simp[Mach.release,h.n6],h.s6,fun d hd=>?_,h.nodup,fun d r hr=>?_,fun d s' hd=>?_,fun d d' s' h1 h2=>?_,fun s' hb=>?_⟩
 ·have e:c≠d:=fun e=>hn (by rw[e];exact hd)
  rw[hg,if_neg e];exact h.line d hd
 ·rw[hg]at hr
  by_cases e:c=d
  ·rw[if_pos e]at hr;exact h.fine c r hr
  ·rw[if_neg e]at hr;exact h.fine d r hr
 ·rw[hg]at hd
  by_cases e:c=d
  ·rw[if_pos e]at hd;cases hd
  ·rw[if_neg e]at hd;have hne:s≠s':=fun e'=>e (h.inj c d s hs (by rw[e'];exact hd))
   show(m.busy.set s false)[s']? =_;rw[List.getElem?_set_ne hne];exact h.srv d s' hd
 ·rw[hg]at h1 h2
  by_cases e:c=d
  ·rw[if_pos e]at h1;cases h1
  ·by_cases e':c=d'
   ·rw[if_pos e']at h2;cases h2
   ·rw[if_neg e]at h1;rw[if_neg e']at h2;exact h.inj d d' s' h1 h2
 ·have hb:(m.busy.set s false)[s']? =some true:=hb
  by_cases e:s=s'
  ·subst e;rw[List.getElem?_set_self (fN.1 (h.srv c s hs)).1]at hb;cases hb
  ·rw[List.getElem?_set_ne e]at hb;obtain⟨d,hd⟩:=h.own s' hb;refine⟨d,?_⟩;rw[hg,if_neg (fun e'=>e (by rw[<-e',hs]at hd;injection hd))];exact hd
theorem uAl (h:MOk mode m){c s:Nat}(hs:(m.get c).srv=some s):(m.release o c s).mu=m.mu+1:=by
 have hc':=tD hs;have e:=nX (m:=m) hc';have h1:=tB (x:={m.get c with srv:=none}) hc';have h2:=tC (x:={m.get c with srv:=none}) hc';rw[<-e]at h1 h2;rw[hs]at h2;simp only[Option.isNone_some,Option.isNone_none,Bool.toNat_false,Bool.toNat_true,Nat.add_zero]at h2;simp only at h1;unfold Mach.mu Mach.release;simp only;omega
theorem wU (h:MOk mode m){c:Nat}(hr:dD mode (m.get c)=true):c ∉ m.line:=fun hl=>by
 have:=(h.line c hl).2.2.2;rw[hr]at this;cases this
theorem MOk.proc (h:MOk mode m){c:Nat}(hc:c<6)(hr:dD mode (m.get c)=true):MOk mode (m.proc o mode c)/\(m.proc o mode c).mu<m.mu:=by
 have hc':c<m.cl.length:=by rw[h.n6];exact hc
 have hn:=wU h hr;obtain⟨r,l,hw,hs⟩:=qP hr;have h1:MOk mode (m.set c {m.get c with wait:=l}):=h.turn hc (fun q hq=>h.fine c q (by rw[hw];exact iZ _ hq)) rfl (fun hl=>absurd hl hn);have e:=nX (m:=m) hc';have q1:=tB (x:={m.get c with wait:=l}) hc';have q2:=tC (x:={m.get c with wait:=l}) hc';rw[<-e]at q1 q2;rw[hw]at q1;simp only[fC]at q1 q2;have q3:(m.set c {m.get c with wait:=l}).mu+2=m.mu:=by unfold Mach.mu Mach.set;simp only;omega
 unfold Mach.proc;simp only[hw]
 by_cases hf:eJ mode r=true
 ·rw[if_pos hf];exact⟨h1.tell _ _ _,by show(m.set c {m.get c with wait:=l}).mu<_;omega⟩
 ·rw[if_neg hf];have hsv:(m.get c).srv.isSome=true:=by rw[fO]at hs;exact hs.resolve_right hf
  obtain⟨s,hs⟩:=Option.isSome_iff_exists.1 hsv
  have h2:MOk mode (Mach.tell {m.set c {m.get c with wait:=l}with e:=(o.exec m.e c ((m.get c).srv.getD 0) r).1,deeds:=m.deeds++[⟨c,r,(o.exec m.e c ((m.get c).srv.getD 0) r).2.1,(o.exec m.e c ((m.get c).srv.getD 0) r).2.2⟩]} c (o.exec m.e c ((m.get c).srv.getD 0) r).2.1 (o.exec m.e c ((m.get c).srv.getD 0) r).2.2):=
   h1.same rfl rfl rfl (by simp[Mach.tell,Mach.set,h.s6])
  split
  ·refine⟨h2.release (by show((m.set c _).get c).srv=_;rw[cZ hc',if_pos rfl,hs];rfl),?_⟩;rw[uAl h2 (by show((m.set c _).get c).srv=_;rw[cZ hc',if_pos rfl,hs];rfl)];show(m.set c {m.get c with wait:=l}).mu+1<_;omega
  ·exact⟨h2,by show(m.set c {m.get c with wait:=l}).mu<_;omega⟩
theorem uAm {l:List Nat}{c d:Nat}:d∈fQ m l c ↔ d∈l\/(d=c/\(m.get c).wait≠[]):=by
 unfold fQ
 by_cases h:(m.get c).wait≠[]/\ ¬c∈l
 ·rw[if_pos h];simp only[List.mem_append,List.mem_singleton];exact⟨fun hh=>hh.imp_right fun e=>⟨e,h.1⟩,fun hh=>hh.imp_right And.left⟩
 ·rw[if_neg h];refine⟨.inl,fun hh=>?_⟩;rcases hh with hh|⟨rfl,hw⟩
  ·exact hh
  ·exact gP fun hn=>h ⟨hw,hn⟩
theorem uAn {l:List Nat}{c:Nat}(h:l.Nodup):(fQ m l c).Nodup:=by
 unfold fQ
 split
 ·rename_i hh
  rw[List.nodup_append];exact⟨h,by simp,fun a ha b hb e=>by rw[List.mem_singleton]at hb;subst hb;subst e;exact hh.2 ha⟩
 ·exact h
theorem qA6: ∀{cs l:List Nat} {d:Nat},d∈cs.foldl (fQ m) l ↔ d∈l\/(d∈cs/\(m.get d).wait≠[])
 |[],l,d=>by simp
 |c::cs,l,d=>by
  rw[List.foldl_cons,qA6,uAm]
  constructor
  ·rintro((h|⟨rfl,h⟩)|⟨h1,h2⟩)
   ·exact .inl h
   ·exact .inr ⟨gJ,h⟩
   ·exact .inr ⟨iZ _ h1,h2⟩
  ·rintro(h|⟨h1,h2⟩)
   ·exact .inl (.inl h)
   ·rcases List.mem_cons.1 h1 with rfl|h1
    ·exact .inl (.inr ⟨rfl,h2⟩)
    ·exact .inr ⟨h1,h2⟩
theorem qA7: ∀{cs l:List Nat},l.Nodup->(cs.foldl (fQ m) l).Nodup
 |[],l,h=>h
 |c::cs,l,h=>by rw[List.foldl_cons];exact qA7 (uAn h)
theorem MOk.enq (h:MOk mode m)(hr:m.firstR mode=none):MOk mode m.enq:=by
 refine⟨h.n6,h.s6,fun d hd=>?_,qA7 h.nodup,h.fine,h.srv,h.inj,h.own⟩;rcases qA6.1 hd with hd|⟨h1,h2⟩
 ·exact h.line d hd
 ·have h6:=List.mem_range.1 h1;have hn:=wT hr h6;refine⟨h6,?_,h2,hn⟩
  cases hx:(m.get d).wait with
  |nil=>exact absurd hx h2
  |cons r l=>
   unfold dD at hn;rw[hx]at hn;simp only[Bool.or_eq_false_iff]at hn;have:(m.get d).srv=none:=Option.not_isSome_iff_eq_none.1 (by rw[hn.1];simp);exact this
theorem qA8 {l:List Bool}(h:l.idxOf false<l.length):l[l.idxOf false]? =some false:=by
 rw[dP h];have:=List.getElem_idxOf h;rw[this]
theorem MOk.assign (h:MOk mode m)(ht:(m.assign o).1=true):MOk mode (m.assign o).2/\(m.assign o).2.mu<m.mu:=by
 unfold Mach.assign at ht ⊢
 cases hl:m.line with
 |nil=>rw[hl]at ht;cases ht
 |cons c l=>
  rw[hl]at ht;simp only at ht ⊢
  by_cases hb:m.busy.idxOf false<m.busy.length
  ·rw[if_pos hb];obtain⟨hc,hs,hw,hr⟩:=h.line c (by rw[hl];exact gJ);have hc':c<m.cl.length:=by rw[h.n6];exact hc
   have hnd:=h.nodup;rw[hl,List.nodup_cons]at hnd;generalize hs0:m.busy.idxOf false=s at*;have hfree:m.busy[s]? =some false:=by rw[<-hs0];exact qA8 (by rw[hs0];exact hb)
   have hg: ∀(q:Mach E) d,q.cl=m.cl.set c {m.get c with srv:=some s}->q.get d=if c=d then{m.get c with srv:=some s}else m.get d:=fun q d hq=>by
    unfold Mach.get;rw[hq];exact oX hc'
   have hns: ∀d,(m.get d).srv≠some s:=fun d hd=>by rw[h.srv d s hd]at hfree;cases hfree
   refine⟨⟨by simp[h.n6],h.s6,fun d hd=>?_,hnd.2,fun d r hr=>?_,fun d s' hd=>?_,fun d d' s' h1 h2=>?_,fun s' hb'=>?_⟩,?_⟩
   ·have e:c≠d:=fun e=>hnd.1 (by rw[e];exact hd)
    rw[hg _ d rfl,if_neg e];exact h.line d (by rw[hl];exact iZ _ hd)
   ·rw[hg _ d rfl]at hr
    by_cases e:c=d
    ·rw[if_pos e]at hr;exact h.fine c r hr
    ·rw[if_neg e]at hr;exact h.fine d r hr
   ·rw[hg _ d rfl]at hd
    by_cases e:c=d
    ·rw[if_pos e]at hd;injection hd with hd;subst hd;show(m.busy.set s true)[s]? =_;rw[List.getElem?_set_self hb]
    ·rw[if_neg e]at hd;have hne:s≠s':=fun e'=>hns d (by rw[e'];exact hd)
     show(m.busy.set s true)[s']? =_;rw[List.getElem?_set_ne hne];exact h.srv d s' hd
   ·rw[hg _ d rfl]at h1;rw[hg _ d' rfl]at h2
    by_cases e:c=d<;>by_cases e':c=d'
    ·rw[<-e,<-e']
    ·rw[if_pos e]at h1;rw[if_neg e']at h2;injection h1 with h1;exact absurd (by rw[h1];exact h2) (hns d')
    ·rw[if_neg e]at h1;rw[if_pos e']at h2;injection h2 with h2;exact absurd (by rw[h2];exact h1) (hns d)
    ·rw[if_neg e]at h1;rw[if_neg e']at h2;exact h.inj d d' s' h1 h2
   ·have hb':(m.busy.set s true)[s']? =some true:=hb'
    by_cases e:s=s'
    ·subst e;exact⟨c,by rw[hg _ c rfl,if_pos rfl]⟩
    ·rw[List.getElem?_set_ne e]at hb';obtain⟨d,hd⟩:=h.own s' hb';exact⟨d,by rw[hg _ d rfl,if_neg (fun e'=>by rw[<-e',hs]at hd;cases hd)];exact hd⟩
   ·have e:=nX (m:=m) hc';have q1:=tB (x:={m.get c with srv:=some s}) hc';have q2:=tC (x:={m.get c with srv:=some s}) hc';rw[<-e]at q1 q2;rw[hs]at q2;simp only[Option.isNone_some,Option.isNone_none,Bool.toNat_false,Bool.toNat_true,Nat.add_zero]at q2;simp only at q1;unfold Mach.mu;simp only;omega
  ·rw[if_neg hb]at ht;cases ht
theorem qA9 (h:(m.assign o).1=false):(m.assign o).2=m:=by
 unfold Mach.assign at h ⊢
 cases hl:m.line with
 |nil=>rfl
 |cons c l=>
  rw[hl]at h;simp only at h ⊢
  by_cases hb:m.busy.idxOf false<m.busy.length
  ·rw[if_pos hb]at h;cases h
  ·rw[if_neg hb]
theorem MOk.step (h:MOk mode m):MOk mode (m.step o mode).2/\((m.step o mode).1=true->(m.step o mode).2.mu<m.mu):=by
 unfold Mach.step
 cases hf:m.firstR mode with
 |some c=>
  obtain⟨hc,hr⟩:=nY hf;have:=h.proc (o:=o) hc hr;exact⟨this.1,fun _=>this.2⟩
 |none=>
  have he:=h.enq hf;simp only
  cases ha:(m.enq.assign o).1 with
  |true=>have:=he.assign ha;exact⟨this.1,fun _=>this.2⟩
  |false=>rw[qA9 ha];exact⟨he,fun hh=>by cases hh⟩
theorem qAa: ∀(n k:Nat) (m:Mach E),MOk mode m->m.mu<n->m.mu<k->m.iter o mode n=m.iter o mode k
 |n+1,k+1,m,h,hn,hk=>by
  simp only[Mach.iter]
  cases ht:(m.step o mode).1 with
  |false=>simp
  |true=>
   have h1:=h.step (o:=o);have h2:=h1.2 ht;simp only[if_true];exact qAa n k _ h1.1 (by omega) (by omega)
theorem wV (h:MOk mode m)(ht:(m.step o mode).1=true):m.all o mode=(m.step o mode).2.all o mode:=by
 have h1:=h.step (o:=o);have h2:=h1.2 ht;unfold Mach.all;rw[Mach.iter,if_pos ht];exact qAa _ _ _ h1.1 (by omega) (by omega)
theorem qQ (ht:(m.step o mode).1=false):m.all o mode=(m.step o mode).2:=by
 unfold Mach.all;rw[Mach.iter,if_neg (by rw[ht];simp)]
theorem wW (P:Mach E->Prop)(Q:Mach E->Mach E->Prop)(hstep: ∀m,MOk mode m->P m->(m.step o mode).1=true->P (m.step o mode).2/\ ∀r,Q (m.step o mode).2 r->Q m r)(hstop: ∀m,MOk mode m->P m->(m.step o mode).1=false->Q m (m.step o mode).2):
  ∀(n:Nat) (m:Mach E),m.mu<=n->MOk mode m->P m->Q m (m.all o mode)
 |0,m,hn,h,hp=>by
  cases ht:(m.step o mode).1 with
  |false=>rw[qQ ht];exact hstop m h hp ht
  |true=>have:=(h.step (o:=o)).2 ht;omega
 |n+1,m,hn,h,hp=>by
  cases ht:(m.step o mode).1 with
  |false=>rw[qQ ht];exact hstop m h hp ht
  |true=>
   have h1:=h.step (o:=o);have h2:=h1.2 ht;have h3:=hstep m h hp ht;rw[wV h ht];exact h3.2 _ (wW P Q hstep hstop n _ (by omega) h1.1 h3.1)
theorem MOk.all (h:MOk mode m):MOk mode (m.all o mode):=
 wW (fun _=>True) (fun _ r=>MOk mode r) (fun m h _ _=>⟨trivial,fun r hr=>hr⟩) (fun m h _ _=>(h.step (o:=o)).1) _ m (aI _) h trivial
theorem MOk.leave (h:MOk mode m){c:Nat}(hc:c<6):MOk mode (m.leave o c):=by
 have hc':c<m.cl.length:=by rw[h.n6];exact hc
 have hg: ∀d,(m.leave o c).get d=if c=d then Cl.new else m.get d:=fun d=>cZ (m:=m) hc'
 have hm: ∀d,d∈(m.leave o c).line ↔ d∈m.line/\d≠c:=fun d=>by
  show d∈m.line.filter _ ↔ _;rw[List.mem_filter];simp
 refine⟨by simp[Mach.leave,h.n6],h.s6,fun d hd=>?_,h.nodup.filter _,fun d r hr=>?_,fun d s hd=>?_,fun d d' s h1 h2=>?_,fun s hb=>?_⟩
 ·obtain⟨h1,h2⟩:=(hm d).1 hd;rw[hg,if_neg (fun e=>h2 e.symm)];exact h.line d h1
 ·rw[hg]at hr
  by_cases e:c=d
  ·rw[if_pos e]at hr;cases hr
  ·rw[if_neg e]at hr;exact h.fine d r hr
 ·rw[hg]at hd
  by_cases e:c=d
  ·rw[if_pos e]at hd;cases hd
  ·rw[if_neg e]at hd;have:=h.srv d s hd;unfold Mach.leave;simp only
   cases hx:(m.get c).srv with
   |none=>exact this
   |some s'=>
    simp only;rw[List.getElem?_set_ne (fun e'=>e (h.inj c d s (by rw[hx,e']) hd))];exact this
 ·rw[hg]at h1 h2
  by_cases e:c=d
  ·rw[if_pos e]at h1;cases h1
  ·by_cases e':c=d'
   ·rw[if_pos e']at h2;cases h2
   ·rw[if_neg e]at h1;rw[if_neg e']at h2;exact h.inj d d' s h1 h2
 ·unfold Mach.leave at hb;simp only at hb
  cases hx:(m.get c).srv with
  |none=>
   rw[hx]at hb;obtain⟨d,hd⟩:=h.own s hb;exact⟨d,by rw[hg,if_neg (fun e=>by rw[<-e,hx]at hd;cases hd)];exact hd⟩
  |some s'=>
   rw[hx]at hb;simp only at hb
   by_cases e:s'=s
   ·subst e;rw[List.getElem?_set_self (fN.1 (h.srv c s' hx)).1]at hb;cases hb
   ·rw[List.getElem?_set_ne e]at hb;obtain⟨d,hd⟩:=h.own s hb;exact⟨d,by rw[hg,if_neg (fun e'=>e (by rw[<-e',hx]at hd;injection hd))];exact hd⟩
theorem wX (k:UInt8)(t:ByteArray):(fK k t).fine:=by
 unfold fK
 split
 ·rename_i h;exact .inr (vZ h.2).1
 ·exact .inl rfl
theorem wY {l:List Req}{r:Req}(h: ∀q∈l,q.fine)(hr:r.fine): ∀q∈l++[r],q.fine:=fun q hq=>by
 rcases List.mem_append.1 hq with hq|hq
 ·exact h q hq
 ·rw[List.mem_singleton]at hq;rw[hq];exact hr
theorem wZ {x:Cl}{r:Req}{b:ByteArray}(hw:x.wait≠[])(hr:dD mode x=false):dD mode {x with bytes:=b,wait:=x.wait++[r]}=false:=by
 unfold dD at hr ⊢
 cases hx:x.wait with
 |nil=>exact absurd hx hw
 |cons q l=>rw[hx]at hr;exact hr
theorem MOk.feed (h:MOk mode m){c:Nat}(hc:c<6)(n:Nat):MOk mode (m.feed o mode n c):=by
 induction n generalizing m with
 |zero=>exact h
 |succ n ih=>
  unfold Mach.feed
  cases hp:pull (m.get c).bytes with
  |none=>exact h
  |some q=>
   obtain⟨k,t,j⟩:=q;simp only
   split
   ·exact h.all.leave hc
   ·refine ih (h.turn hc (wY (fun q hq=>h.fine c q hq) (wX k t)) rfl fun hl=>⟨by simp,?_⟩);obtain⟨_,_,h3,h4⟩:=h.line c hl;exact wZ h3 h4
theorem MOk.bytes (h:MOk mode m){c:Nat}(hc:c<6)(b:ByteArray):MOk mode (m.set c {m.get c with bytes:=b}):=
 h.turn hc (fun r hr=>h.fine c r hr) rfl fun hl=>⟨(h.line c hl).2.2.1,(h.line c hl).2.2.2⟩
theorem MOk.deliver (h:MOk mode m){c:Nat}(hc:c<6)(d:ByteArray):MOk mode (m.deliver o mode c d):=(h.bytes hc _).feed hc _
theorem MOk.act (h:MOk mode m){a:Act}(ha:dZ a=0):MOk mode (m.act o mode a):=by
 have hc:a.c.toNat<6:=by
  unfold dZ at ha
  split at ha
  ·cases ha
  split at ha
  ·cases ha
  omega
 unfold Mach.act
 split
 ·exact(h.deliver hc _).all
 ·exact(h.leave hc).all
theorem lJ {a:Act}{l:List Act}(h:eA (a::l)=0):dZ a=0/\eA l=0:=by
 unfold eA at h
 split at h
 ·rename_i hh;exact absurd h hh
 ·rename_i hh;exact⟨gP hh,h⟩
theorem MOk.run (h:MOk mode m){l:List Act}(hl:eA l=0):MOk mode (m.run o mode l):=by
 induction l generalizing m with
 |nil=>exact h
 |cons a l ih=>exact ih (h.act (lJ hl).1) (lJ hl).2
end
theorem qAb {E:Type}(e:E)(n:Nat)(mode:Int):MOk mode (Mach.start e n):=by
 have hg: ∀c,(Mach.start e n).get c=Cl.new:=fun c=>by
  unfold Mach.get Mach.start;simp only;rw[eU,List.getElem?_replicate]
  split<;>rfl
 refine⟨by simp[Mach.start],by simp[Mach.start],(fun c hc=>by cases hc),List.nodup_nil,(fun c r hr=>by rw[hg]at hr;cases hr),(fun c s hs=>by rw[hg]at hs;cases hs),(fun c d s h1 _=>by rw[hg]at h1;cases h1),fun s hs=>?_⟩;have:(List.replicate n false)[s]? =some true:=hs;rw[List.getElem?_replicate]at this
 split at this<;>cases this
theorem iQ {W:Wd}{i:Nat}(h:i<W.ss.length):W.at i=W.ss[i]:=by
 unfold Wd.at;rw[eU,dP h];rfl
theorem oY {W:Wd}{i:Nat}(h:i<W.ss.length):(⟨W.rows,W.ss.set i (W.at i)⟩:Wd)=W:=by
 rw[iQ h,List.set_getElem_self]
theorem qAc {W:Wd}{s:Nat}(h:s<W.ss.length)(key:ByteArray):W.ss.any (fun x=>aM x.wr key)=(aM (W.at s).wr key||eI W.ss s key):=by
 rw[iQ h];rw[Bool.eq_iff_iff,fO,nR,sJ]
 constructor
 ·rintro⟨k,hk,hf⟩
  by_cases e:k=s
  ·subst e;exact .inl hf
  ·exact .inr ⟨k,hk,hf,by omega⟩
 ·rintro(hf|⟨k,hk,hf,_⟩)
  ·exact⟨s,h,hf⟩
  ·exact⟨k,hk,hf⟩
structure Like (A B:Wd)(s c:Nat):Prop where
 a:bX A
 b:bX B
 hs:s<A.ss.length
 hc:c<B.ss.length
 rows:A.rows=B.rows
 me:A.at s=B.at c
 held: ∀key,eI A.ss s key=eI B.ss c key
section
variable {A B:Wd}{s c:Nat}
theorem Like.fnd (h:Like A B s c)(key:ByteArray):aM (aW A) key=aM (aW B) key:=by
 rw[kM (bW h.a.rows).1,kM (bW h.b.rows).1,qAc h.hs,qAc h.hc,h.rows,h.me,h.held]
theorem Like.len (h:Like A B s c):(aW A).length=(aW B).length:=by
 have h1:=lD (jN h.b) (jN h.a) (fun p hp=>by rw[<-h.fnd];exact lE hp);have h2:=lD (jN h.a) (jN h.b) (fun p hp=>by rw[h.fnd];exact lE hp);omega
def mU (A B:Wd)(s c:Nat)(r q:Wd×cU):Prop:= ∃rows x a,r=(⟨rows,A.ss.set s x⟩,a)/\q=(⟨rows,B.ss.set c x⟩,a)
theorem gF {p:Prop} [Decidable p] {r r' q q':Wd×cU}(h1:mU A B s c r q)(h2:mU A B s c r' q'):mU A B s c (if p then r else r') (if p then q else q'):=by
 by_cases h:p
 ·rw[if_pos h,if_pos h];exact h1
 ·rw[if_neg h,if_neg h];exact h2
theorem Like.same (h:Like A B s c)(a:cU):mU A B s c (A,a) (B,a):=
 ⟨A.rows,A.at s,a,by rw[oY h.hs],by rw[h.rows,h.me,oY h.hc]⟩
theorem Like.put (h:Like A B s c)(x:Sess)(a:cU):mU A B s c (A.put s x,a) (B.put c x,a):=⟨A.rows,x,a,rfl,by rw[h.rows];rfl⟩
theorem Like.did1 (h:Like A B s c)(k:Int)(key val:ByteArray):mU A B s c (did1 A s k key val) (did1 B c k key val):=by
 unfold Go.Proofs.YtpbaobmegomfpabGreatDoor.did1;simp only;rw[h.me,h.rows,h.held,h.fnd,h.len];have hr:=h.rows;refine gF (h.same _) ?_;refine gF (gF (h.put _ _) (h.same _)) ?_;refine gF (gF (h.same _) (gF ⟨_,_,_,rfl,rfl⟩ (h.put _ _))) ?_;refine gF (gF (h.put _ _) (h.same _)) ?_;refine gF (h.same _) ?_;refine gF (h.same _) ?_;refine gF (gF (h.same _) (h.put _ _)) ?_;refine gF (gF (h.same _) (gF (h.same _) (gF (h.put _ _) ?_))) ?_
 ·refine⟨bI B.rows key val,A.at s,dX,?_,?_⟩
  ·rw[show A.ss.set s (A.at s)=A.ss by rw[iQ h.hs,List.set_getElem_self]]
  ·rw[h.me,show B.ss.set c (B.at c)=B.ss by rw[iQ h.hc,List.set_getElem_self]]
 exact gF (gF (h.same _) (h.put _ _)) (h.same _)
theorem Like.didM (h:Like A B s c)(k:Int)(key val:ByteArray):mU A B s c (didM A s k key val) (didM B c k key val):=by
 unfold Go.Proofs.YtpbaobmegomfpabGreatDoor.didM;rw[h.me];refine gF (gF (h.same _) ?_) (h.did1 _ _ _)
 cases aX (B.at c).prep key with
 |none=>exact h.same _
 |some t=>exact h.did1 _ _ _
theorem Like.doM (h:Like A B s c)(k:Int)(key val:ByteArray):mU A B s c (doM A s k key val) (doM B c k key val):=by
 obtain⟨rows,x,a,h1,h2⟩:=h.didM k key val;have e1: ∀y,(⟨rows,A.ss.set s y⟩:Wd).at s=y:=fun y=>by unfold Wd.at;simp only;rw[jW,if_pos ⟨rfl,h.hs⟩]
 have e2: ∀y,(⟨rows,B.ss.set c y⟩:Wd).at c=y:=fun y=>by unfold Wd.at;simp only;rw[jW,if_pos ⟨rfl,h.hc⟩]
 unfold Go.Proofs.YtpbaobmegomfpabGreatDoor.doM;simp only[h1,h2,e1,e2];refine gF ⟨rows,{x with st:=2,wr:=[]},a,?_,?_⟩ ⟨rows,x,a,rfl,rfl⟩
 ·simp[Wd.put]
 ·simp[Wd.put]
end
theorem qAd: ∀{l m:PL},bG l=true->bG m=true->(∀k,aX l k=aX m k)->l=m
 |[],[],_,_,_=>rfl
 |[],q::m,_,_,h=>by have:=h q.1;rw[gT (mN _)]at this;cases this
 |p::l,[],_,_,h=>by have:=h p.1;rw[gT (mN _)]at this;cases this
 |p::l,q::m,hl,hm,h=>by
  have hp: ∀{l:PL} {p:ByteArray×ByteArray},bG (p::l)=true-> ∀k v,aX (p::l) k=some v->p.1=k\/bP p.1 k=true:=fun{l p} hl k v hk=>by
   have:=kF hk;rcases List.mem_cons.1 this with e|hm
   ·left;rw[<-e]
   ·right;exact iM hl _ hm
  have e1:p.1=q.1:=by
   have a1:aX (q::m) p.1=some p.2:=by rw[<-h,gT (mN _)]
   have a2:aX (p::l) q.1=some q.2:=by rw[h,gT (mN _)]
   rcases hp hm _ _ a1 with e|h1
   ·exact e.symm
   ·rcases hp hl _ _ a2 with e|h2
    ·exact e
    ·have:=zB h1;rw[h2]at this;cases this
  have e2:p.2=q.2:=by
   have a1:=h p.1;rw[gT (mN _),gT (by rw[e1];exact mN _)]at a1;injection a1
  have e3 : l = m := qAd (iL hl) (iL hm) (fun k => by
   by_cases e:bN p.1 k=true
   ·have e':=iK.1 e;rw[qF (fun r hr=>fF.2 (fun x=>by have:=hU (iM hl r hr);exact this (by rw[e',x]))),qF (fun r hr=>fF.2 (fun x=>by have:=hU (iM hm r hr);exact this (by rw[<-e1,e',x])))]
   ·have e:bN p.1 k=false:=by simpa using e
    have:=h k
    rwa [fJ e, fJ (by rw [← e1]; exact e)] at this)
  rw[e3,Prod.ext e1 e2]
theorem tE {p q:ByteArray×ByteArray}:iW p q=true ↔ p=q:=by
 unfold iW;rw[eB,iK,iK];exact⟨fun h=>Prod.ext h.1 h.2,fun h=>by rw[h];exact⟨rfl,rfl⟩⟩
theorem jP {l o:PL}{p:ByteArray×ByteArray}:p∈eE l o ↔ p∈l/\p ∉ o:=by
 unfold eE;rw[List.mem_filter];simp only[Bool.not_eq_true',and_congr_right_iff];intro _;rw[<-Bool.not_eq_true,List.any_eq_true];exact⟨fun h hp=>h ⟨p,hp,tE.2 rfl⟩,fun h ⟨q,hq,e⟩=>h (by rw[<-tE.1 e];exact hq)⟩
theorem qAe {l o:PL}:(eE l o).length>0 ↔ ∃p∈l,p ∉ o:=by
 rw[gt_iff_lt,List.length_pos_iff_exists_mem];exact⟨fun⟨p,hp⟩=>⟨p,(jP.1 hp).1,(jP.1 hp).2⟩,fun⟨p,h1,h2⟩=>⟨p,jP.2 ⟨h1,h2⟩⟩⟩
theorem uAo {l:PL}{k v k':ByteArray}(h:bG l=true):aX (bI l k v) k'=if bN k k' then some v else aX l k':=by rw[eS h,rZ h]
theorem uAp {T:PL}(h:bG T=true){p:ByteArray×ByteArray}(hp:p∈T):aX T p.1=some p.2:=by
 induction T with
 |nil=>cases hp
 |cons q T ih=>
  rcases List.mem_cons.1 hp with rfl|hp
  ·exact gT (mN _)
  ·rw[fJ (fF.2 (hU (iM h p hp)))];exact ih (iL h) hp
theorem qAf {T:PL}(hT:bG T=true): ∀{l cur:PL},bG cur=true->(∀p∈cur,p∈T)->(∀p∈l,p∈T)-> ∀k,aX (cL cur l) k=if(aX cur k).isSome||aM l k then aX T k else none
 |[],cur,hc,h1,_,k=>by
  show aX cur k=_;have:aM [] k=false:=rfl;rw[this,Bool.or_false]
  cases h:aX cur k with
  |none=>simp
  |some v=>simp[uAp hT (h1 _ (kF h))]
 |p::l,cur,hc,h1,h2,k=>by
  have hp:=h2 p gJ;have e:cL cur (p::l)=cL (bI cur p.1 p.2) l:=rfl
  rw [e, qAf hT (by rw [eS hc]; exact jL hc) (fun q hq => by
   rcases mP hq with rfl|hq
   ·exact hp
   ·exact h1 q hq) (fun q hq => h2 q (iZ _ hq)), uAo hc]
  have:aM (p::l) k=(bN p.1 k||aM l k):=by
   unfold aM
   cases e:bN p.1 k
   ·rw[fJ e];simp
   ·rw[gT e];simp
  rw[this]
  cases e:bN p.1 k<;>simp
theorem qAg {T cur:PL}(hT:bG T=true)(hc:bG cur=true)(h: ∀p∈cur,p∈T):cL cur (eE T cur)=T:=by
 refine qAd (kAx hc _) hT fun k=>?_
 rw[qAf hT hc h (fun p hp=>(jP.1 hp).1)]
 cases hk:aX T k with
 |none=>split<;>rfl
 |some v=>
  have hm:=kF hk
  by_cases hin:(k,v)∈cur
  ·have:=oL hin;simp only at this;rw[this];simp
  ·have:=lE (jP.2 ⟨hm,hin⟩);simp only at this;rw[this];simp
section
variable {w:Wd}{s:Nat}
theorem iE (hs:s<w.ss.length)(x:Sess):(w.put s x).at s=x:=by unfold Wd.at Wd.put;simp only;rw[jW,if_pos ⟨rfl,hs⟩]
theorem tF (x y:Sess):(w.put s x).put s y=w.put s y:=by unfold Wd.put;simp
theorem uAq (hs:s<w.ss.length)(h0:(w.at s).st=0){key val:ByteArray}(hr:aM (w.at s).set key=true\/(w.at s).set.length<6):(doM w s 9 key val).1=w.put s {w.at s with set:=bI (w.at s).set key val}:=by
 have: ¬(aM (w.at s).set key=false/\6<=(w.at s).set.length):=fun h=>by
  rcases hr with hr|hr
  ·rw[hr]at h;cases h.1
  ·omega
 unfold doM didM did1;simp[h0,this,dX]
theorem uAr (hs:s<w.ss.length)(h0:(w.at s).st=0){key val:ByteArray}(hr:aM (w.at s).prep key=true\/(w.at s).prep.length<6):(doM w s 11 key val).1=w.put s {w.at s with prep:=bI (w.at s).prep key val}:=by
 have: ¬(aM (w.at s).prep key=false/\6<=(w.at s).prep.length):=fun h=>by
  rcases hr with hr|hr
  ·rw[hr]at h;cases h.1
  ·omega
 unfold doM didM did1;simp[h0,this,dX]
theorem qAh {T cur:PL}(hT:bG T=true)(h6:T.length<=6)(hc:bG cur=true)(h: ∀p∈cur,p∈T){p:ByteArray×ByteArray}(hp:p∈T):aM cur p.1=true\/cur.length<6:=by
 cases hf:aM cur p.1
 ·right
  have:=wD hT hc (fun q hq=>lE (h q hq)) (lE hp) hf;omega
 ·exact .inl rfl
theorem qAi {T:PL}(hT:bG T=true)(h6:T.length<=6): ∀{l:PL} {w:Wd} (hs:s<w.ss.length) (h0:(w.at s).st=0) (hr:bG (w.at s).set=true) (h1: ∀p∈(w.at s).set,p∈T) (h2: ∀p∈l,p∈T),eR w s 9 l=w.put s {w.at s with set:=cL (w.at s).set l}
 |[],w,hs,h0,hr,h1,_=>by show w=_;exact(oY hs).symm
 |p::l,w,hs,h0,hr,h1,h2=>by
  have e:eR w s 9 (p::l)=eR (doM w s 9 p.1 p.2).1 s 9 l:=rfl;have hp:=h2 p gJ
  rw [e, uAq hs h0 (qAh hT h6 hr h1 hp), qAi hT h6 (by rw [eY]; exact hs) (by rw [iE hs]; exact h0) (by rw [iE hs]; simp only; rw [eS hr]; exact jL hr) (by
   rw[iE hs];intro q hq;rcases mP hq with rfl|hq
   ·exact hp
   ·exact h1 q hq) (fun q hq => h2 q (iZ _ hq)), iE hs, tF]
  rfl
theorem qAj {T:PL}(hT:bG T=true)(h6:T.length<=6): ∀{l:PL} {w:Wd} (hs:s<w.ss.length) (h0:(w.at s).st=0) (hr:bG (w.at s).prep=true) (h1: ∀p∈(w.at s).prep,p∈T) (h2: ∀p∈l,p∈T),eR w s 11 l=w.put s {w.at s with prep:=cL (w.at s).prep l}
 |[],w,hs,h0,hr,h1,_=>by show w=_;exact(oY hs).symm
 |p::l,w,hs,h0,hr,h1,h2=>by
  have e:eR w s 11 (p::l)=eR (doM w s 11 p.1 p.2).1 s 11 l:=rfl;have hp:=h2 p gJ
  rw [e, uAr hs h0 (qAh hT h6 hr h1 hp), qAj hT h6 (by rw [eY]; exact hs) (by rw [iE hs]; exact h0) (by rw [iE hs]; simp only; rw [eS hr]; exact jL hr) (by
   rw[iE hs];intro q hq;rcases mP hq with rfl|hq
   ·exact hp
   ·exact h1 q hq) (fun q hq => h2 q (iZ _ hq)), iE hs, tF]
  rfl
theorem uAs (h:bX w)(hs:s<w.ss.length)(h0:(w.at s).st=0){p:PL×PL}(hp1:cD p.1 6 9=true)(hp2:cD p.2 6 11=true):jV w s p=w.put s ⟨0,p.1,p.2,[],[]⟩:=by
 have hx:=h.sess s hs;rw[<-iQ hs]at hx;obtain⟨r1,l1,_⟩:=bW hp1;obtain⟨r2,l2,_⟩:=bW hp2;have hsav:=hx.idle h0;have hwr:=hx.tx (by omega);unfold jV;simp only
 obtain⟨x,hw1,hx0,hxs,hxp,hxv,hxw,hrs,hrp,hms,hmp⟩: ∃x:Sess,(if(eE (w.at s).set p.1).length>0\/(eE (w.at s).prep p.2).length>0 then(doM w s 4 ⟨#[]⟩ ⟨#[]⟩).1 else w)=w.put s x/\x.st=0/\True/\True/\x.sav=[]/\x.wr=[]/\bG x.set=true/\bG x.prep=true/\(∀q∈x.set,q∈p.1)/\(∀q∈x.prep,q∈p.2):=by
  by_cases hc:(eE (w.at s).set p.1).length>0\/(eE (w.at s).prep p.2).length>0
  ·rw[if_pos hc];refine⟨{w.at s with set:=[],prep:=[]},?_,h0,trivial,trivial,hsav,hwr,rfl,rfl,(fun q hq=>by cases hq),(fun q hq=>by cases hq)⟩;unfold doM didM did1;simp[h0,dX]
  ·rw[if_neg hc];have h1: ∀q∈(w.at s).set,q∈p.1:=fun q hq=>gP fun hn=>hc (.inl (qAe.2 ⟨q,hq,hn⟩))
   have h2: ∀q∈(w.at s).prep,q∈p.2:=fun q hq=>gP fun hn=>hc (.inr (qAe.2 ⟨q,hq,hn⟩))
   exact⟨w.at s,(oY hs).symm,h0,trivial,trivial,hsav,hwr,(bW hx.set).1,(bW hx.prep).1,h1,h2⟩
 rw[hw1,iE hs];rw[qAi r1 l1 (by rw[eY];exact hs) (by rw[iE hs];exact hx0) (by rw[iE hs];exact hrs) (by rw[iE hs];exact hms) (fun q hq=>(jP.1 hq).1),iE hs,tF,qAg r1 hrs hms];rw[qAj r2 l2 (by rw[eY];exact hs) (by rw[iE hs];exact hx0) (by rw[iE hs];exact hrp) (by rw[iE hs];exact hmp) (fun q hq=>(jP.1 hq).1),iE hs,tF];simp only;rw[qAg r2 hrp hmp,hx0,hxv,hxw]
end
theorem uAt (v:Value)(l:PL)(q1 q2:ByteArray)(w:World)(hl:Lst w w.heap.size v l):
  Calls Tryz.prog 150 #[v,.agg #[.string q1,.string q2]] w fun e w'=> ∃i:Int,e= .returned (.int .i64 i)/\decide (0<=i)=l.any (fun p=>iW p (q1,q2))/\Below w.heap.size w w':=by
 obtain⟨A,c,rfl,hc⟩:=hl.form;have hby:=hl.bytes;have n0:=(aD w.heap.size w).alloc (aI _) (.cells #[.string q1,.string q2] 60);have HL:=aA (hl.below n0);have HN:=aA n0;have X:=RowTo.whole w #[.string q1,.string q2] 60;obtain⟨x0,x1⟩:=bR X;clear hl n0 X;go_enter Tryz.func150,Tryz.ntmps150;go_wp2;generalize hwA:w.alloc (.cells #[.string q1,.string q2] 60)=wA at*;have hsz:wA.heap.size=w.heap.size+1:=by rw[<-hwA];simp
 clear hwA
 go_loopw [8] (fun i wr=> ∃k:Nat,k<=l.length/\i= .int .i64 k/\Hid ((l.take k).any (fun p=>iW p (q1,q2))=false)/\ ∃n,wr=wA.drewN n) (fun i _=>l.length-(intOf i).toNat)
 case atStart=>exact⟨0,by omega,rfl,rfl,0,rfl⟩
 case round=>
  obtain⟨k,hk,rfl,HZ,n,rfl⟩:=hrel
  by_cases hlt:k<l.length
  ·obtain⟨b,off,rfl,hb,c0,c1⟩:=HL.out.pt hlt
   have hs1:(l.take (k+1)).any (fun p=>iW p (q1,q2))=iW l[k] (q1,q2):=by
    rw[gO hlt,List.any_append,HZ.out];simp
   have HS1:=aA hs1;have HAN:=aA (fun(h:iW l[k] (q1,q2)=true)=>show l.any (fun p=>iW p (q1,q2))=true from List.any_eq_true.2 ⟨l[k],List.getElem_mem hlt,h⟩);generalize l[k]=y at*;obtain⟨y1,y2⟩:=y;clear hs1
   cases hq:iW (y1,y2) (q1,q2)with
   |true=>
    have he:y1=q1/\y2=q2:=(by have:=tE.1 hq;injection this with a b;exact⟨a,b⟩);have HT:=aA (HAN.out hq);obtain⟨rfl,rfl⟩:=he;clear hq HAN HS1;go_wp2
    go_quiet (fail)
    go_wp2;go_ret;refine⟨_,rfl,?_,?_⟩
    ·rw[HT.out];simp
    ·exact aZ (aZ HN.out _) _
   |false=>
    have ht:(q1.toList==y1.toList)=false\/(q1=y1/\(q2.toList==y2.toList)=false):=by
     by_cases h1:q1=y1
     ·refine .inr ⟨h1,fF.2 fun h2=>?_⟩;rw[tE.2 (by rw[h1,h2])]at hq;cases hq
     ·exact .inl (fF.2 h1)
    rw[hq]at HS1;clear hq HAN;rcases ht with t1|⟨rfl,t2⟩
    all_goals
     go_wp2
     go_quiet (fail)
     go_wp2;go_roundw
     case rel=>exact⟨k+1,by omega,by go_num,HS1.out,n+nq,rfl⟩
     case measure=>simp[intOf];omega
  ·obtain rfl:k=l.length:=by omega
   rw[List.take_length]at HZ;go_wp2;go_ret;refine⟨_,rfl,?_,?_⟩
   ·rw[HZ.out];decide
   ·exact aZ HN.out _
theorem uAu (v:Value)(l:PL)(q1 q2:ByteArray)(w:World)(hl:Lst w w.heap.size v l):
  Calls Tryz.prog 146 #[v,.agg #[.string q1,.string q2]] w fun e w'=>e= .returned (.bool (l.any fun p=>iW p (q1,q2)))/\Below w.heap.size w w':=by
 have n0:=(aD w.heap.size w).alloc (aI _) (.cells #[.string q1,.string q2] 60);have HN:=aA n0;have X:=RowTo.whole w #[.string q1,.string q2] 60;obtain⟨x0,x1⟩:=bR X;have HI:=aA (uAt v l q1 q2 _ ((hl.below n0).more n0.size));obtain⟨A,c,rfl,hc⟩:=hl.form;clear hl n0 X;go_enter Tryz.func146,Tryz.ntmps146;go_wp2_with fail;refine HI.out.mono ?_;rintro e w1 ⟨i,rfl,hi,hb⟩;have HI2:=aA hi;have HB:=aA (aR HN.out hb HN.out.size);clear hi hb;go_wp2;go_ret;exact⟨by rw[<-HI2.out];rfl,HB.out⟩
theorem uAv (q:ByteArray×ByteArray)(v:Value)(l:PL)(bx:Nat)(w:World)(hl:Lst w w.heap.size v l)(hx:w.cell? ⟨bx,0,none⟩=some v)(hxl:bx<w.heap.size):
  Calls Tryz.prog 145 #[.agg #[.string q.1,.string q.2],.pointer (some ⟨bx,0,none⟩)] w fun e w'=>e= .returned (.bool (l.any fun p=>iW p q))/\Below w.heap.size w w':=by
 have n0:=(aD w.heap.size w).alloc (aI _) (.cells #[.string q.1,.string q.2] 60);have HN:=aA n0;have X:=RowTo.whole w #[.string q.1,.string q.2] 60;obtain⟨x0,x1⟩:=bR X;have HI:=aA (uAu v l q.1 q.2 _ ((hl.below n0).more n0.size));obtain⟨A,c,rfl,hc⟩:=hl.form;clear hl n0 X;go_enter Tryz.func145,Tryz.ntmps145;go_wp2_with fail;refine HI.out.mono ?_;rintro e w1 ⟨rfl,hb⟩;have HB:=aA (aR HN.out hb HN.out.size);clear hb;go_wp2;go_ret;exact⟨rfl,HB.out⟩
structure Sl (w:World)(t size:Nat)(v:Value)(g:Option Nat)(n:Nat)(xs:List Value):Prop where
 len:xs.length=n*size
 form:(g=none/\v= .slice none 0 0/\n=0)\/ ∃b off cap eM,g=some b/\v= .slice (some ⟨b,off,none⟩) n cap/\n<=cap/\RowTo w b t eM []/\(cap=0\/off+cap*size=eM)/\ ∀j (h:j<xs.length),w.cell? ⟨b,off+j,none⟩=some xs[j]
section
variable {w w':World}{t size n:Nat}{v:Value}{g:Option Nat}{xs:List Value}
theorem Sl.nil_ (w:World)(t size:Nat):Sl w t size (.slice none 0 0) none 0 []:=⟨by simp,.inl ⟨rfl,rfl,rfl⟩⟩
theorem Sl.lt (h:Sl w t size v g n xs){b:Nat}(hb:g=some b):b<w.heap.size:=by
 rcases h.form with⟨h1,_⟩|⟨b',off,cap,eM,h1,_,_,hr,_⟩
 ·rw[h1]at hb;cases hb
 ·rw[h1]at hb;injection hb with hb;subst hb;exact hr.lt
theorem Sl.keep (h:Sl w t size v g n xs)(hk: ∀b,g=some b->w'.heap[b]? =w.heap[b]?):Sl w' t size v g n xs:=by
 refine⟨h.len,h.form.imp id ?_⟩;rintro⟨b,off,cap,eM,h1,h2,h3,hr,h4,h5⟩;exact⟨b,off,cap,eM,h1,h2,h3,hr.same (hk b h1),h4,fun j hj=>(aV (hk b h1)).trans (h5 j hj)⟩
theorem Sl.below (h:Sl w t size v g n xs)(hb:Below w.heap.size w w'):Sl w' t size v g n xs:=h.keep fun b hg=>hb.block b (h.lt hg)
theorem Sl.at (h:Sl w t size v g n xs)(hn:0<n): ∃b off cap,g=some b/\v= .slice (some ⟨b,off,none⟩) n cap/\n<=cap/\ ∀j (h:j<xs.length),w.cell? ⟨b,off+j,none⟩=some xs[j]:=by
 rcases h.form with⟨_,_,h0⟩|⟨b,off,cap,eM,h1,h2,h3,_,_,h5⟩
 ·omega
 ·exact⟨b,off,cap,h1,h2,h3,h5⟩
theorem Sl.shape (h:Sl w t size v g n xs): ∃A c,v= .slice A n c/\n<=c:=by
 rcases h.form with⟨_,h1,h0⟩|⟨b,off,cap,eM,h1,h2,h3,_,_,h5⟩
 ·exact⟨none,0,by rw[h1,h0],by omega⟩
 ·exact⟨_,cap,h2,h3⟩
def fH (b off size n cap:Nat):Value:=if cap=1 then .slice (some ⟨b,off,none⟩) n 0 else .slice (some ⟨b,off+size,none⟩) n (cap-1)
theorem Sl.cut {b off cap:Nat}(h:Sl w t size (.slice (some ⟨b,off,none⟩) (n+1) cap) g (n+1) xs):Sl w t size (fH b off size n cap) g n (xs.drop size):=by
 refine⟨by rw[List.length_drop,h.len,Nat.add_mul];omega,.inr ?_⟩;rcases h.form with⟨_,h1,h0⟩|⟨b',off',cap',eM,h1,h2,h3,hr,h4,h5⟩
 ·cases h1
 ·injection h2 with e1 _ e3;injection e1 with e1;injection e1 with e1 e2;subst e1 e2 e3;have h4:=h4.resolve_left (by omega);unfold fH
  by_cases hc1:cap=1
  ·rw[if_pos hc1];obtain rfl:n=0:=by omega
   refine⟨b,off,0,eM,h1,rfl,by omega,hr,.inl rfl,fun j hj=>?_⟩;rw[List.length_drop,h.len]at hj;omega
  rw[if_neg hc1];refine⟨b,off+size,cap-1,eM,h1,rfl,by omega,hr,.inr ?_,fun j hj=>?_⟩
  ·obtain⟨k,rfl⟩: ∃k,cap=k+1:=⟨cap-1,by omega⟩;rw[Nat.add_sub_cancel];rw[Nat.add_mul]at h4;omega
  ·rw[List.length_drop]at hj;have:=h5 (size+j) (by omega);rw[<-Nat.add_assoc]at this;rw[this];simp
theorem qR {base:Nat}(h:w.ownsRow base t size v n xs)(hn:0<n): ∃b cap,v= .slice (some ⟨b,0,none⟩) n cap/\base<=b/\b<w.heap.size/\Sl w t size v (some b) n xs:=by
 obtain⟨hl,⟨_,h0⟩|⟨b,cap,cur,rfl,hb,hh,hc,hm,hz,hx⟩⟩:=h
 ·omega
 ·have hr:RowTo w b t (cap*size) xs:=⟨cur,hh,hz,by rw[hl];exact hx⟩;exact⟨b,cap,rfl,hb,hr.lt,hl,.inr ⟨b,0,cap,cap*size,rfl,rfl,hc,hr.nil,.inr (by omega),fun j hj=>by rw[cW];exact hr.cell hj⟩⟩
theorem tG {b o:Nat}{vs:List Value}(h:RowTo w b t n []):RowTo (w.setCells b o vs) b t n []:=by
 induction vs generalizing o w with
 |nil=>exact h
 |cons x vs ih=>exact ih (h.hit _)
theorem jX (b:Nat): ∀(vs:List Value) (o:Nat) (w:World),(w.setCells b o vs).os=w.os/\(w.setCells b o vs).tape=w.tape/\(w.setCells b o vs).output=w.output/\(w.setCells b o vs).heap.size=w.heap.size
 |[],o,w=>⟨rfl,rfl,rfl,rfl⟩
 |v::r,o,w=>by
  have h:=jX b r (o+1) (w.setCell ⟨b,o,none⟩ v);rw[World.setCells];refine⟨h.1,h.2.1,h.2.2.1,h.2.2.2.trans (by simp[cE])⟩
theorem Sl.append {P:Program}(h:Sl w t size v g n xs)(ts ty:TypeId)(i:TypeInfo)(z:Value)(bytes:Nat)(ht:P.underlying ts=some (.slice t))(hi:P.info? t=some i)(hz:i.zero=some z)
  (hsize:i.size=size) (hby:i.bytes=bytes) (hzs:z.cells.size=size) (hsz:0<size) (ad:Addr) (c:Nat) (news:List Value) (hl:news.length=size) (hnews: ∀j u,news[j]? =some u->w.cell? (ad.add j)=some u) (h1: ∀u∈news,u.oneCell'=true)
  (h63:n+1<=maxLen) (hbytes:(n+1)*bytes<=140737488355328):
  ∃b off cap w',(Builtin.append_ #[ts,ts] ty #[v,.slice (some ad) 1 c]).run P w= .ok (.slice (some ⟨b,off,none⟩) (n+1) cap) w'/\Sl w' t size (.slice (some ⟨b,off,none⟩) (n+1) cap) (some b) (n+1) (xs++news)/\
   w.grownBy w' g/\(g=some b\/(w.heap.size<=b/\b<w'.heap.size)):=by
 have hl1:news.length=1*i.size:=by rw[hl,hsize,Nat.one_mul]
 rcases h.form with⟨rfl,rfl,rfl⟩|⟨b,off,cap,eM,rfl,rfl,hc,hr,hfit,hcell⟩
 ·have hx:xs=[]:=List.eq_nil_of_length_eq_zero (by simpa using h.len);subst hx;obtain⟨v',w',hrun,hown,hgr,_⟩:=run_append_own (P:=P) w w.heap.size ts ty t i z size bytes ht hi hz hsize hby hzs hsz _ 0 [] (World.ownsRow_nil w w.heap.size t size) ad 1 c news (by rw[hl,Nat.one_mul]) hnews h1 h63 hbytes (aI _);obtain⟨b,cap,rfl,hb,hlt,hs⟩:=qR hown (by omega);exact⟨b,0,cap,w',hrun,hs,hgr,.inr ⟨hb,hlt⟩⟩
 ·by_cases hroom:n+1<=cap
  ·have hfit0:=hfit;have hfit:=hfit.resolve_left (by omega);have hmul:(n+1)*size<=cap*size:=Nat.mul_le_mul_right _ hroom;rw[Nat.add_mul,Nat.one_mul]at hmul;have hin: ∀j,j<news.length->off+n*i.size+j<eM:=fun j hj=>by rw[hsize];omega
   have hrun:=run_append_room_cells (P:=P) w ts ty t i ht hi b off n cap ad 1 c news hl1 hnews h1 hroom (fun j hj=>by obtain⟨u,hu⟩:=hr.any (hin j hj);rw[hu];rfl) (fun j hj=>hr.frozen _);rw[hsize]at hrun;refine⟨b,off,cap,_,hrun,⟨?_,.inr ⟨b,off,cap,eM,rfl,rfl,hroom,tG hr,hfit0,fun j hj=>?_⟩⟩,⟨?_,?_,?_,?_,fun k hk hne=>?_⟩,.inl rfl⟩
   ·rw[eN,h.len,hl,Nat.add_mul,Nat.one_mul]
   ·have hlen:=h.len
    by_cases hj':j<xs.length
    ·rw[World.cell?_setCells_out b _ _ _ _ (fun _ _=>Or.inl (by show off+j<off+n*size;omega)),hcell j hj',List.getElem_append_left hj']
    ·have hj2:j-xs.length<news.length:=(by rw[eN]at hj;omega);have:=World.cell?_setCells_in b news (off+n*size) w (fun k hk=>by obtain⟨u,hu⟩:=hr.any (j:=off+n*size+k) (by rw[hsize]at hin;exact hin k hk);rw[hu];rfl) (j-xs.length) hj2;rw[show off+n*size+(j-xs.length)=off+j by omega]at this;rw[this,List.getElem_append_right (by omega)]
   ·exact(jX b news _ w).1
   ·exact(jX b news _ w).2.1
   ·exact(jX b news _ w).2.2.1
   ·exact Nat.le_of_eq (jX b news _ w).2.2.2.symm
   ·exact World.heap_setCells_other w b _ news hk (fun e=>hne (by rw[e]))
  ·obtain ⟨v', w', hrun, hown, hgr⟩ := run_append_arg_grows (P := P) w ts ty t i z size bytes ht hi hz hsize hby hzs hsz ⟨b, off, none⟩ n cap xs h.len (fun j u hu => by
    have hj:=(fN.1 hu).1;rw[Addr.add_lit,hcell j hj];rw[dP hj]at hu
    exact hu) ad 1 c news (by rw [hl, Nat.one_mul]) hnews (by omega) h63 hbytes
   obtain⟨b',cap',rfl,hb,hlt,hs⟩:=qR hown (by omega);exact⟨b',0,cap',w',hrun,hs,⟨hgr.os,hgr.tape,hgr.output,hgr.size,fun k hk _=>hgr.block k hk (by simp)⟩,.inr ⟨hb,hlt⟩⟩
end
structure Rw (w:World)(t size b off cap:Nat)(d:List (List Value)):Prop where
 each: ∀e∈d,e.length=size
 room:d.length<=cap
 row:RowTo w b t (off+cap*size) []
 cell: ∀i (h:i<d.length) j,j<size->w.cell? ⟨b,off+i*size+j,none⟩=d[i][j]?
section
variable {w w':World}{t size b off cap:Nat}{d:List (List Value)}
theorem Rw.keep (h:Rw w t size b off cap d)(hk:w'.heap[b]? =w.heap[b]?):Rw w' t size b off cap d:=
 ⟨h.each,h.room,h.row.same hk,fun i hi j hj=>(aV hk).trans (h.cell i hi j hj)⟩
theorem Rw.below (h:Rw w t size b off cap d){B:Nat}(hb:Below B w w')(hB:b<B):Rw w' t size b off cap d:=h.keep (hb.block b hB)
theorem Rw.cut (h:Rw w t size b off cap d)(n:Nat):Rw w t size b off cap (d.take n):=
 ⟨fun e he => h.each e (List.mem_of_mem_take he), bL (by rw [gK]; omega) h.room, h.row, fun i hi j hj => by
  have hi':i<d.length:=by rw[gK]at hi;omega
  rw [h.cell i hi' j hj, List.getElem_take]⟩
theorem tH {i n size j:Nat}(hi:i<n)(hj:j<size):i*size+j<n*size:=by
 have:(i+1)*size<=n*size:=Nat.mul_le_mul_right _ hi;rw[Nat.add_mul,Nat.one_mul]at this;omega
theorem Rw.set (h:Rw w t size b off cap d){i:Nat}(hi:i<d.length){e:List Value}(he:e.length=size):Rw (w.setCells b (off+i*size) e) t size b off cap (d.set i e):=by
 have hroom:=h.room;refine⟨fun x hx=>?_,by rw[fI];exact hroom,tG h.row,fun k hk j hj=>?_⟩
 ·rcases List.mem_or_eq_of_mem_set hx with hx|hx
  ·exact h.each x hx
  ·rw[hx];exact he
 ·rw[fI]at hk
  by_cases e':k=i
  ·subst e';rw[World.cell?_setCells_in b e (off+k*size) w (fun q hq=>?_) j (by omega),List.getElem_set_self,dP];obtain⟨u,hu⟩:=h.row.any (j:=off+k*size+q) (by have:=tH (i:=k) (n:=cap) (size:=size) (j:=q) (by omega) (by omega);omega);rw[hu];rfl
  ·rw[World.cell?_setCells_out b e _ w _ (fun _ _=>?_),h.cell k hk j hj,List.getElem_set_ne (Ne.symm e')];show off+k*size+j<off+i*size\/off+i*size+e.length<=off+k*size+j;rcases Nat.lt_or_ge k i with hlt|hge
   ·have:=tH hlt hj;omega
   ·have:(i+1)*size<=k*size:=Nat.mul_le_mul_right _ (by omega);rw[Nat.add_mul,Nat.one_mul]at this;omega
theorem Rw.behind (h:Rw w t size b off cap d){i:Nat}(hi:i<=d.length)(vs:List Value):Rw (w.setCells b (off+i*size) vs) t size b off cap (d.take i):=
 ⟨fun e he => h.each e (List.mem_of_mem_take he), bL (by rw [gK]; omega) h.room, tG h.row, fun k hk j hj => by
  have hk':k<i:=by rw[gK]at hk;omega
  rw [World.cell?_setCells_out b vs _ w _ (fun _ _ => .inl (by show off + k * size + j < off + i * size; have := tH hk' hj; omega)), h.cell k (by omega) j hj, List.getElem_take]⟩
theorem qS (w:World)(b o:Nat)(vs:List Value){g:Nat}(hg:g≠b):(w.setCells b o vs).heap[g]? =w.heap[g]? :=by
 induction vs generalizing w o with
 |nil=>rfl
 |cons v r ih=>rw[World.setCells,ih];exact bF _ _ _ _ hg
theorem tI {B:Nat}{w0:World}(h:Below B w0 w)(hB:B<=b)(o:Nat)(vs:List Value):Below B w0 (w.setCells b o vs):=by
 have k:=jX b vs o w;exact⟨k.1.trans h.os,k.2.1.trans h.tape,k.2.2.1.trans h.output,by rw[k.2.2.2];exact h.size,fun g hg=>(qS w b o vs (by omega)).trans (h.block g hg)⟩
theorem qAk {P:Program}(w:World)(t e ty:TypeId)(z:Value)(ht:P.underlying t=some (.slice e))(hv: ∀w,(zeroValue e).run P w= .ok z w)(h1: ∀v∈z.cells.toList,v.oneCell'=true)(hz:0<z.cells.size)(b o n c:Nat)(hn:0<n)
  (hc: ∀j,j<n*z.cells.size->(w.cell? ⟨b,o+j,none⟩).isSome=true) (hf: ∀j,w.frozen? ⟨b,o+j,none⟩=false):
  (Builtin.clear_ #[t] ty #[.slice (some ⟨b,o,none⟩) n c]).run P w= .ok (.tuple #[]) (w.setCells b o (Builtin.zeroCells z.cells n).toList):=by
 have hl:(Builtin.zeroCells z.cells n).toList.length=n*z.cells.size:=by simp[Builtin.zeroCells]
 have hst := run_storeCells_cells (P := P) b o (Builtin.zeroCells z.cells n).toList 0 w (by rw [hl]; simpa using hc) (fun j _ => by simpa using hf j) (by
  intro v hv';unfold Builtin.zeroCells at hv';simp only[Array.toList_map,List.mem_map]at hv';obtain⟨i,_,rfl⟩:=hv';refine h1 _ ?_;have hlt:i%z.cells.size<z.cells.size:=Nat.mod_lt _ hz;rw[getElem!_pos z.cells _ hlt]
  exact Array.getElem_mem_toList hlt)
 simp only[Nat.add_zero]at hst;obtain⟨m,rfl⟩: ∃m,n=m+1:=⟨n-1,by omega⟩;simp[Builtin.clear_,run_underlying ht,hv,hst]
end
theorem oZ: ∀{d:List (List Value)} {size:Nat},(∀e∈d,e.length=size)-> ∀{i:Nat} (hi:i<d.length) {j:Nat},j<size->d.flatten[i*size+j]? =d[i][j]?
 |e::d,size,he,0,hi,j,hj=>by
  rw[List.flatten_cons,List.getElem?_append_left (by rw[he e gJ];omega)];simp
 |e::d,size,he,i+1,hi,j,hj=>by
  have h1:=he e gJ;rw[List.flatten_cons,List.getElem?_append_right (by rw[h1,Nat.add_mul];omega),h1,show(i+1)*size+j-size=i*size+j by rw[Nat.add_mul];omega];exact oZ (fun e' he'=>he e' (iZ _ he')) (by simpa using hi) hj
theorem Sl.rw {w:World}{t size n:Nat}{v:Value}{g:Option Nat}{d:List (List Value)}(h:Sl w t size v g n d.flatten)(he: ∀e∈d,e.length=size)(hd:d.length=n)(hn:0<n): ∃b off cap,g=some b/\v= .slice (some ⟨b,off,none⟩) n cap/\Rw w t size b off cap d:=by
 rcases h.form with⟨_,_,h0⟩|⟨b,off,cap,eM,h1,h2,h3,h4,h5,h6⟩
 ·omega
 ·have h5:=h5.resolve_left (by omega);refine⟨b,off,cap,h1,h2,he,by omega,by rw[h5];exact h4,fun i hi j hj=>?_⟩;have hl:i*size+j<d.flatten.length:=by rw[h.len,<-hd];exact tH hi hj
  rw[Nat.add_assoc,h6 _ hl,<-dP hl];exact oZ he hi hj
theorem tJ: ∀{d:List (List Value)} {size:Nat},(∀e∈d,e.length=size)->d.flatten.length=d.length*size
 |[],_,_=>by simp
 |e::d,size,he=>by rw[List.flatten_cons,eN,he e gJ,tJ (fun e' he'=>he e' (iZ _ he')),fC,Nat.add_mul];omega
theorem Rw.sl {w:World}{t size b off cap:Nat}{d:List (List Value)}(h:Rw w t size b off cap d)(hs:0<size):Sl w t size (.slice (some ⟨b,off,none⟩) d.length cap) (some b) d.length d.flatten:=by
 refine⟨tJ h.each,.inr ⟨b,off,cap,_,rfl,rfl,h.room,h.row,.inr rfl,fun q hq=>?_⟩⟩;rw[tJ h.each]at hq;have hi:q/size<d.length:=(Nat.div_lt_iff_lt_mul hs).2 hq;have hj:q%size<size:=Nat.mod_lt _ hs;have e:q=q/size*size+q%size:=by rw[Nat.mul_comm];exact(Nat.div_add_mod q size).symm
 have h1:=h.cell _ hi _ hj;rw[<-oZ h.each hi hj,Nat.add_assoc,<-e]at h1;rw[h1,dP]
section
variable {α:Type}
structure KeepI (p:α->Bool)(d:List α)(i j:Nat)(dk:List α):Prop where
 len:dk.length=d.length
 ij:i<j
 jn:j<=d.length
 low:dk.take i=(d.take j).filter fun x=>!p x
 high:dk.drop j=d.drop j
theorem KeepI.start {p:α->Bool}{d:List α}{k:Nat}(hk:k<d.length)(h1:p d[k]=true)(h0: ∀x∈d.take k,p x=false):KeepI p d k (k+1) d:=by
 refine⟨rfl,by omega,by omega,?_,rfl⟩;rw[gO hk,List.filter_append,List.filter_eq_self.2 (fun x hx=>by rw[h0 x hx];rfl)];simp[h1]
theorem KeepI.at {p:α->Bool}{d dk:List α}{i j:Nat}(h:KeepI p d i j dk)(hj:j<d.length):dk[j]'(by rw[h.len];exact hj)=d[j]:=by
 have h1:=congrArg (fun l=>l[0]?) h.high;simp only[List.getElem?_drop,Nat.add_zero]at h1;rw[dP (by rw[h.len];exact hj),dP hj]at h1;injection h1
theorem KeepI.keep {p:α->Bool}{d dk:List α}{i j:Nat}(h:KeepI p d i j dk)(hj:j<d.length)(hp:p d[j]=false):KeepI p d (i+1) (j+1) (dk.set i d[j]):=by
 have hl:=h.len;have hij:=h.ij;refine⟨by rw[fI];exact hl,by omega,by omega,?_,?_⟩
 ·rw[gO (by rw[fI];omega),List.getElem_set_self,List.take_set_of_le (aI _),h.low,gO hj,List.filter_append];simp[hp]
 ·rw[List.drop_set_of_lt (by omega),<-List.drop_drop,<-List.drop_drop,h.high]
theorem KeepI.skip {p:α->Bool}{d dk:List α}{i j:Nat}(h:KeepI p d i j dk)(hj:j<d.length)(hp:p d[j]=true):KeepI p d i (j+1) dk:=by
 refine⟨h.len,by have:=h.ij;omega,by omega,?_,?_⟩
 ·rw[h.low,gO hj,List.filter_append];simp[hp]
 ·rw[<-List.drop_drop,<-List.drop_drop,h.high]
theorem KeepI.done {p:α->Bool}{d dk:List α}{i:Nat}(h:KeepI p d i d.length dk):dk.take i=d.filter fun x=>!p x:=by rw[h.low,List.take_length]
theorem KeepI.num {p:α->Bool}{d dk:List α}{i:Nat}(h:KeepI p d i d.length dk):(d.filter fun x=>!p x).length=i:=by
 rw[<-h.done,gK,h.len];have:=h.ij;omega
end
def iF (x:ByteArray×ByteArray):List Value:=[.string x.1,.string x.2]
section
variable {w:World}{b off cap:Nat}{d:List (ByteArray×ByteArray)}
theorem xA: ∀e∈d.map iF,e.length=2:=fun e he=>by
 obtain⟨x,_,rfl⟩:=List.mem_map.1 he;rfl
theorem Rw.cP (h:Rw w 60 2 b off cap (d.map iF)){i:Nat}(hi:i<d.length):w.cell? ⟨b,off+i*2,none⟩=some (.string d[i].1)/\w.cell? ⟨b,off+i*2+1,none⟩=some (.string d[i].2):=by
 have hi':i<(d.map iF).length:=by simpa using hi
 have h0:=h.cell i hi' 0 (by omega);have h1:=h.cell i hi' 1 (by omega);rw[List.getElem_map]at h0;rw[List.getElem_map]at h1;exact⟨by simpa [iF] using h0,by simpa [iF] using h1⟩
end
theorem uAw (lbv:Value)(p:ByteArray×ByteArray->Bool)(w:World)(b off cap B:Nat)(d:List (ByteArray×ByteArray))(hR:Rw w 60 2 b off cap (d.map iF))(hby:d.length<=1000000000000000)(hB:B<=b)
  (hp: ∀x∈d,∀wc,Below B w wc->Calls Tryz.prog 145 #[.agg #[.string x.1,.string x.2],lbv] wc fun e w'=>e= .returned (.bool (p x))/\Below wc.heap.size wc w'):
  Calls Tryz.prog 149 #[.slice (some ⟨b,off,none⟩) d.length cap,.func (.func 145) #[] #[lbv]] w fun e w'=>(∃i:Int,e= .returned (.int .i64 i)/\((i= -1/\ ∀x∈d,p x=false)\/ ∃k,∃hk:k<d.length,i=k/\p d[k]=true/\ ∀x∈d.take k,p x=false))/\Below w.heap.size w w':=by
 have hbl:=hR.row.lt;have HR:=aA hR;have HP:=aA hp;have hcap:d.length<=cap:=by simpa using hR.room
 clear hR hp;go_enter Tryz.func149,Tryz.ntmps149;go_wp2
 go_loopw [8] (fun i wr=> ∃k:Nat,k<=d.length/\i= .int .i64 k/\Hid ((∀x∈d.take k,p x=false)/\Below w.heap.size w wr)) (fun i _=>d.length-(intOf i).toNat)
 case atStart=>exact⟨0,by omega,rfl,(fun x hx=>by simp at hx),aD _ _⟩
 case round=>
  obtain⟨k,hk,rfl,HZ⟩:=hrel
  by_cases hlt:k<d.length
  ·have hRk:=HR.out.below HZ.out.2 hbl;obtain⟨a0,a1⟩:=hRk.cP hlt;have hblr:b<wr.heap.size:=bD hbl HZ.out.2.size;have HC:=aA (HP.out d[k] (List.getElem_mem hlt) wr (HZ.out.2.mono (by omega)));have HT:=aA (fun(h:p d[k]=true)=>(show∃k',∃hk:k'<d.length,(k:Int)=k'/\p d[k']=true/\ ∀x∈d.take k',p x=false from⟨k,hlt,rfl,h,HZ.out.1⟩))
   have HF := aA (fun (h : p d[k] = false) => (show ∀ x ∈ d.take (k + 1), p x = false from fun x hx => by
    rw[gO hlt]at hx;rcases List.mem_append.1 hx with hx|hx
    ·exact HZ.out.1 x hx
    ·rw [List.mem_singleton.1 hx]; exact h))
   have HZ2:=aA HZ.out.2;generalize d[k]=x at*;clear HZ hRk
   cases hq:p x with
   |true=>
    have HT2:=aA (HT.out hq);rw[hq]at HC;clear HT HF hq;go_wp2_with fail;refine HC.out.mono ?_;rintro e w2 ⟨rfl,hb2⟩;have HB2:=aA (HZ2.out.trans (hb2.mono HZ2.out.size));clear hb2;go_wp2;go_ret;exact⟨⟨k,rfl,.inr HT2.out⟩,HB2.out⟩
   |false=>
    have HF2:=aA (HF.out hq);rw[hq]at HC;clear HT HF hq;go_wp2_with fail;refine HC.out.mono ?_;rintro e w2 ⟨rfl,hb2⟩;have HB2:=aA (HZ2.out.trans (hb2.mono HZ2.out.size));clear hb2;go_wp2;go_roundw
    case rel=>exact⟨k+1,by omega,by go_num,HF2.out,HB2.out⟩
    case measure=>simp[intOf];omega
  ·obtain rfl:k=d.length:=by omega
   rw[List.take_length]at HZ;go_wp2;go_ret;exact⟨⟨-1,rfl,.inl ⟨rfl,HZ.out.1⟩⟩,HZ.out.2⟩
theorem uAx (lbv:Value)(p:ByteArray×ByteArray->Bool)(w:World)(b off cap B:Nat)(d:List (ByteArray×ByteArray))(hR:Rw w 60 2 b off cap (d.map iF))(hby:d.length<=1000000000000000)(hB:B<=b)
  (hp: ∀x∈d,∀wc,Below B w wc->Calls Tryz.prog 145 #[.agg #[.string x.1,.string x.2],lbv] wc fun e w'=>e= .returned (.bool (p x))/\Below wc.heap.size wc w'):
  Calls Tryz.prog 143 #[.slice (some ⟨b,off,none⟩) d.length cap,.func (.func 145) #[] #[lbv]] w fun e w'=>e= .returned (.slice (some ⟨b,off,none⟩) (d.filter fun x=>!p x).length cap)/\Rw w' 60 2 b off cap ((d.filter fun x=>!p x).map iF)/\Below B w w'/\ ∀g,g<w.heap.size->g≠b->w'.heap[g]? =w.heap[g]? :=by
 have hbl:=hR.row.lt;have HI:=aA (uAw lbv p w b off cap B d hR hby hB hp);have HR:=aA hR;have HP:=aA hp;have hcap:d.length<=cap:=by simpa using hR.room
 clear hR hp;go_enter Tryz.func143,Tryz.ntmps143;go_wp2_with fail;refine HI.out.mono ?_;rintro e w1 ⟨⟨i,rfl,hi⟩,hb1⟩;have HB1:=aA hb1;clear HI hb1;rcases hi with⟨rfl,hall⟩|⟨k,hk,rfl,h1,h0⟩
 ·have HA:=aA (show(d.filter fun x=>!p x)=d from List.filter_eq_self.2 fun x hx=>by rw[hall x hx];rfl);clear hall;go_wp2;go_ret;rw[HA.out];exact⟨rfl,HR.out.below HB1.out hbl,HB1.out.mono (by omega),fun g hg _=>HB1.out.block g hg⟩
 ·have HK:=aA (KeepI.start hk h1 h0);have hne:((k:Int)== -1)=false:=bJ.2 (by omega);clear h1 h0;go_wp2_with fail
  go_loopw [5,6,7] (fun s5 s6 s7 wr=> ∃(i j:Nat) (dk:List (ByteArray×ByteArray)),s5= .int .i64 i/\s6= .int .i64 j/\i<j/\j<=d.length/\Hid (KeepI p d i j dk/\Rw wr 60 2 b off cap (dk.map iF)/\Below B w wr/\(w.heap.size<=wr.heap.size)/\ ∀g,g<w.heap.size->g≠b->wr.heap[g]? =w.heap[g]?)) (fun _ s6 _ _=>d.length-(intOf s6).toNat)
  case atStart=>exact⟨k,k+1,d,rfl,by go_num,by omega,by omega,HK.out,HR.out.below HB1.out hbl,HB1.out.mono (by omega),HB1.out.size,fun g hg _=>HB1.out.block g hg⟩
  case round=>
   obtain⟨i,j,dk,rfl,rfl,hij,hjn,HZ⟩:=hrel;clear HK HB1
   by_cases hlt:j<d.length
   ·have hRk:=HZ.out.2.1;have hlk:=HZ.out.1.len;have c0:=hRk.cP (i:=j) (by omega);have z0:=hRk.cP (i:=i) (by omega);rw[HZ.out.1.at hlt]at c0;obtain⟨a0,a1⟩:=c0;obtain⟨z0,z1⟩:=z0;have f0:=hRk.row.frozen (off+i*2);have f1:=hRk.row.frozen (off+i*2+1);have hbr:=hRk.row.lt;have y0:=(RowTo.whole wr #[.string d[j].1,.string d[j].2] 60).cell (j:=0) (by simp);have y1:=(RowTo.whole wr #[.string d[j].1,.string d[j].2] 60).cell (j:=1) (by simp);have HC:=aA (HP.out d[j] (List.getElem_mem hlt) (wr.alloc (.cells #[.string d[j].1,.string d[j].2] 60)) (HZ.out.2.2.1.alloc (by have:=HZ.out.2.2.2.1;omega) _));have HKK:=aA (fun(h:p d[j]=false)=>HZ.out.1.keep hlt h);have HKS:=aA (fun(h:p d[j]=true)=>HZ.out.1.skip hlt h);have hjI:(j:Int)<(d.length:Int):=(by omega);have HM:=aA (List.getElem_mem hlt);generalize d[j]=x at*;skip;clear hRk
    cases hq:p x with
    |true=>
     have HK2:=aA (HKS.out hq);rw[hq]at HC;clear HKS HKK hq;go_wp2_with fail;refine HC.out.mono ?_;rintro e w2 ⟨rfl,hb2⟩;have HB2:=aA hb2;clear hb2;have hw2:Below (wr.alloc (.cells #[.string x.1,.string x.2] 60)).heap.size (wr.alloc (.cells #[.string x.1,.string x.2] 60)) w2:=HB2.out;have hz2:=hw2.size;simp only[World.size_alloc]at hz2;have hn2: ∀g,g<wr.heap.size->w2.heap[g]? =wr.heap[g]? :=fun g hg=>(hw2.block g (by simp;omega)).trans (Below.heap_alloc _ _ _ hg)
     have H2:=aA (aJ (HZ.out.2.1.keep (hn2 b hbr)) (aJ (show Below B w w2 from(HZ.out.2.2.1.alloc (by have:=HZ.out.2.2.2.1;omega) _).trans (hw2.mono (by simp;have:=HZ.out.2.2.2.1;omega))) (aJ (show w.heap.size<=w2.heap.size by have:=HZ.out.2.2.2.1;have:=hw2.size;omega) (fun g (hg:g<w.heap.size) (hne:g≠b)=>(hn2 g (by have:=HZ.out.2.2.2.1;omega)).trans (HZ.out.2.2.2.2 g hg hne)))));have hb2':b<w2.heap.size:=(by have:=hw2.size;simp at this;omega);have u0:=(hw2.cell (p:=⟨wr.heap.size,0,none⟩) (by simp)).trans y0;have u1:=(hw2.cell (p:=⟨wr.heap.size,1,none⟩) (by simp)).trans y1;go_wp2;go_roundw
     case rel=>exact⟨i,j+1,dk,rfl,by go_num,by omega,by omega,HK2.out,H2.out.1,H2.out.2.1,H2.out.2.2.1,H2.out.2.2.2⟩
     case measure=>simp[intOf];omega
    |false=>
     have HK2:=aA (HKK.out hq);rw[hq]at HC;clear HKS HKK hq;go_wp2_with fail;refine HC.out.mono ?_;rintro e w2 ⟨rfl,hb2⟩;have HB2:=aA hb2;clear hb2;have hw2:Below (wr.alloc (.cells #[.string x.1,.string x.2] 60)).heap.size (wr.alloc (.cells #[.string x.1,.string x.2] 60)) w2:=HB2.out;have hz2:=hw2.size;simp only[World.size_alloc]at hz2;have hn2: ∀g,g<wr.heap.size->w2.heap[g]? =wr.heap[g]? :=fun g hg=>(hw2.block g (by simp;omega)).trans (Below.heap_alloc _ _ _ hg)
     have H2:=aA (aJ (HZ.out.2.1.keep (hn2 b hbr)) (aJ (show Below B w w2 from(HZ.out.2.2.1.alloc (by have:=HZ.out.2.2.2.1;omega) _).trans (hw2.mono (by simp;have:=HZ.out.2.2.2.1;omega))) (aJ (show w.heap.size<=w2.heap.size by have:=HZ.out.2.2.2.1;have:=hw2.size;omega) (fun g (hg:g<w.heap.size) (hne:g≠b)=>(hn2 g (by have:=HZ.out.2.2.2.1;omega)).trans (HZ.out.2.2.2.2 g hg hne)))));have hb2':b<w2.heap.size:=(by have:=hw2.size;simp at this;omega);have u0:=(hw2.cell (p:=⟨wr.heap.size,0,none⟩) (by simp)).trans y0;have u1:=(hw2.cell (p:=⟨wr.heap.size,1,none⟩) (by simp)).trans y1;have hi2:i<(dk.map iF).length:=(by rw[dR,HZ.out.1.len];omega);have H3:=aA (aJ (H2.out.1.set hi2 (e:=iF x) rfl) (aJ (tI H2.out.2.1 hB (off+i*2) (iF x)) (aJ (show w.heap.size<=(w2.setCells b (off+i*2) (iF x)).heap.size by rw[(jX b _ _ _).2.2.2];exact H2.out.2.2.1) (fun g (hg:g<w.heap.size) (hne:g≠b)=>(qS w2 b (off+i*2) (iF x) hne).trans (H2.out.2.2.2 g hg hne)))));rw[<-List.map_set]at H3;have v0:=(aV (a:=⟨b,off+i*2,none⟩) (hn2 b hbr)).trans z0;have g0:=(iR (a:=⟨b,off+i*2,none⟩) (hn2 b hbr)).trans f0;have v1:=(aV (a:=⟨b,off+i*2+1,none⟩) (hn2 b hbr)).trans z1;have g1:=(iR (a:=⟨b,off+i*2+1,none⟩) (hn2 b hbr)).trans f1;simp only[World.setCells,iF]at H3;go_wp2;go_roundw
     case rel=>exact⟨i+1,j+1,dk.set i x,by go_num,by go_num,by omega,by omega,HK2.out,H3.out.1,H3.out.2.1,H3.out.2.2.1,H3.out.2.2.2⟩
     case measure=>simp[intOf];omega
   ·obtain rfl:j=d.length:=(by omega);have hRk:=HZ.out.2.1;have hlk:=HZ.out.1.len;have hbr:=hRk.row.lt
    have hcl: ∀ty,(Builtin.clear_ #[27] ty #[.slice (some ⟨b,off+i*2,none⟩) (d.length-i) (cap-i)]).run Tryz.prog wr= .ok (.tuple #[]) (wr.setCells b (off+i*2) (Builtin.zeroCells ((.agg #[.string ⟨#[]⟩,.string ⟨#[]⟩]):Value).cells (d.length-i)).toList):=fun ty=>by
     refine qAk (P:=Tryz.prog) wr 27 60 ty (.agg #[.string ⟨#[]⟩,.string ⟨#[]⟩]) Tryz.underlying27 Tryz.zeroValue60 (by simp[Value.cells,Value.oneCell']) (by decide) b (off+i*2) (d.length-i) (cap-i) (by omega) (fun q hq=>?_) (fun q=>hRk.row.frozen _);obtain⟨u,hu⟩:=hRk.row.any (j:=off+i*2+q) (by have:q<(d.length-i)*2:=hq;have:d.length*2<=cap*2:=Nat.mul_le_mul_right _ hcap;omega);rw[hu];rfl
    have H2:=aA (hRk.behind (i:=i) (by rw[dR];omega) (Builtin.zeroCells ((.agg #[.string ⟨#[]⟩,.string ⟨#[]⟩]):Value).cells (d.length-i)).toList);rw[<-List.map_take,HZ.out.1.done]at H2;have HN:=aA HZ.out.1.num;have H3:=aA (aJ (tI HZ.out.2.2.1 hB (off+i*2) (Builtin.zeroCells ((.agg #[.string ⟨#[]⟩,.string ⟨#[]⟩]):Value).cells (d.length-i)).toList) (fun g (hg:g<w.heap.size) (hne:g≠b)=>(qS wr b (off+i*2) (Builtin.zeroCells ((.agg #[.string ⟨#[]⟩,.string ⟨#[]⟩]):Value).cells (d.length-i)).toList hne).trans (HZ.out.2.2.2.2 g hg hne)));clear hRk;go_wp2;go_ret;refine⟨by rw[HN.out];rfl,H2.out,H3.out.1,H3.out.2⟩
theorem uAy (A:Option Addr)(c:Nat)(fv:Value)(w:World):Calls Tryz.prog 149 #[.slice A 0 c,.func (.func 145) #[] #[fv]] w fun e w'=>e= .returned (.int .i64 (-1))/\w'=w:=by
 go_enter Tryz.func149,Tryz.ntmps149;go_wp2
 go_loopw [8] (fun i wr=>i= .int .i64 0/\wr=w) (fun i _=>0)
 case atStart=>exact⟨rfl,rfl⟩
 case round=>
  obtain⟨rfl,rfl⟩:=hrel;go_wp2;go_ret;exact⟨rfl,rfl⟩
theorem uAz (A:Option Addr)(c:Nat)(fv:Value)(w:World):Calls Tryz.prog 143 #[.slice A 0 c,.func (.func 145) #[] #[fv]] w fun e w'=>e= .returned (.slice A 0 c)/\w'=w:=by
 have HI:=aA (uAy A c fv);go_enter Tryz.func143,Tryz.ntmps143;go_wp2_with fail;refine(HI.out _).mono ?_;rintro e w1 ⟨rfl,rfl⟩;go_wp2;go_ret;exact⟨rfl,rfl⟩
theorem qAl (l:PL):bO l=(l.map iF).flatten:=by
 induction l with
 |nil=>rfl
 |cons p l ih=>rw[List.map_cons,List.flatten_cons,<-ih];rfl
def hA6 (w:World)(l:PL)(e:Ending)(w':World):Prop:=(∃v',e= .returned v'/\((l=[]/\ ∃A c,v'= .slice A 0 c/\(A=none->c=0))\/(0<l.length/\ ∃b cap,v'= .slice (some ⟨b,0,none⟩) l.length cap/\w.heap.size<=b/\Rw w' 60 2 b 0 cap (l.map iF))))/\Below w.heap.size w w'
theorem hA7 (v:Value)(l:PL)(w:World)(hl:Lst w w.heap.size v l):Calls Tryz.prog 144 #[v] w (hA6 w l):=by
 obtain⟨A,c,rfl,hc⟩:=hl.form
 cases A with
 |none=>
  have h0:=hl.nil _ _ rfl;subst h0;have hl0:l=[]:=List.eq_nil_of_length_eq_zero (by omega);subst hl0;clear hl;have hnil: ∀w,(binOp .eql 27 (.slice none 0 0) (.slice none 0 0)).run Tryz.prog w= .ok (.bool true) w:=fun w=>Lib.run_eql_slice_nil (P:=Tryz.prog) w 27 60 none 0 0 0 0 Tryz.underlying27
  go_enter Tryz.func144,Tryz.ntmps144;go_wp2;go_ret;exact⟨⟨_,rfl,.inl ⟨rfl,none,0,rfl,fun _=>rfl⟩⟩,aD _ _⟩
 |some a=>
 have hnil: ∀w,(binOp .eql 27 (.slice (some a) l.length c) (.slice none 0 0)).run Tryz.prog w= .ok (.bool false) w:=fun w=>Lib.run_eql_slice_nil (P:=Tryz.prog) w 27 60 (some a) l.length c 0 0 Tryz.underlying27
 rcases Nat.eq_zero_or_pos l.length with h0|hpos
 ·have hl0:l=[]:=List.eq_nil_of_length_eq_zero h0;subst hl0;clear hl;simp only[List.length_nil]at hnil;go_enter Tryz.func144,Tryz.ntmps144;go_wp2;go_ret;exact⟨⟨_,rfl,.inl ⟨rfl,_,0,rfl,fun h=>by cases h⟩⟩,(aD _ _).alloc (aI _) _⟩
 ·obtain⟨i0,hi,hz0,hz1,hz2⟩:=info_parts kA7;obtain⟨b,off,c',e,hb,hcs⟩:=hl.cells hpos;injection e with e e5 e6;injection e with e;subst e e6;clear e5;have hby:=hl.bytes;have n0:=(aD w.heap.size w).alloc (aI _) (.cells #[] 60)
  obtain ⟨v', w', hrun, hown, hgr⟩ := run_append_arg_grows (P := Tryz.prog) (w.alloc (.cells #[] 60)) 27 27 60 i0 _ 2 32 Tryz.underlying27 hi hz0 hz1 hz2 rfl (by omega) ⟨w.heap.size, 0, none⟩ 0 0 [] (by simp) (fun j u hu => by cases hu) ⟨b, off, none⟩ l.length c (bO l) (by rw [fE]) (fun j u hu => by
   rw[Addr.add_lit,n0.cell (p:=⟨b,off+j,none⟩) hb];rw[qAl]at hu
   have hj:j<l.length*2:=by
    have:=(fN.1 hu).1;rw[tJ (xA (d:=l))]at this
    simpa using this
   have hd:j/2<l.length:=by omega
   have h2:=oZ (xA (d:=l)) (i:=j/2) (by simpa using hd) (j:=j%2) (by omega);rw[show j/2*2+j%2=j by omega,hu,List.getElem_map]at h2;obtain⟨c0,c1⟩:=hcs (j/2) hd;rcases Nat.mod_two_eq_zero_or_one j with hm|hm
   ·rw[hm]at h2;rw[show off+j=off+j/2*2 by omega,c0,h2];rfl
   ·rw[hm]at h2
    rw [show off + j = off + j / 2 * 2 + 1 by omega, c1, h2]; rfl) (by omega) (by unfold maxLen; omega) (by omega)
  rw[cW,List.nil_append,qAl]at hown;obtain⟨g,cap,rfl,hg,hlt,hs⟩:=qR hown hpos;obtain⟨b1,o1,c1,e1,e2,hrw⟩:=hs.rw (xA (d:=l)) (by simp) hpos;injection e2 with e2 _ e3;injection e2 with e2;injection e2 with e2 e4;subst e2 e3 e4;have HF:=aA (aJ hrw (aJ (show w.heap.size<=g by have:=hg;simp at this;omega) (n0.grown hgr n0.size (fun x hx=>by cases hx))));clear hl hcs hown hgr hs hrw hb n0 hg hlt e1 hi hz0 hz1 hz2;go_enter Tryz.func144,Tryz.ntmps144;go_wp2_with (at_builtin;refine Lib.wpList_append_run _ rfl _ _ _ _ rfl _ _ rfl rfl _ _ hrun ?_);go_ret;exact⟨⟨_,rfl,.inr ⟨hpos,_,_,rfl,HF.out.2.1,HF.out.1⟩⟩,HF.out.2.2⟩
theorem hA8 {w:World}{b cap:Nat}{l:PL}(h:Rw w 60 2 b 0 cap (l.map iF))(hby:l.length*32<=140737488351232)(hs: ∀p∈l,p.1.size<=140737488351232/\p.2.size<=140737488351232):Lst w w.heap.size (.slice (some ⟨b,0,none⟩) l.length cap) l:=by
 have hroom:l.length<=cap:=by simpa using h.room
 exact⟨⟨_,_,rfl,hroom⟩,hby,hs,fun hn=>⟨b,0,cap,rfl,h.row.lt,fun i hi=>h.cP hi⟩,fun n c e=>by injection e with e;cases e⟩
theorem mV (v v':Value)(l o:PL)(w:World)(hl:Lst w w.heap.size v l)(ho:Lst w w.heap.size v' o):
  Calls Tryz.prog 138 #[v,v'] w fun e w'=> ∃u,e= .returned u/\Lst w' w'.heap.size u (eE l o)/\InP (fun b=>w.heap.size<=b) u (eE l o)/\Below w.heap.size w w':=by
 have n0:=(aD w.heap.size w).alloc (aI _) (.cells #[v'] 27);have HCL:=aA (hA7 v l _ ((hl.below n0).more n0.size));have HN:=aA n0;have X:=(RowTo.whole w #[v'] 27).cell (j:=0) (by simp);have HX:=aA (show(w.alloc (.cells #[v'] 27)).cell? ⟨w.heap.size,0,none⟩=some v' from X);have HO:=aA ho;have HL:=aA hl;obtain⟨A',c',rfl,hc'⟩:=ho.form;obtain⟨A,c,rfl,hc⟩:=hl.form;clear hl ho n0 X;go_enter Tryz.func138,Tryz.ntmps138;go_wp2_with fail;refine HCL.out.mono ?_;rintro e w1 ⟨⟨v1,rfl,hv1⟩,hb1⟩;have hz1:=hb1.size;simp only[World.size_alloc]at hz1;have HB1:=aA (aR HN.out hb1 HN.out.size);have HX1:=aA ((hb1.cell (p:=⟨w.heap.size,0,none⟩) (by simp)).trans HX.out);clear HCL hb1;rcases hv1 with⟨hl0,A1,c1,rfl,hn1⟩|⟨hpos,b,cap,rfl,hb,hrw⟩
 ·have HE:=aA (show eE l o=[] by rw[hl0];rfl);have HD:=aA (uAz A1 c1 (.pointer (some ⟨w.heap.size,0,none⟩)));clear hl0;go_wp2_with fail;refine(HD.out _).mono ?_;rintro e w2 ⟨rfl,rfl⟩;go_wp2;go_ret;rw[HE.out];exact⟨_,rfl,⟨⟨_,_,rfl,Nat.zero_le _⟩,by simp,by simp,fun h=>absurd h (by simp),fun n c e=>by injection e with e1 _ e3;rw[<-e3];exact hn1 e1⟩,InP.nil_ _ _,HB1.out⟩
 ·have hb':w.heap.size+1<=b:=by simpa using hb
  have hby:=HL.out.bytes
  have HD := aA (uAx (.pointer (some ⟨w.heap.size, 0, none⟩)) (fun q => o.any fun p => iW p q) w1 b 0 cap (w.heap.size + 1) l hrw (by omega) hb' (fun x hx wc hwc => by
   have h1:Below w.heap.size w wc:=HB1.out.trans (hwc.mono (by omega));refine uAv x (.slice A' o.length c') o w.heap.size wc ?_ ?_ ?_
   ·exact(HO.out.below h1).more h1.size
   ·exact(hwc.cell (p:=⟨w.heap.size,0,none⟩) (by simp)).trans HX1.out
   ·have := hwc.size; omega))
  clear hrw;go_wp2_with fail;refine HD.out.mono ?_;rintro e w2 ⟨rfl,hr2,hb2,_⟩;have HF:=aA (aJ hr2 hb2);clear hr2 hb2 HD;go_wp2;go_ret;have hw:eE l o=l.filter fun q=>!(o.any fun p=>iW p q):=rfl
  rw[hw];refine⟨_,rfl,hA8 HF.out.1 ?_ (fun p hp=>HL.out.sizes p (List.mem_filter.1 hp).1),fun _ b' off n c e=>?_,HB1.out.trans (HF.out.2.mono (by omega))⟩
  ·have:=List.length_filter_le (fun q=>!(o.any fun p=>iW p q)) l;omega
  ·injection e with e;injection e with e;injection e with e;omega
structure WldP (w:World)(P:Nat->Prop)(r s:Value)(W:Wd):Prop where
 wld:Wld w w.heap.size r s W
 rows:InP P r W.rows
 ses:0<W.ss.length-> ∀b off n c,s= .slice (some ⟨b,off,none⟩) n c->P b/\ ∀k j v (hk:k<W.ss.length),j<4->w.cell? ⟨b,off+k*5+(j+1),none⟩=some v->InP P v (W.ss[k].li j)
theorem WldP.mono {w:World}{P Q:Nat->Prop}{r s:Value}{W:Wd}(h:WldP w P r s W)(hpq: ∀b,P b->Q b):WldP w Q r s W:=
 ⟨h.wld,h.rows.mono hpq,fun hn b off n c e=>⟨hpq b (h.ses hn b off n c e).1,fun k j v hk hj hv=>((h.ses hn b off n c e).2 k j v hk hj hv).mono hpq⟩⟩
theorem WldP.at {w:World}{P:Nat->Prop}{r s:Value}{W:Wd}(h:WldP w P r s W)(hn:0<W.ss.length): ∃b off c,s= .slice (some ⟨b,off,none⟩) W.ss.length c/\P b/\b<w.heap.size/\
  ∀i (hi:i<W.ss.length),∃v1 v2 v3 v4,Ses w w.heap.size b (off+i*5) W.ss[i] v1 v2 v3 v4/\InP P v1 W.ss[i].set/\InP P v2 W.ss[i].prep/\InP P v3 W.ss[i].sav/\InP P v4 W.ss[i].wr:=by
 obtain⟨b,off,c,e,hb,hc⟩:=h.wld.sess.cells hn;obtain⟨hp,hl⟩:=h.ses hn b off _ c e;refine⟨b,off,c,e,hp,hb,fun i hi=>?_⟩;obtain⟨v1,v2,v3,v4,q⟩:=hc i hi;exact⟨v1,v2,v3,v4,q,hl i 0 _ hi (by omega) q.c1,hl i 1 _ hi (by omega) q.c2,hl i 2 _ hi (by omega) q.c3,hl i 3 _ hi (by omega) q.c4⟩
theorem WldP.mk' {w:World}{P:Nat->Prop}{r s:Value}{W:Wd}(hr:Lst w w.heap.size r W.rows)(hp:InP P r W.rows)(hf: ∃A c,s= .slice A W.ss.length c/\W.ss.length<=c)(hby:W.ss.length*104<=140737488351232)
  (hs : 0 < W.ss.length → ∃ b off c, s = .slice (some ⟨b, off, none⟩) W.ss.length c ∧ P b ∧ b < w.heap.size ∧
   ∀ i (hi : i < W.ss.length), ∃ v1 v2 v3 v4, Ses w w.heap.size b (off + i * 5) W.ss[i] v1 v2 v3 v4 ∧ InP P v1 W.ss[i].set ∧ InP P v2 W.ss[i].prep ∧ InP P v3 W.ss[i].sav ∧ InP P v4 W.ss[i].wr) : WldP w P r s W := by
 refine⟨⟨hr,hf,hby,fun hn=>?_⟩,hp,fun hn b off n c e=>?_⟩
 ·obtain⟨b,off,c,e,_,hb,hc⟩:=hs hn;exact⟨b,off,c,e,hb,fun i hi=>by obtain⟨v1,v2,v3,v4,q,_⟩:=hc i hi;exact⟨v1,v2,v3,v4,q⟩⟩
 ·obtain⟨b',off',c',e',hP,hb,hc⟩:=hs hn;have he:b=b'/\off=off':=by rw[e]at e';injection e' with e';injection e' with e';injection e' with e1 e2;exact⟨e1,e2⟩
  obtain⟨rfl,rfl⟩:=he;refine⟨hP,fun k j v hk hj hv=>?_⟩;obtain⟨v1,v2,v3,v4,q,p1,p2,p3,p4⟩:=hc k hk;rcases j4 hj with rfl|rfl|rfl|rfl
  ·rw[q.c1]at hv;injection hv with hv;subst hv;exact p1
  ·rw[q.c2]at hv;injection hv with hv;subst hv;exact p2
  ·rw[q.c3]at hv;injection hv with hv;subst hv;exact p3
  ·rw[q.c4]at hv;injection hv with hv;subst hv;exact p4
theorem WldP.keep {w w':World}{P:Nat->Prop}{r s:Value}{W:Wd}(h:WldP w P r s W)(hs:w.heap.size<=w'.heap.size)(hk: ∀b,P b->b<w.heap.size->w'.heap[b]? =w.heap[b]?):WldP w' P r s W:=by
 have ll: ∀{v:Value} {l:PL},Lst w w.heap.size v l->InP P v l->Lst w' w'.heap.size v l:=fun a b=>a.keepP (gM a b) (fun x hx=>hk x hx.1 hx.2) (fun x hx=>bD hx.2 hs)
 refine WldP.mk' (ll h.wld.rows h.rows) h.rows h.wld.sess.form h.wld.sess.bytes fun hn=>?_
 obtain⟨b,off,c,e,hP,hb,hc⟩:=h.at hn;have cs: ∀j,w'.cell? ⟨b,j,none⟩=w.cell? ⟨b,j,none⟩:=fun j=>aV (hk b hP hb)
 refine⟨b,off,c,e,hP,bD hb hs,fun i hi=>?_⟩;obtain⟨v1,v2,v3,v4,q,p1,p2,p3,p4⟩:=hc i hi;exact⟨v1,v2,v3,v4,⟨(cs _).trans q.c0,(cs _).trans q.c1,(cs _).trans q.c2,(cs _).trans q.c3,(cs _).trans q.c4,ll q.l1 p1,ll q.l2 p2,ll q.l3 p3,ll q.l4 p4⟩,p1,p2,p3,p4⟩
theorem WldP.below {w w':World}{P:Nat->Prop}{r s:Value}{W:Wd}(h:WldP w P r s W)(hb:Below w.heap.size w w'):WldP w' P r s W:=h.keep hb.size fun b _ hlt=>hb.block b hlt
theorem WldP.small {w:World}{P:Nat->Prop}{r s:Value}{W:Wd}(h:WldP w P r s W):WldP w (fun b=>P b/\b<w.heap.size) r s W:=by
 refine WldP.mk' h.wld.rows (gM h.wld.rows h.rows) h.wld.sess.form h.wld.sess.bytes fun hn=>?_
 obtain⟨b,off,c,e,hP,hb,hc⟩:=h.at hn;refine⟨b,off,c,e,⟨hP,hb⟩,hb,fun i hi=>?_⟩;obtain⟨v1,v2,v3,v4,q,p1,p2,p3,p4⟩:=hc i hi;exact⟨v1,v2,v3,v4,q,gM q.l1 p1,gM q.l2 p2,gM q.l3 p3,gM q.l4 p4⟩
theorem Wld.p {w:World}{r s:Value}{W:Wd}(h:Wld w w.heap.size r s W):WldP w (fun b=>b<w.heap.size) r s W:=by
 refine WldP.mk' h.rows h.rows.inP h.sess.form h.sess.bytes fun hn=>?_
 obtain⟨b,off,c,e,hb,hc⟩:=h.sess.cells hn;refine⟨b,off,c,e,hb,hb,fun i hi=>?_⟩;obtain⟨v1,v2,v3,v4,q⟩:=hc i hi;exact⟨v1,v2,v3,v4,q,q.l1.inP,q.l2.inP,q.l3.inP,q.l4.inP⟩
end Go.Proofs.YtpbaobmegomfpabGreatDoor

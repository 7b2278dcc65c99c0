import Derived.Test.YtmgfijllcdadgaaGreatDoorProg
import Derived.Test.YtmgfijllcdadgaaGreatDoorNW00
import Derived.WalkSpells
import Derived.Deep.QuietTactic
import Derived.BigQuiet
import Derived.Deep.RegionLaw
import Derived.WalkKit
import Derived.Deep.DeepCutAuto
import Derived.Deep.CutBlock
set_option linter.unusedVariables false
set_option linter.unusedSimpArgs false
set_option maxRecDepth 100000
namespace Go.Proofs.YtmgfijllcdadgaaGreatDoor
open Go.RowKit
open Mk (St Bs Ev aD)
open Tryz
open Mk (dM gm iM eO iw dD eX oM jm kD rS)
variable {w w1:World}{b cap:Nat}{s:St}{r r' :Row}{rs:List Row}{p:Prop}
def bv(x:UInt8):Value:=.int .u8 (x.toNat:Int)
def sv(l:Bs):Value:=.string ⟨l.toArray⟩
def bZ(a:aD):List Value:=[.string ⟨a.name.toArray⟩,.string ⟨a.space.toArray⟩,.string ⟨a.val.toArray⟩]
def bP(e:Ev)(v:Value):List Value:=[.int .i64 e.kind,.string ⟨e.name.toArray⟩,.string ⟨e.space.toArray⟩,.string ⟨e.val.toArray⟩,v]
def aV(l:List aD):List Value:=l.flatMap bZ
def bA(l:List (Ev×Value)):List Value:=l.flatMap fun p=>bP p.1 p.2
structure Lay where
 oa:Option Addr
 oc:Nat
 ta:Option Addr
 tc:Nat
 aa:Option Addr
 ac:Nat
 la:Option Addr
 lc:Nat
 xa:Option Addr
 xc:Nat
 ba:Option Addr
 bc:Nat
 ca:Option Addr
 cc:Nat
 es:List (Ev×Value)
def cellsOf(s:St)(L:Lay):List Value:=
 [.int .i64 s.od,.int .i64 s.oa,.int .i64 s.ot,.bool s.on,.int .i64 s.state,.slice L.oa s.opn.length L.oc,.bool s.over,.slice L.ba s.aG.length L.bc,.slice L.ca s.cnt.length L.cc,
  .slice L.ta s.token.length L.tc,.int .i64 s.count,.string ⟨s.name.toArray⟩,.string ⟨s.attr.toArray⟩,.slice L.aa s.aC.length L.ac,.int .u8 s.quote,.string ⟨s.held.toArray⟩,
  .int .i64 s.brackets,.int .i64 s.matched,.int .i64 s.pc,.int .i64 s.pl,.int .i64 s.rp,.string ⟨s.rn.toArray⟩,.int .i64 s.rc,.bool s.ret,
  .int .i64 s.line,.int .i64 s.column,.slice L.la s.list.length L.lc,.slice L.xa s.text.length L.xc,.int .i64 s.at_,.int .i64 s.ended]
def bE(s:St)(L:Lay):Row:=⟨9,1,.slice L.oa s.opn.length L.oc,s.opn.length,s.opn.map sv⟩
def bQ(s:St)(L:Lay):Row:=⟨5,1,.slice L.ta s.token.length L.tc,s.token.length,s.token.map bv⟩
def bD(s:St)(L:Lay):Row:=if s.am then⟨69,3,.slice none 0 0,0,[]⟩else⟨69,3,.slice L.aa s.aC.length L.ac,s.aC.length,aV s.aC⟩
def bJ(s:St)(L:Lay):Row:=⟨65,5,.slice L.la s.list.length L.lc,s.list.length,bA L.es⟩
def cA(s:St)(L:Lay):Row:=⟨5,1,.slice L.xa s.text.length L.xc,s.text.length,s.text.map bv⟩
def lS(p:Bs×Bs):List Value:=[.string ⟨p.1.toArray⟩,.string ⟨p.2.toArray⟩]
def dS(l:List (Bs×Bs)):List Value:=l.flatMap lS
def nv(n:Nat):Value:=.int .i64 (n:Int)
def bM(s:St)(L:Lay):Row:=⟨139,2,.slice L.ba s.aG.length L.bc,s.aG.length,dS s.aG⟩
def bS(s:St)(L:Lay):Row:=⟨3,1,.slice L.ca s.cnt.length L.cc,s.cnt.length,s.cnt.map nv⟩
def aN(p:Ev×Value):Row:=⟨69,3,p.2,p.1.aC.length,aV p.1.aC⟩
def rowsOf(s:St)(L:Lay):List Row:=bE s L::bQ s L::bD s L::bJ s L::cA s L::bM s L::bS s L::L.es.map aN
def aJ(s:St)(L:Lay):List Nat:=aW (rowsOf s L)
structure aK(w:World)(b:Nat)(s:St)(L:Lay):Prop where
 blk:w.heap[b]?=some (.cells (cellsOf s L).toArray 95 (0,0))
 rows:bL w (b - 1) (rowsOf s L)
 evs:L.es.map (·.1)=s.list
 nb:b∉aJ s L
theorem aK.lt{L:Lay}(h:aK w b s L):b<w.heap.size:=(Array.getElem?_eq_some_iff.1 h.blk).1
theorem aK.cell{w:World}{b:Nat}{s:St}{L:Lay}(h:aK w b s L):∀i,w.cell? ⟨b,i,none⟩=(cellsOf s L)[i]?:=by
 intro i;simp[World.cell?,h.blk]
theorem aK.frozen{w:World}{b:Nat}{s:St}{L:Lay}(h:aK w b s L):∀i,w.frozen? ⟨b,i,none⟩=false:=by
 intro i;simp[World.frozen?,h.blk]
theorem aK.dF{L:Lay}(h:aK w b s L):∀k∈aJ s L,b≤k+1∧k<w.heap.size:=fun k a=>by have:=h.rows.lt k a;omega
structure Mv(w0:World)(b:Nat)(f0:List Nat)(w:World)(s:St)(L:Lay):Prop where
 rd:aK w b s L
 fr:Fr w0 w b f0 (aJ s L)
theorem aK.start{L:Lay}(h:aK w b s L):Mv w b (aJ s L) w s L:=⟨h,Fr.refl _ _ _⟩
theorem aK.keep{w w' :World}{b:Nat}{s:St}{L:Lay}(h:aK w b s L)(a:∀k,k=b∨k∈aJ s L→w'.heap[k]?=w.heap[k]?):aK w' b s L:=
 ⟨(a b (.inl rfl)).trans h.blk,h.rows.keep fun k c=>a k (.inr c),h.evs,h.nb⟩
section
variable {w0 w w' :World}{b:Nat}{f0:List Nat}{s s' :St}{L L' :Lay}
theorem Mv.alloc(m:Mv w0 b f0 w s L)(o:Obj):Mv w0 b f0 (w.alloc o) s L:=
 ⟨m.rd.keep fun k a=>Below.heap_alloc _ _ _ (by rcases a with rfl|a;exact m.rd.lt;exact(m.rd.dF k a).2),m.fr.trans (Fr.alloc _ _ _ _)⟩
theorem Mv.drew(m:Mv w0 b f0 w s L):Mv w0 b f0 w.drew s L:=⟨m.rd.keep fun _ _=>rfl,m.fr.trans (Fr.drew _ _ _)⟩
theorem Mv.store(m:Mv w0 b f0 w s L)(i:Nat)(v:Value)(s' :St)(c:(cellsOf s L).set i v=cellsOf s' L)(a:rowsOf s' L=rowsOf s L)(d:s'.list=s.list):
 Mv w0 b f0 (w.setCell ⟨b,i,none⟩ v) s' L:=by
 refine⟨⟨?_,?_,by rw[d];exact m.rd.evs,by unfold aJ;rw[a];exact m.rd.nb⟩,?_⟩
 .rw[←c];have:=m.rd.blk;simp[World.setCell,Array.getElem?_modify,this]
 .rw[a];refine m.rd.rows.keep fun k f=>Below.heap_setCell _ _ _ _ ?_
  exact fun(e:k=b)=>m.rd.nb (e▸f)
 unfold aJ;rw[a];exact m.fr.trans (Fr.setCell _ _ _ _ _)
theorem Mv.call{a:St}{c:Lay}(m:Mv w0 b f0 w s L)(k:Mv w b (aJ s L) w1 a c):Mv w0 b f0 w1 a c:=⟨k.rd,m.fr.trans k.fr⟩
theorem Mv.qh(m:Mv w0 b f0 w s L)(f:List Row)(i:Nat)(v:Value)(q:(rowsOf s L).Perm (r::rs))(d:(rowsOf s' L').Perm (f++r' ::rs))(t:∀x∈f,x.isNil)(z:r'.owned w' (b - 1))(u:w.grownBy w' r.v.ownBlock)
 (a:r'.v.ownBlock=r.v.ownBlock∨r'.v.ownBlock=some w.heap.size) (A:(cellsOf s L).set i v=cellsOf s' L') (B:L'.es.map (·.1)=s'.list):
 Mv w0 b f0 (w'.setCell ⟨b,i,none⟩ v) s' L' :=by
 have C:=m.rd.rows.perm q;have D:bL w' (b - 1) (rowsOf s' L'):=((C.grow z u a).rV f t).perm d.symm;have g:some b≠r.v.ownBlock:=fun e=>m.rd.nb (gI q.symm b (List.mem_filterMap.2 ⟨r,List.mem_cons_self,e.symm⟩))
 have l:b∉aJ s' L' :=fun E=>by
  have c:=gI d b E;rw[oN f t]at c;have n:b∈aW rs→False:=fun h=>m.rd.nb (gI q.symm b (@lQ [r] rs b h))
  unfold aW at c;rw[List.filterMap_cons]at c;split at c
  .exact n c
  rename_i j y;rcases List.mem_cons.1 c with e|c
  .subst e;rcases a with a|a
   .exact g (y.symm.trans a)
   rw[y]at a;cases a;exact Nat.lt_irrefl _ m.rd.lt
  exact n c
 have o:w'.heap[b]?=some (.cells (cellsOf s L).toArray 95 (0,0)):=(u.block b m.rd.lt g).trans m.rd.blk;refine⟨⟨?_,?_,B,l⟩,?_⟩
 .rw[←A];simp[World.setCell,Array.getElem?_modify,o]
 .refine D.keep fun k p=>Below.heap_setCell _ _ _ _ ?_
  exact fun(e:k=b)=>l (e▸p)
 refine(m.fr.trans ((Fr.grown (b:=b) u a rs rfl).wide fun k p=>gI q.symm k p)).trans ((Fr.setCell _ _ _ _ _).sub fun k p=>?_);have:=gI d k p;rw[oN f t]at this;exact this
theorem Mv.grow(m:Mv w0 b f0 w s L)(i:Nat)(v:Value)(c:(rowsOf s L).Perm (r::rs))(a:(rowsOf s' L').Perm (r' ::rs))(d:r'.owned w' (b - 1))(e:w.grownBy w' r.v.ownBlock)
 (f:r'.v.ownBlock=r.v.ownBlock∨r'.v.ownBlock=some w.heap.size) (g:(cellsOf s L).set i v=cellsOf s' L') (j:L'.es.map (·.1)=s'.list):
 Mv w0 b f0 (w'.setCell ⟨b,i,none⟩ v) s' L' :=m.qh [] i v c a (fun _ h=>by cases h) d e f g j
theorem Mv.rW(m:Mv w0 b f0 w s L)(j c rs:List Row)(i:Nat)(v:Value)(f:(rowsOf s L).Perm (j++rs))(a:(rowsOf s' L').Perm (c++rs))(g:∀x∈c,x.isNil)
 (n:(cellsOf s L).set i v=cellsOf s' L') (o:L'.es.map (·.1)=s'.list):Mv w0 b f0 (w.setCell ⟨b,i,none⟩ v) s' L' :=by
 have p:bL w (b - 1) (rowsOf s' L'):=((bL.behind j (m.rd.rows.perm f)).rV c g).perm a.symm;have d:b∉aJ s' L' :=fun q=>by
  have l:=gI a b q;rw[oN c g]at l;exact m.rd.nb (gI f.symm b (lQ b l))
 refine⟨⟨?_,?_,o,d⟩,?_⟩
 .rw[←n];have:=m.rd.blk;simp[World.setCell,Array.getElem?_modify,this]
 .refine p.keep fun k h=>Below.heap_setCell _ _ _ _ ?_
  exact fun(e:k=b)=>d (e▸h)
 refine(m.fr.trans (Fr.setCell _ _ _ _ _)).sub fun k h=>?_
 have:=gI a k h;rw[oN c g]at this;exact gI f.symm k (lQ k this)
theorem aK.grown(h:aK w b s L)(a:w.grownBy w1 r.v.ownBlock)(c:r∈rowsOf s L):w1.heap[b]?=some (.cells (cellsOf s L).toArray 95 (0,0)):=by
 refine(a.block b h.lt fun e=>?_).trans h.blk;exact h.nb (List.mem_filterMap.2 ⟨r,c,e.symm⟩)
theorem lg(h:w.heap[b]?=some (.cells (cellsOf s L).toArray 95 (0,0))):(∀i,w.cell? ⟨b,i,none⟩=(cellsOf s L)[i]?)∧∀i,w.frozen? ⟨b,i,none⟩=false:=
 ⟨fun i=>by simp[World.cell?,h],fun i=>by simp[World.frozen?,h]⟩
theorem Mv.below(m:Mv w0 b f0 w s L)(a:Below w.heap.size w w'):Mv w0 b f0 w' s L:=
 ⟨m.rd.keep fun k c=>a.block k (by rcases c with rfl|c;exact m.rd.lt;exact(m.rd.dF k c).2),
  m.fr.trans ⟨a.os,a.tape,a.output,a.size,fun k c _ _=>a.block k c,fun _ h=>.inl h⟩⟩
theorem heap_drewN(w:World)(n:Nat):(w.drewN n).heap=w.heap:=by simp[World.drewN]
theorem aK.drewN(h:aK w b s L)(n:Nat):aK (w.drewN n) b s L:=h.keep fun _ _=>by rw[heap_drewN]
theorem Mv.drewN(m:Mv w0 b f0 w s L)(n:Nat):Mv w0 b f0 (w.drewN n) s L:=m.below ⟨rfl,rfl,rfl,Nat.le_of_eq (by rw[heap_drewN]),fun _ _=>by rw[heap_drewN]⟩
end
theorem jd{c:Type}(a b:c)(l:List c):(a::b::l).Perm (b::a::l):=.swap _ _ _
theorem Pw{d:Type}(a b c:d)(l:List d):(a::b::c::l).Perm (c::a::b::l):=((jd b c l).cons a).trans (jd a c _)
theorem lm{e:Type}(a b c d:e)(l:List e):(a::b::c::d::l).Perm (d::a::b::c::l):=((Pw b c d l).cons a).trans (jd a d _)
theorem qi{f:Type}(a b c d e:f)(l:List f):(a::b::c::d::e::l).Perm (e::a::b::c::d::l):=((lm b c d e l).cons a).trans (jd a e _)
section
variable {w0 w w' :World}{b:Nat}{f0:List Nat}{s:St}{L:Lay}
theorem qj{b:Type}(a:b)(l r:List b):(l++a::r).Perm (a::(l++r)):=List.perm_middle
theorem Mv.yB(m:Mv w0 b f0 w s L)(e:Ev)(d:e.aC=[]){g:Nat}(hown:w'.ownsRow (b - 1) 65 5 (.slice (some ⟨g,0,none⟩) (s.list.length+1) cap) (s.list.length+1) (bA L.es++bP e (.slice none 0 0)))
 (f:w.grownBy w' (bJ s L).v.ownBlock) (a:(Value.slice L.la s.list.length L.lc).ownBlock=some g∨g=w.heap.size):
 Mv w0 b f0 (w'.setCell ⟨b,26,none⟩ (.slice (some ⟨g,0,none⟩) (s.list.length+1) cap)) {s with list:=s.list++[e]} {L with la:=some ⟨g,0,none⟩,lc:=cap,es:=L.es++[(e,.slice none 0 0)]}:=by
 refine m.qh (r:=bJ s L) (r' :=bJ {s with list:=s.list++[e]} {L with la:=some ⟨g,0,none⟩,lc:=cap,es:=L.es++[(e,.slice none 0 0)]}) (rs:=bE s L::bQ s L::bD s L::cA s L::bM s L::bS s L::L.es.map aN) [aN (e,.slice none 0 0)] 26 _ (lm _ _ _ _ _) ?_ ?_ ?_ f ?_ ?_ ?_
 .have i:rowsOf {s with list:=s.list++[e]} {L with la:=some ⟨g,0,none⟩,lc:=cap,es:=L.es++[(e,.slice none 0 0)]}=bE s L::bQ s L::bD s L::bJ {s with list:=s.list++[e]} {L with la:=some ⟨g,0,none⟩,lc:=cap,es:=L.es++[(e,.slice none 0 0)]}::cA s L::bM s L::bS s L::(L.es.map aN++[aN (e,.slice none 0 0)]):=by
   simp[rowsOf,bE,bQ,bD,cA,bM,bS]
  rw[i];refine(lm _ _ _ _ _).trans ?_;exact(qj (aN (e,.slice none 0 0)) (bJ _ _::bE s L::bQ s L::bD s L::cA s L::bM s L::bS s L::L.es.map aN) []).trans (by rw[List.append_nil];exact .refl _)
 .intro x c;simp at c;subst c;simp[Row.isNil,aN,d,aV]
 .show World.ownsRow _ _ _ _ _ _ _;simp only[bJ,List.length_append,List.length_cons,List.length_nil,Nat.zero_add,bA,List.flatMap_append,List.flatMap_cons,List.flatMap_nil,List.append_nil];exact hown
 .rcases a with h|h
  .exact .inl h.symm
  exact .inr (by rw[h];rfl)
 .simp[cellsOf]
 simp[m.rd.evs]
theorem Mv.Eh(m:Mv w0 b f0 w s L)(e:Ev)(i:e.aC=s.aC)(c:s.am=false){g:Nat}(hown:w'.ownsRow (b - 1) 65 5 (.slice (some ⟨g,0,none⟩) (s.list.length+1) cap) (s.list.length+1) (bA L.es++bP e (.slice L.aa s.aC.length L.ac)))
 (j:w.grownBy w' (bJ s L).v.ownBlock) (d:(Value.slice L.la s.list.length L.lc).ownBlock=some g∨g=w.heap.size):
 Mv w0 b f0 (w'.setCell ⟨b,26,none⟩ (.slice (some ⟨g,0,none⟩) (s.list.length+1) cap)) {s with list:=s.list++[e],am:=true} {L with la:=some ⟨g,0,none⟩,lc:=cap,es:=L.es++[(e,.slice L.aa s.aC.length L.ac)]}:=by
 have a:bD s L=aN (e,.slice L.aa s.aC.length L.ac):=by simp[bD,aN,c,i]
 refine m.qh (r:=bJ s L) (r' :=bJ {s with list:=s.list++[e]} {L with la:=some ⟨g,0,none⟩,lc:=cap,es:=L.es++[(e,.slice L.aa s.aC.length L.ac)]}) (rs:=bE s L::bQ s L::bD s L::cA s L::bM s L::bS s L::L.es.map aN) [⟨69,3,.slice none 0 0,0,[]⟩] 26 _ (lm _ _ _ _ _) ?_ ?_ ?_ j ?_ ?_ ?_
 .have k:rowsOf {s with list:=s.list++[e],am:=true} {L with la:=some ⟨g,0,none⟩,lc:=cap,es:=L.es++[(e,.slice L.aa s.aC.length L.ac)]}=bE s L::bQ s L::⟨69,3,.slice none 0 0,0,[]⟩::bJ {s with list:=s.list++[e]} {L with la:=some ⟨g,0,none⟩,lc:=cap,es:=L.es++[(e,.slice L.aa s.aC.length L.ac)]}::cA s L::bM s L::bS s L::(L.es.map aN++[aN (e,.slice L.aa s.aC.length L.ac)]):=by
   simp[rowsOf,bE,bQ,bD,cA,bJ,bM,bS]
  rw[k,a];refine(Pw _ _ _ _).trans (.cons _ ?_);refine(Pw _ _ _ _).trans (.cons _ ?_);refine .cons _ (.cons _ ?_);refine(qj (aN (e,.slice L.aa s.aC.length L.ac)) (cA s L::bM s L::bS s L::L.es.map aN) []).trans ?_;rw[List.append_nil]
 .intro x f;simp at f;subst f;exact⟨rfl,rfl,rfl⟩
 .show World.ownsRow _ _ _ _ _ _ _;simp only[bJ,List.length_append,List.length_cons,List.length_nil,Nat.zero_add,bA,List.flatMap_append,List.flatMap_cons,List.flatMap_nil,List.append_nil];exact hown
 .rcases d with h|h
  .exact .inl h.symm
  exact .inr (by rw[h];rfl)
 .simp[cellsOf]
 simp[m.rd.evs]
theorem Mv.Ei(m:Mv w0 b f0 w s L):Mv w0 b f0 (w.setCell ⟨b,27,none⟩ (.slice none 0 0)) {s with text:=[]} {L with xa:=none,xc:=0}:=
 m.rW [cA s L] [cA {s with text:=[]} {L with xa:=none,xc:=0}] (bE s L::bQ s L::bD s L::bJ s L::bM s L::bS s L::L.es.map aN) 27 _ (qi _ _ _ _ _ _) (qi _ _ _ _ _ _)
  (fun x a=>by simp at a;subst a;exact⟨rfl,rfl,rfl⟩) rfl m.rd.evs
theorem Mv.Ej(m:Mv w0 b f0 w s L):Mv w0 b f0 (w.setCell ⟨b,9,none⟩ (.slice none 0 0)) {s with token:=[]} {L with ta:=none,tc:=0}:=
 m.rW [bQ s L] [bQ {s with token:=[]} {L with ta:=none,tc:=0}] (bE s L::bD s L::bJ s L::cA s L::bM s L::bS s L::L.es.map aN) 9 _ (jd _ _ _) (jd _ _ _)
  (fun x a=>by simp at a;subst a;exact⟨rfl,rfl,rfl⟩) rfl m.rd.evs
theorem Mv.Ek(m:Mv w0 b f0 w s L):Mv w0 b f0 (w.setCell ⟨b,13,none⟩ (.slice none 0 0)) {s with aC:=[],am:=false} {L with aa:=none,ac:=0}:=
 m.rW [bD s L] [bD {s with aC:=[],am:=false} {L with aa:=none,ac:=0}] (bE s L::bQ s L::bJ s L::cA s L::bM s L::bS s L::L.es.map aN) 13 _ (Pw _ _ _ _) (Pw _ _ _ _)
  (fun x a=>by simp at a;subst a;simp[bD,Row.isNil,aV]) rfl m.rd.evs
theorem Mv.El(m:Mv w0 b f0 w s L):Mv w0 b f0 (w.setCell ⟨b,26,none⟩ (.slice none 0 0)) {s with list:=[]} {L with la:=none,lc:=0,es:=[]}:=by
 refine m.rW (bJ s L::L.es.map aN) [bJ {s with list:=[]} {L with la:=none,lc:=0,es:=[]}] [bE s L,bQ s L,bD s L,cA s L,bM s L,bS s L] 26 _ ?_ (lm _ _ _ _ _)
  (fun x a=>by simp at a;subst a;exact⟨rfl,rfl,rfl⟩) rfl rfl
 refine(lm _ _ _ _ _).trans (.cons _ ?_);exact(List.perm_append_comm (l₁:=[bE s L,bQ s L,bD s L,cA s L,bM s L,bS s L]) (l₂:=L.es.map aN))
end
theorem aB(h:p):Hid p:=h
theorem aA(h:Hid p):p:=h
theorem Pq{a b:Bool}(h:a=b):Ending.returned (.bool a)=.returned (.bool b):=by rw[h]
theorem bY(b:Int)(w:World):Calls Tryz.prog 132 #[.int .u8 b] w fun e w' =>e=.returned (.bool (Mk.cB b))∧w' =w:=by
 go_enter func132,ntmps132
 go_wp2
 all_goals(go_ret;exact⟨Pq (by rw[Bool.eq_iff_iff];simp[Mk.cB];try omega),rfl⟩)
theorem Pg(b:Int)(w:World):Calls Tryz.prog 219 #[.int .u8 b] w fun e w' =>e=.returned (.bool (Mk.eC b))∧w' =w:=by
 go_enter func219,ntmps219
 go_wp2
 all_goals(go_ret;exact⟨Pq (by rw[Bool.eq_iff_iff];simp[Mk.eC];try omega),rfl⟩)
theorem eF(b:Int)(w:World):Calls Tryz.prog 190 #[.int .u8 b] w fun e w' =>e=.returned (.bool (dM b))∧w' =w:=by
 go_enter func190,ntmps190
 go_wp2
 all_goals(go_ret;exact⟨Pq (by rw[Bool.eq_iff_iff];simp[Mk.eC,dM];try omega),rfl⟩)
theorem dU(b:Int)(w:World):Calls Tryz.prog 192 #[.int .u8 b] w fun e w' =>e=.returned (.bool (gm b))∧w' =w:=by
 go_enter func192,ntmps192
 go_wp2
 all_goals(go_ret;exact⟨Pq (by rw[Bool.eq_iff_iff];simp[Mk.eC,dM,gm,Mk.isDigit];try omega),rfl⟩)
theorem oP(c:Int)(w:World):Calls Tryz.prog 215 #[.int .i64 c] w fun e w' =>e=.returned (.bool (iM c))∧w' =w:=by
 go_enter func215,ntmps215
 go_wp2
 all_goals(go_ret;exact⟨Pq (by rw[Bool.eq_iff_iff];unfold iM;repeat' split<;>simp<;>try omega),rfl⟩)
theorem yC(c:Int)(a:0≤c)(b:c≤1114111)(w:World):
 Calls Tryz.prog 184 #[.int .i64 c] w fun e w' =>e=.returned (.slice (some ⟨w.heap.size,0,none⟩) (eO c).length (eO c).length)∧w' =w.alloc (.cells ((eO c).map (Value.int .u8)).toArray 5):=by
 go_enter func184,ntmps184
 go_wp2
 all_goals(go_ret;unfold eO;repeat(first|rw[if_pos (by omega)]|rw[if_neg (by omega)]))
 all_goals exact⟨rfl,rfl⟩
theorem Em{k:IntKind}{a c:Int}{b b' :Bool}(h:a=c)(d:b=b'):Ending.returned (.tuple #[.int k a,.bool b])=.returned (.tuple #[.int k c,.bool b']):=by rw[h,d]
theorem En(b:Int)(base:Int)(a:0≤b)(c:b≤255)(_hb:0≤base)(_hb' :base≤16)(w:World):Calls Tryz.prog 217 #[.int .u8 b,.int .i64 base] w fun e w' =>
 e=.returned (.tuple #[.int .i64 ((Mk.digit b base).getD 0),.bool (Mk.digit b base).isSome])∧w' =w:=by
 go_enter func217,ntmps217
 go_wp2
 all_goals(go_ret2;refine⟨Em ?_ ?_,rfl⟩)
 all_goals simp only[Mk.digit,Mk.digitVal,Mk.isDigit,Bool.and_eq_true,decide_eq_true_eq]
 all_goals(repeat' split)<;>simp<;>omega
def nH:Bs→Nat→Int
 |[],_=> -1
 |x::r,i=>if x==58 then(i:Int)else nH r (i+1)
theorem Eo(x:UInt8)(r:Bs):iw (x::r)=if x==58 then 0 else iw r+1:=by
 unfold iw;rw[List.takeWhile_cons];cases h:(x==58)<;>simp[bne,h]
theorem yD:∀(l:Bs) (i:Nat),nH l i=if Mk.dN l then((i+iw l:Nat):Int)else -1
 |[],i=>rfl
 |x::r,i=>by
  unfold nH;rw[yD r (i+1)];unfold Mk.dN;rw[Eo];cases h:(x==58)
  .simp only[Bool.false_eq_true,if_false,List.length_cons,Nat.add_lt_add_iff_right];split
   .congr 1;omega
   rfl
  simp
theorem Ep(l:Bs):Mk.colon l=nH l 0:=by rw[yD,Nat.zero_add];rfl
theorem Er{l:Bs}{k:Nat}{y:UInt8}(h:l[k]?=some y):l.drop k=y::l.drop (k+1):=by
 obtain⟨a,b⟩:=List.getElem?_eq_some_iff.1 h;rw[List.drop_eq_getElem_cons a,b]
theorem Es(x:UInt8)(n:Nat)(a:n<256):((x.toNat:Int)==(n:Int))=(x==UInt8.ofNat n):=by
 rw[Bool.eq_iff_iff,beq_iff_eq,beq_iff_eq];constructor
 .intro h;apply UInt8.toNat_inj.1;simp[UInt8.toNat_ofNat];omega
 intro h;subst h;simp;omega
theorem Et(l:Bs)(n:Nat):(ByteArray.extract ⟨l.toArray⟩ 0 n)=⟨(l.take n).toArray⟩:=by
 apply ByteArray.ext;simp[ByteArray.data_extract,List.extract_toArray,List.extract_eq_take_drop]
theorem rX(l:Bs)(n:Nat):(ByteArray.extract ⟨l.toArray⟩ n l.length)=⟨(l.drop n).toArray⟩:=by
 apply ByteArray.ext;simp only[ByteArray.data_extract,List.extract_toArray,List.extract_eq_take_drop];rw[List.take_of_length_le (by simp)]
theorem yE(l:Bs):iw l≤l.length:=by unfold iw;exact(List.takeWhile_sublist _).length_le
theorem uO(l:Bs)(x:l.length≤100000000)(w:World):Calls Tryz.prog 221 #[.string ⟨l.toArray⟩] w fun e w' =>e=.returned (.int .i64 (Mk.colon l))∧w' =w:=by
 obtain⟨c,a⟩:∃c,c=Mk.colon l:=⟨_,rfl⟩;rw[←a];rw[Ep]at a;have d:=aB a;clear a;go_enter func221,ntmps221
 go_wp2_with fail
 go_loopg [3] l.length (fun g p q=>q=w∧∃i:Nat,i≤l.length∧g=l.length - i∧p=.int .i64 i∧c=nH (l.drop i) i)
 case atStart=>exact⟨rfl,0,by omega,rfl,rfl,aA d⟩
 case round=>
  obtain⟨n,i,z,rfl,rfl,b⟩:=hrel;obtain rfl:=n.symm;clear d;by_cases r:i<l.length
  .have s:decide ((i:Int)<(l.length:Int))=true:=by simp;omega
   have t:(i:Int)<(l.length:Int):=by omega
   obtain⟨y,k⟩:∃y,l[i]?=some y:=⟨l[i],by simp[r]⟩;have u:∀h,(ByteArray.mk l.toArray)[i]'h=y:=fun h=>(List.getElem?_eq_some_iff.1 k).2
   rw[Er k]at b;have f:nH (y::l.drop (i+1)) i=if y==58 then(i:Int)else nH (l.drop (i+1)) (i+1):=rfl
   rw[f]at b;have j:=Es y 58 (by omega);cases m:(y==58)
   .rw[m]at b;simp only[Bool.false_eq_true,if_false]at b;have v:((y.toNat:Int)==58)=false:=by
     have o:(y==UInt8.ofNat 58)=false:=m;rw[o]at j;simpa using j
    have d:=aB b;clear b j f k;go_wp2
    go_roundg (l.length - (i+1))
    case measure=>omega
    case rel=>exact⟨rfl,i+1,by omega,rfl,by simp,aA d⟩
   rw[m]at b;simp only[if_true]at b;have v:((y.toNat:Int)==58)=true:=by
    have o:(y==UInt8.ofNat 58)=true:=m;rw[o]at j;simpa using j
   have d:=aB b;clear b j f k;go_wp2
   go_ret;rw[aA d];exact⟨rfl,rfl⟩
  have s:decide ((i:Int)<(l.length:Int))=false:=by simp;omega
  rw[List.drop_of_length_le (by omega)]at b;have d:=aB (show c= -1 from b);clear b;go_wp2
  go_ret;rw[aA d];exact⟨rfl,rfl⟩
theorem uP(l:Bs)(a:l.length≤100000000)(w:World):Calls Tryz.prog 195 #[.string ⟨l.toArray⟩] w fun e w' =>e=.returned (.bool (Mk.dN l))∧w' =w:=by
 have b:=aB (uO l a w);have d:decide ((0:Int)≤Mk.colon l)=Mk.dN l:=by
  unfold Mk.colon;cases Mk.dN l<;>simp
 generalize Mk.dN l=r at *;generalize Mk.colon l=c at *;go_enter func195,ntmps195
 go_wp2_with fail
 refine(aA b).mono ?_;rintro e w1 ⟨rfl,rfl⟩;go_wp2
 go_ret;exact⟨rfl,rfl⟩
theorem ql(l:Bs)(h:l.length≤100000000)(w:World):Calls Tryz.prog 241 #[.string ⟨l.toArray⟩] w fun e w' =>e=.returned (.string ⟨(dD l).toArray⟩)∧w' =w:=by
 have f:=aB (uO l h w);have g:=yE l;cases a:Mk.dN l
 .have b:Mk.colon l= -1:=by unfold Mk.colon;rw[a];rfl
  have d:dD l=[]:=by unfold dD;rw[a];rfl
  rw[b]at f;rw[d];clear b d a g;go_enter func241,ntmps241
  go_wp2_with fail
  refine(aA f).mono ?_;rintro e w1 ⟨rfl,rfl⟩;go_wp2
  go_ret;exact⟨rfl,rfl⟩
 have b:Mk.colon l=(iw l:Int):=by unfold Mk.colon;rw[a];rfl
 have d:dD l=l.take (iw l):=by unfold dD;rw[a];rfl
 rw[b]at f;rw[d];generalize iw l=c at *;have i:decide ((c:Int)<0)=false:=by simp
 have j:=Et l c;clear b d a;go_enter func241,ntmps241
 go_wp2_with fail
 refine(aA f).mono ?_;rintro e w1 ⟨rfl,rfl⟩;go_wp2
 go_ret;exact⟨rfl,rfl⟩
theorem rY(l:Bs)(h:l.length≤100000000)(w:World):Calls Tryz.prog 249 #[.string ⟨l.toArray⟩] w fun e w' =>e=.returned (.string ⟨(eX l).toArray⟩)∧w' =w:=by
 have f:=aB (uO l h w);have g:=yE l;cases a:Mk.dN l
 .have b:Mk.colon l= -1:=by unfold Mk.colon;rw[a];rfl
  have d:eX l=l:=by unfold eX;rw[a];rfl
  rw[b]at f;rw[d];have i:=rX l 0;clear b d a g;go_enter func249,ntmps249
  go_wp2_with fail
  refine(aA f).mono ?_;rintro e w1 ⟨rfl,rfl⟩;go_wp2
  go_ret;exact⟨rfl,rfl⟩
 have b:Mk.colon l=(iw l:Int):=by unfold Mk.colon;rw[a];rfl
 have d:eX l=l.drop (iw l+1):=by unfold eX;rw[a];rfl
 have j:iw l<l.length:=by simpa[Mk.dN]using a
 rw[b]at f;rw[d];generalize iw l=c at *;have i:=rX l (c+1);have k:decide ((c:Int)+1≤(l.length:Int))=true:=by simp;omega
 clear b d a;go_enter func249,ntmps249
 go_wp2_with fail
 refine(aA f).mono ?_;rintro e w1 ⟨rfl,rfl⟩;go_wp2
 go_ret;exact⟨rfl,rfl⟩
theorem Eu(l:Bs):(eX l).length≤l.length:=by unfold eX;split<;>simp
theorem yF(l:Bs)(b:l.length≤100000000)(w:World):Calls Tryz.prog 245 #[.string ⟨l.toArray⟩] w fun e w' =>e=.returned (.bool (oM l))∧w' =w:=by
 have a:=aB (fun w=>ql l b w);have hd:oM l=(l==jm||dD l==jm):=rfl;rw[hd];clear hd;unfold jm;generalize dD l=x at *;cases c:(l==[120,109,108,110,115])
 .simp only[Bool.false_or];cases d:(x==[120,109,108,110,115])
  .go_enter func245,ntmps245
   go_wp2_with(go_at_call 241;refine(aA a _).mono ?_;rintro e w1 ⟨rfl,rfl⟩)
   go_ret;exact⟨rfl,rfl⟩
  go_enter func245,ntmps245
  go_wp2_with(go_at_call 241;refine(aA a _).mono ?_;rintro e w1 ⟨rfl,rfl⟩)
  go_ret;exact⟨rfl,rfl⟩
 simp only[Bool.true_or];go_enter func245,ntmps245
 go_wp2
 go_ret;exact⟨rfl,rfl⟩
theorem Ew(l:Bs)(a:l.length≤100000000)(w:World):Calls Tryz.prog 246 #[.string ⟨l.toArray⟩] w fun e w' =>e=.returned (.string ⟨(Mk.declared l).toArray⟩)∧w' =w:=by
 have b:=aB (fun w=>rY l a w);have hd:Mk.declared l=if(l==jm)=true then[]else eX l:=rfl
 rw[hd];clear hd;unfold jm;generalize eX l=x at *;cases c:(l==[120,109,108,110,115])
 .simp only[Bool.false_eq_true,if_false];go_enter func246,ntmps246
  go_wp2_with fail
  refine(aA b _).mono ?_;rintro e w1 ⟨rfl,rfl⟩;go_wp2
  go_ret;exact⟨rfl,rfl⟩
 simp only[if_true];go_enter func246,ntmps246
 go_wp2
 go_ret;exact⟨rfl,rfl⟩
theorem yG(l:Bs)(g:l.length≤100000000)(w:World):Calls Tryz.prog 244 #[.string ⟨l.toArray⟩] w fun e w' =>e=.returned (.bool (kD l))∧w' =w:=by
 have b:=aB (fun w=>uP l g w);have i:=aB (fun w=>rY l g w);have j:=aB (fun w=>ql l g w);have k:=aB (fun w=>uP (eX l) (Nat.le_trans (Eu l) g) w);have hd:kD l=if !Mk.dN l then true else(dD l !=[])&&((eX l !=[])&&(dM ((eX l).headD 0).toNat&& !Mk.dN (eX l))):=rfl
 rw[hd];clear hd;generalize dD l=p at *;generalize eX l=q at *;generalize Mk.dN l=c at *;generalize Mk.dN q=d at *;cases c
 .simp only[Bool.not_false,if_true];go_enter func244,ntmps244
  go_wp2_with(go_at_call 195;refine(aA b _).mono ?_;rintro e w1 ⟨rfl,rfl⟩)
  go_ret;exact⟨rfl,rfl⟩
 simp only[Bool.not_true,Bool.false_eq_true,if_false];cases n:(p==[])
 .have a:(p !=[])=true:=by simp[bne,n]
  rw[a,Bool.true_and];cases q with
  |nil=>
   simp only[bne_self_eq_false,Bool.false_and];go_enter func244,ntmps244
   go_wp2_with first|(go_at_call 195;refine(aA b _).mono ?_;rintro e w1 ⟨rfl,rfl⟩)|(go_at_call 249;refine(aA i _).mono ?_;rintro e w1 ⟨rfl,rfl⟩)|(go_at_call 241;refine(aA j _).mono ?_;rintro e w1 ⟨rfl,rfl⟩)
   go_ret;exact⟨rfl,rfl⟩
  |cons y r=>
   have v:((y::r:Bs)==[])=false:=rfl;have m:((y::r:Bs) !=[])=true:=rfl;rw[m,Bool.true_and];have u:∀h,(ByteArray.mk (y::r).toArray)[0]'h=y:=fun h=>rfl
   have o:=aB (fun w=>eF (y.toNat:Int) w);have s:((y::r:Bs).headD 0)=y:=rfl;rw[s];generalize dM (y.toNat:Int)=z at *;generalize f:(y::r:Bs)=q at *;have t:0<q.length:=by rw[←f];simp
   clear f s;cases z
   .simp only[Bool.false_and];go_enter func244,ntmps244
    go_wp2_with first|(go_at_call 195;refine(aA b _).mono ?_;rintro e w1 ⟨rfl,rfl⟩)|(go_at_call 249;refine(aA i _).mono ?_;rintro e w1 ⟨rfl,rfl⟩)|(go_at_call 241;refine(aA j _).mono ?_;rintro e w1 ⟨rfl,rfl⟩)|(go_at_call 190;refine(aA o _).mono ?_;rintro e w1 ⟨rfl,rfl⟩)
    go_ret;exact⟨rfl,rfl⟩
   simp only[Bool.true_and];go_enter func244,ntmps244
   go_wp2_with first|(go_at_call 195;refine(aA b _).mono ?_;rintro e w1 ⟨rfl,rfl⟩)|(go_at_call 195;refine(aA k _).mono ?_;rintro e w1 ⟨rfl,rfl⟩)|(go_at_call 249;refine(aA i _).mono ?_;rintro e w1 ⟨rfl,rfl⟩)|(go_at_call 241;refine(aA j _).mono ?_;rintro e w1 ⟨rfl,rfl⟩)|(go_at_call 190;refine(aA o _).mono ?_;rintro e w1 ⟨rfl,rfl⟩)
   go_ret;exact⟨rfl,rfl⟩
 have a:(p !=[])=false:=by simp[bne,n]
 rw[a,Bool.false_and];go_enter func244,ntmps244
 go_wp2_with first|(go_at_call 195;refine(aA b _).mono ?_;rintro e w1 ⟨rfl,rfl⟩)|(go_at_call 249;refine(aA i _).mono ?_;rintro e w1 ⟨rfl,rfl⟩)|(go_at_call 241;refine(aA j _).mono ?_;rintro e w1 ⟨rfl,rfl⟩)
 go_ret;exact⟨rfl,rfl⟩
theorem Ex(p v:Bs)(w:World):Calls Tryz.prog 247 #[.agg #[.string ⟨p.toArray⟩,.string ⟨v.toArray⟩]] w fun e w' =>e=.returned (.bool (rS p v))∧Below w.heap.size w w' :=by
 have hd:rS p v=if p==[120,109,108,110,115]||v==[104,116,116,112,58,47,47,119,119,119,46,119,51,46,111,114,103,47,50,48,48,48,47,120,109,108,110,115,47]then false else if p==[120,109,108]||v==[104,116,116,112,58,47,47,119,119,119,46,119,51,46,111,114,103,47,88,77,76,47,49,57,57,56,47,110,97,109,101,115,112,97,99,101]then p==[120,109,108]&&v==[104,116,116,112,58,47,47,119,119,119,46,119,51,46,111,114,103,47,88,77,76,47,49,57,57,56,47,110,97,109,101,115,112,97,99,101]else p==[]||v !=[]:=rfl
 rw[hd];clear hd;cases a:(p==[120,109,108,110,115])
 .skip;cases b:(v==[104,116,116,112,58,47,47,119,119,119,46,119,51,46,111,114,103,47,50,48,48,48,47,120,109,108,110,115,47])
  .skip;cases d:(p==[120,109,108])
   .skip;cases c:(v==[104,116,116,112,58,47,47,119,119,119,46,119,51,46,111,114,103,47,88,77,76,47,49,57,57,56,47,110,97,109,101,115,112,97,99,101])
    .skip;cases f:(p==[])
     .skip;cases g:(v==[])
      .skip;simp only[bne,Bool.or_true,Bool.true_or,Bool.or_false,Bool.false_or,Bool.and_true,Bool.and_false,Bool.false_and,Bool.true_and,Bool.false_eq_true,Bool.not_true,Bool.not_false,if_true,if_false,a,b,d,c,f,g];go_enter func247,ntmps247
       go_wp2
       go_ret;exact⟨rfl,(Below.refl w.heap.size w).alloc (Nat.le_refl _) _⟩
      simp only[bne,Bool.or_true,Bool.true_or,Bool.or_false,Bool.false_or,Bool.and_true,Bool.and_false,Bool.false_and,Bool.true_and,Bool.false_eq_true,Bool.not_true,Bool.not_false,if_true,if_false,a,b,d,c,f,g];go_enter func247,ntmps247
      go_wp2
      go_ret;exact⟨rfl,(Below.refl w.heap.size w).alloc (Nat.le_refl _) _⟩
     simp only[bne,Bool.or_true,Bool.true_or,Bool.or_false,Bool.false_or,Bool.and_true,Bool.and_false,Bool.false_and,Bool.true_and,Bool.false_eq_true,Bool.not_true,Bool.not_false,if_true,if_false,a,b,d,c,f];go_enter func247,ntmps247
     go_wp2
     go_ret;exact⟨rfl,(Below.refl w.heap.size w).alloc (Nat.le_refl _) _⟩
    simp only[bne,Bool.or_true,Bool.true_or,Bool.or_false,Bool.false_or,Bool.and_true,Bool.and_false,Bool.false_and,Bool.true_and,Bool.false_eq_true,Bool.not_true,Bool.not_false,if_true,if_false,a,b,d,c];go_enter func247,ntmps247
    go_wp2
    go_ret;exact⟨rfl,(Below.refl w.heap.size w).alloc (Nat.le_refl _) _⟩
   cases c:(v==[104,116,116,112,58,47,47,119,119,119,46,119,51,46,111,114,103,47,88,77,76,47,49,57,57,56,47,110,97,109,101,115,112,97,99,101])
   .skip;simp only[bne,Bool.or_true,Bool.true_or,Bool.or_false,Bool.false_or,Bool.and_true,Bool.and_false,Bool.false_and,Bool.true_and,Bool.false_eq_true,Bool.not_true,Bool.not_false,if_true,if_false,a,b,d,c];go_enter func247,ntmps247
    go_wp2
    go_ret;exact⟨rfl,(Below.refl w.heap.size w).alloc (Nat.le_refl _) _⟩
   simp only[bne,Bool.or_true,Bool.true_or,Bool.or_false,Bool.false_or,Bool.and_true,Bool.and_false,Bool.false_and,Bool.true_and,Bool.false_eq_true,Bool.not_true,Bool.not_false,if_true,if_false,a,b,d,c];go_enter func247,ntmps247
   go_wp2
   go_ret;exact⟨rfl,(Below.refl w.heap.size w).alloc (Nat.le_refl _) _⟩
  simp only[bne,Bool.or_true,Bool.true_or,Bool.or_false,Bool.false_or,Bool.and_true,Bool.and_false,Bool.false_and,Bool.true_and,Bool.false_eq_true,Bool.not_true,Bool.not_false,if_true,if_false,a,b];go_enter func247,ntmps247
  go_wp2
  go_ret;exact⟨rfl,(Below.refl w.heap.size w).alloc (Nat.le_refl _) _⟩
 simp only[bne,Bool.or_true,Bool.true_or,Bool.or_false,Bool.false_or,Bool.and_true,Bool.and_false,Bool.false_and,Bool.true_and,Bool.false_eq_true,Bool.not_true,Bool.not_false,if_true,if_false,a];go_enter func247,ntmps247
 go_wp2
 go_ret;exact⟨rfl,(Below.refl w.heap.size w).alloc (Nat.le_refl _) _⟩
end Go.Proofs.YtmgfijllcdadgaaGreatDoor

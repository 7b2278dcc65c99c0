/- Rep, Tok -/
import Derived.Test.YtmgfijllcdadgabGreatDoorProg
import Derived.Test.YtmgfijllcdadgabGreatDoorPM00
import Derived.WalkSpells
import Derived.Deep.QuietTactic
import Derived.BigQuiet
import Derived.Deep.RegionLaw
import Derived.Test.YtmgfijllcdadgabGreatDoorPM01
set_option linter.unusedVariables false
set_option linter.unusedSimpArgs false
namespace Go.Proofs.YtmgfijllcdadgabGreatDoor
open Go.RowKit
open Mk (St Bs Ev Att)
def bv (x:UInt8):Value:=.int .u8 (x.toNat:Int)
def sv (l:Bs):Value:=.string ⟨l.toArray⟩
def atCells (a:Att):List Value:=[.string ⟨a.name.toArray⟩,.string ⟨a.space.toArray⟩,.string ⟨a.val.toArray⟩]
def evCells (e:Ev) (v:Value):List Value:=[.int .i64 e.kind,.string ⟨e.name.toArray⟩,.string ⟨e.space.toArray⟩,.string ⟨e.val.toArray⟩,v]
def atsRow (l:List Att):List Value:=l.flatMap atCells
def evsRow (l:List (Ev × Value)):List Value:=l.flatMap fun p=>evCells p.1 p.2
structure Lay where
  oa:Option Addr
  oc:Nat
  ta:Option Addr
  tc:Nat
  aa:Option Addr
  ac:Nat
  la:Option Addr
  lc:Nat
  xa:Option Addr
  xc:Nat
  ba:Option Addr
  bc:Nat
  ca:Option Addr
  cc:Nat
  es:List (Ev × Value)
def cellsOf (s:St) (L:Lay):List Value:=
  [.int .i64 s.od,.int .i64 s.oa,.int .i64 s.ot,.bool s.on,.int .i64 s.state,.slice L.oa s.opn.length L.oc,.bool s.over,.slice L.ba s.bnd.length L.bc,.slice L.ca s.cnt.length L.cc,
   .slice L.ta s.token.length L.tc,.int .i64 s.count,.string ⟨s.name.toArray⟩,.string ⟨s.attr.toArray⟩,.slice L.aa s.attrs.length L.ac,.int .u8 s.quote,.string ⟨s.held.toArray⟩,
   .int .i64 s.brackets,.int .i64 s.matched,.int .i64 s.pc,.int .i64 s.pl,.int .i64 s.rp,.string ⟨s.rn.toArray⟩,.int .i64 s.rc,.bool s.ret,
   .int .i64 s.line,.int .i64 s.column,.slice L.la s.list.length L.lc,.slice L.xa s.text.length L.xc,.int .i64 s.at_,.int .i64 s.ended]
def opnRow (s:St) (L:Lay):Row:=⟨9,1,.slice L.oa s.opn.length L.oc,s.opn.length,s.opn.map sv⟩
def tokRow (s:St) (L:Lay):Row:=⟨5,1,.slice L.ta s.token.length L.tc,s.token.length,s.token.map bv⟩
def attRow (s:St) (L:Lay):Row:=if s.am then ⟨112,3,.slice none 0 0,0,[]⟩ else ⟨112,3,.slice L.aa s.attrs.length L.ac,s.attrs.length,atsRow s.attrs⟩
def lstRow (s:St) (L:Lay):Row:=⟨53,5,.slice L.la s.list.length L.lc,s.list.length,evsRow L.es⟩
def txtRow (s:St) (L:Lay):Row:=⟨5,1,.slice L.xa s.text.length L.xc,s.text.length,s.text.map bv⟩
def bndCells (p:Bs × Bs):List Value:=[.string ⟨p.1.toArray⟩,.string ⟨p.2.toArray⟩]
def bndsRow (l:List (Bs × Bs)):List Value:=l.flatMap bndCells
def nv (n:Nat):Value:=.int .i64 (n:Int)
def bndRow (s:St) (L:Lay):Row:=⟨137,2,.slice L.ba s.bnd.length L.bc,s.bnd.length,bndsRow s.bnd⟩
def cntRow (s:St) (L:Lay):Row:=⟨3,1,.slice L.ca s.cnt.length L.cc,s.cnt.length,s.cnt.map nv⟩
def evRow (p:Ev × Value):Row:=⟨112,3,p.2,p.1.attrs.length,atsRow p.1.attrs⟩
def rowsOf (s:St) (L:Lay):List Row:=opnRow s L :: tokRow s L :: attRow s L :: lstRow s L :: txtRow s L :: bndRow s L :: cntRow s L :: L.es.map evRow
def foot (s:St) (L:Lay):List Nat:=blks (rowsOf s L)
structure RdL (w:World) (b:Nat) (s:St) (L:Lay):Prop where
  blk:w.heap[b]? = some (.cells (cellsOf s L).toArray 108 (0,0))
  rows:Rws w (b - 1) (rowsOf s L)
  evs:L.es.map (·.1)=s.list
  nb:b ∉ foot s L
theorem RdL.lt {w:World} {b:Nat} {s:St} {L:Lay} (h:RdL w b s L):b<w.heap.size:=(Array.getElem?_eq_some_iff.1 h.blk).1
theorem RdL.cell {w:World} {b:Nat} {s:St} {L:Lay} (h:RdL w b s L):∀ i,w.cell? ⟨b,i,none⟩=(cellsOf s L)[i]? := by
  intro i;simp [World.cell?,h.blk]
theorem RdL.frozen {w:World} {b:Nat} {s:St} {L:Lay} (h:RdL w b s L):∀ i,w.frozen? ⟨b,i,none⟩=false:=by
  intro i;simp [World.frozen?,h.blk]
theorem RdL.foot_lt {w:World} {b:Nat} {s:St} {L:Lay} (h:RdL w b s L):∀ k ∈ foot s L,b≤k + 1∧k<w.heap.size:=fun k hk=>by have:=h.rows.lt k hk;omega
structure Mv (w0:World) (b:Nat) (f0:List Nat) (w:World) (s:St) (L:Lay):Prop where
  rd:RdL w b s L
  fr:Fr w0 w b f0 (foot s L)
theorem RdL.start {w:World} {b:Nat} {s:St} {L:Lay} (h:RdL w b s L):Mv w b (foot s L) w s L:=⟨h,Fr.refl _ _ _⟩
theorem RdL.keep {w w' : World} {b:Nat} {s:St} {L:Lay} (h:RdL w b s L) (hk:∀ k,k=b∨k ∈ foot s L→w'.heap[k]? = w.heap[k]?):RdL w' b s L:=
  ⟨(hk b (.inl rfl)).trans h.blk,h.rows.keep fun k hm=>hk k (.inr hm),h.evs,h.nb⟩
section
variable {w0 w w' : World} {b:Nat} {f0:List Nat} {s s' : St} {L L' : Lay}
theorem Mv.alloc (m:Mv w0 b f0 w s L) (o:Obj):Mv w0 b f0 (w.alloc o) s L:=
  ⟨m.rd.keep fun k hk=>Below.heap_alloc _ _ _ (by rcases hk with rfl | hk;exact m.rd.lt;exact (m.rd.foot_lt k hk).2),m.fr.trans (Fr.alloc _ _ _ _)⟩
theorem Mv.drew (m:Mv w0 b f0 w s L):Mv w0 b f0 w.drew s L:=⟨m.rd.keep fun _ _=>rfl,m.fr.trans (Fr.drew _ _ _)⟩
theorem Mv.store (m:Mv w0 b f0 w s L) (i:Nat) (v:Value) (s' : St) (hc:(cellsOf s L).set i v=cellsOf s' L) (hr:rowsOf s' L=rowsOf s L) (he:s'.list=s.list) :
    Mv w0 b f0 (w.setCell ⟨b,i,none⟩ v) s' L:=by
  refine ⟨⟨?_,?_,by rw [he];exact m.rd.evs,by unfold foot;rw [hr];exact m.rd.nb⟩,?_⟩
  · rw [← hc]
    have:=m.rd.blk
    simp [World.setCell,Array.getElem?_modify,this]
  · rw [hr]
    refine m.rd.rows.keep fun k hk=>Below.heap_setCell _ _ _ _ ?_
    exact fun (e:k=b)=>m.rd.nb (e ▸ hk)
  · unfold foot;rw [hr];exact m.fr.trans (Fr.setCell _ _ _ _ _)
theorem Mv.call {s1:St} {L1:Lay} {w1:World} (m:Mv w0 b f0 w s L) (k:Mv w b (foot s L) w1 s1 L1):Mv w0 b f0 w1 s1 L1:=⟨k.rd,m.fr.trans k.fr⟩
theorem Mv.growN (m:Mv w0 b f0 w s L) {r r' : Row} {rs:List Row} (ns:List Row) (i:Nat) (v:Value) (hp:(rowsOf s L).Perm (r :: rs)) (hp' : (rowsOf s' L').Perm (ns ++ r' :: rs)) (hn:∀ x ∈ ns,x.isNil) (ho:r'.owned w' (b - 1)) (hg:w.grownBy w' r.v.ownBlock)
    (hb:r'.v.ownBlock=r.v.ownBlock∨r'.v.ownBlock=some w.heap.size) (hc:(cellsOf s L).set i v=cellsOf s' L') (he:L'.es.map (·.1)=s'.list) :
    Mv w0 b f0 (w'.setCell ⟨b,i,none⟩ v) s' L' := by
  have h1:=m.rd.rows.perm hp
  have h2:Rws w' (b - 1) (rowsOf s' L'):=((h1.grow ho hg hb).nils ns hn).perm hp'.symm
  have hne:some b ≠ r.v.ownBlock:=fun e=>m.rd.nb (perm_blks hp.symm b (List.mem_filterMap.2 ⟨r,List.mem_cons_self,e.symm⟩))
  have hnb:b ∉ foot s' L' := fun hm=>by
    have h3:=perm_blks hp' b hm
    rw [blks_nils ns hn] at h3
    have hrs:b ∈ blks rs→False:=fun h=>m.rd.nb (perm_blks hp.symm b (@blks_behind [r] rs b h))
    unfold blks at h3
    rw [List.filterMap_cons] at h3
    split at h3
    · exact hrs h3
    · rename_i j hj
      rcases List.mem_cons.1 h3 with e | h3
      · subst e
        rcases hb with hb | hb
        · exact hne (hj.symm.trans hb)
        · rw [hj] at hb
          cases hb
          exact Nat.lt_irrefl _ m.rd.lt
      · exact hrs h3
  have hblk:w'.heap[b]? = some (.cells (cellsOf s L).toArray 108 (0,0)):=(hg.block b m.rd.lt hne).trans m.rd.blk
  refine ⟨⟨?_,?_,he,hnb⟩,?_⟩
  · rw [← hc];simp [World.setCell,Array.getElem?_modify,hblk]
  · refine h2.keep fun k hk=>Below.heap_setCell _ _ _ _ ?_
    exact fun (e:k=b)=>hnb (e ▸ hk)
  · refine (m.fr.trans ((Fr.grown (b:=b) hg hb rs rfl).wide fun k hk=>perm_blks hp.symm k hk)).trans ((Fr.setCell _ _ _ _ _).sub fun k hk => ?_)
    have:=perm_blks hp' k hk
    rw [blks_nils ns hn] at this
    exact this
theorem Mv.grow (m:Mv w0 b f0 w s L) {r r' : Row} {rs:List Row} (i:Nat) (v:Value) (hp:(rowsOf s L).Perm (r :: rs)) (hp' : (rowsOf s' L').Perm (r' :: rs)) (ho:r'.owned w' (b - 1)) (hg:w.grownBy w' r.v.ownBlock)
    (hb:r'.v.ownBlock=r.v.ownBlock∨r'.v.ownBlock=some w.heap.size) (hc:(cellsOf s L).set i v=cellsOf s' L') (he:L'.es.map (·.1)=s'.list) :
    Mv w0 b f0 (w'.setCell ⟨b,i,none⟩ v) s' L' := m.growN [] i v hp hp' (fun _ h=>by cases h) ho hg hb hc he
theorem Mv.letgo (m:Mv w0 b f0 w s L) (gs ns rs:List Row) (i:Nat) (v:Value) (hp:(rowsOf s L).Perm (gs ++ rs)) (hp' : (rowsOf s' L').Perm (ns ++ rs)) (hn:∀ x ∈ ns,x.isNil)
    (hc:(cellsOf s L).set i v=cellsOf s' L') (he:L'.es.map (·.1)=s'.list):Mv w0 b f0 (w.setCell ⟨b,i,none⟩ v) s' L' := by
  have h2:Rws w (b - 1) (rowsOf s' L'):=((Rws.behind gs (m.rd.rows.perm hp)).nils ns hn).perm hp'.symm
  have hnb:b ∉ foot s' L' := fun hm=>by
    have h3:=perm_blks hp' b hm
    rw [blks_nils ns hn] at h3
    exact m.rd.nb (perm_blks hp.symm b (blks_behind b h3))
  refine ⟨⟨?_,?_,he,hnb⟩,?_⟩
  · rw [← hc]
    have:=m.rd.blk
    simp [World.setCell,Array.getElem?_modify,this]
  · refine h2.keep fun k hk=>Below.heap_setCell _ _ _ _ ?_
    exact fun (e:k=b)=>hnb (e ▸ hk)
  · refine (m.fr.trans (Fr.setCell _ _ _ _ _)).sub fun k hk => ?_
    have:=perm_blks hp' k hk
    rw [blks_nils ns hn] at this
    exact perm_blks hp.symm k (blks_behind k this)
theorem RdL.grown {w1:World} {r:Row} (h:RdL w b s L) (hg:w.grownBy w1 r.v.ownBlock) (hr:r ∈ rowsOf s L):w1.heap[b]? = some (.cells (cellsOf s L).toArray 108 (0,0)):=by
  refine (hg.block b h.lt fun e => ?_).trans h.blk
  exact h.nb (List.mem_filterMap.2 ⟨r,hr,e.symm⟩)
theorem cell_of_blk (h:w.heap[b]? = some (.cells (cellsOf s L).toArray 108 (0,0))):(∀ i,w.cell? ⟨b,i,none⟩=(cellsOf s L)[i]?)∧∀ i,w.frozen? ⟨b,i,none⟩=false:=
  ⟨fun i=>by simp [World.cell?,h],fun i=>by simp [World.frozen?,h]⟩
theorem Mv.below (m:Mv w0 b f0 w s L) (hb:Below w.heap.size w w'):Mv w0 b f0 w' s L:=
  ⟨m.rd.keep fun k hk=>hb.block k (by rcases hk with rfl | hk;exact m.rd.lt;exact (m.rd.foot_lt k hk).2),
   m.fr.trans ⟨hb.os,hb.tape,hb.output,hb.size,fun k hk _ _=>hb.block k hk,fun _ h => .inl h⟩⟩
theorem heap_drewN (w:World) (n:Nat):(w.drewN n).heap=w.heap:=by simp [World.drewN]
theorem RdL.drewN (h:RdL w b s L) (n:Nat):RdL (w.drewN n) b s L:=h.keep fun _ _=>by rw [heap_drewN]
theorem Mv.drewN (m:Mv w0 b f0 w s L) (n:Nat):Mv w0 b f0 (w.drewN n) s L:=m.below ⟨rfl,rfl,rfl,Nat.le_of_eq (by rw [heap_drewN]),fun _ _=>by rw [heap_drewN]⟩
end
theorem perm2 {α:Type} (a b:α) (l:List α):(a :: b :: l).Perm (b :: a :: l):=.swap _ _ _
theorem perm3 {α:Type} (a b c:α) (l:List α):(a :: b :: c :: l).Perm (c :: a :: b :: l):=((perm2 b c l).cons a).trans (perm2 a c _)
theorem perm4 {α:Type} (a b c d:α) (l:List α):(a :: b :: c :: d :: l).Perm (d :: a :: b :: c :: l):=((perm3 b c d l).cons a).trans (perm2 a d _)
theorem perm5 {α:Type} (a b c d e:α) (l:List α):(a :: b :: c :: d :: e :: l).Perm (e :: a :: b :: c :: d :: l):=((perm4 b c d e l).cons a).trans (perm2 a e _)
section
variable {w0 w w' : World} {b:Nat} {f0:List Nat} {s:St} {L:Lay}
theorem perm_end {α:Type} (a:α) (l r:List α):(l ++ a :: r).Perm (a :: (l ++ r)):=List.perm_middle
theorem Mv.pushNil (m:Mv w0 b f0 w s L) (e:Ev) (he:e.attrs=[]) {g cap:Nat} (hown:w'.ownsRow (b - 1) 53 5 (.slice (some ⟨g,0,none⟩) (s.list.length + 1) cap) (s.list.length + 1) (evsRow L.es ++ evCells e (.slice none 0 0)))
    (hg:w.grownBy w' (lstRow s L).v.ownBlock) (hat:(Value.slice L.la s.list.length L.lc).ownBlock=some g∨g=w.heap.size) :
    Mv w0 b f0 (w'.setCell ⟨b,26,none⟩ (.slice (some ⟨g,0,none⟩) (s.list.length + 1) cap)) { s with list:=s.list ++ [e] } { L with la:=some ⟨g,0,none⟩,lc:=cap,es:=L.es ++ [(e,.slice none 0 0)] }:=by
  refine m.growN (r:=lstRow s L) (r' := lstRow { s with list:=s.list ++ [e] } { L with la:=some ⟨g,0,none⟩,lc:=cap,es:=L.es ++ [(e,.slice none 0 0)] }) (rs:=opnRow s L :: tokRow s L :: attRow s L :: txtRow s L :: bndRow s L :: cntRow s L :: L.es.map evRow) [evRow (e,.slice none 0 0)] 26 _ (perm4 _ _ _ _ _) ?_ ?_ ?_ hg ?_ ?_ ?_
  · have h1:rowsOf { s with list:=s.list ++ [e] } { L with la:=some ⟨g,0,none⟩,lc:=cap,es:=L.es ++ [(e,.slice none 0 0)] }=opnRow s L :: tokRow s L :: attRow s L :: lstRow { s with list:=s.list ++ [e] } { L with la:=some ⟨g,0,none⟩,lc:=cap,es:=L.es ++ [(e,.slice none 0 0)] } :: txtRow s L :: bndRow s L :: cntRow s L :: (L.es.map evRow ++ [evRow (e,.slice none 0 0)]):=by
      simp [rowsOf,opnRow,tokRow,attRow,txtRow,bndRow,cntRow]
    rw [h1]
    refine (perm4 _ _ _ _ _).trans ?_
    exact (perm_end (evRow (e,.slice none 0 0)) (lstRow _ _ :: opnRow s L :: tokRow s L :: attRow s L :: txtRow s L :: bndRow s L :: cntRow s L :: L.es.map evRow) []).trans (by rw [List.append_nil];exact .refl _)
  · intro x hx;simp at hx;subst hx;simp [Row.isNil,evRow,he,atsRow]
  · show World.ownsRow _ _ _ _ _ _ _
    simp only [lstRow,List.length_append,List.length_cons,List.length_nil,Nat.zero_add,evsRow,List.flatMap_append,List.flatMap_cons,List.flatMap_nil,List.append_nil]
    exact hown
  · rcases hat with h | h
    · exact .inl h.symm
    · exact .inr (by rw [h];rfl)
  · simp [cellsOf]
  · simp [m.rd.evs]
theorem Mv.pushMoved (m:Mv w0 b f0 w s L) (e:Ev) (he:e.attrs=s.attrs) (ham:s.am=false) {g cap:Nat} (hown:w'.ownsRow (b - 1) 53 5 (.slice (some ⟨g,0,none⟩) (s.list.length + 1) cap) (s.list.length + 1) (evsRow L.es ++ evCells e (.slice L.aa s.attrs.length L.ac)))
    (hg:w.grownBy w' (lstRow s L).v.ownBlock) (hat:(Value.slice L.la s.list.length L.lc).ownBlock=some g∨g=w.heap.size) :
    Mv w0 b f0 (w'.setCell ⟨b,26,none⟩ (.slice (some ⟨g,0,none⟩) (s.list.length + 1) cap)) { s with list:=s.list ++ [e],am:=true } { L with la:=some ⟨g,0,none⟩,lc:=cap,es:=L.es ++ [(e,.slice L.aa s.attrs.length L.ac)] }:=by
  have hatt:attRow s L=evRow (e,.slice L.aa s.attrs.length L.ac):=by simp [attRow,evRow,ham,he]
  refine m.growN (r:=lstRow s L) (r' := lstRow { s with list:=s.list ++ [e] } { L with la:=some ⟨g,0,none⟩,lc:=cap,es:=L.es ++ [(e,.slice L.aa s.attrs.length L.ac)] }) (rs:=opnRow s L :: tokRow s L :: attRow s L :: txtRow s L :: bndRow s L :: cntRow s L :: L.es.map evRow) [⟨112,3,.slice none 0 0,0,[]⟩] 26 _ (perm4 _ _ _ _ _) ?_ ?_ ?_ hg ?_ ?_ ?_
  · have h1:rowsOf { s with list:=s.list ++ [e],am:=true } { L with la:=some ⟨g,0,none⟩,lc:=cap,es:=L.es ++ [(e,.slice L.aa s.attrs.length L.ac)] }=opnRow s L :: tokRow s L :: ⟨112,3,.slice none 0 0,0,[]⟩ :: lstRow { s with list:=s.list ++ [e] } { L with la:=some ⟨g,0,none⟩,lc:=cap,es:=L.es ++ [(e,.slice L.aa s.attrs.length L.ac)] } :: txtRow s L :: bndRow s L :: cntRow s L :: (L.es.map evRow ++ [evRow (e,.slice L.aa s.attrs.length L.ac)]):=by
      simp [rowsOf,opnRow,tokRow,attRow,txtRow,lstRow,bndRow,cntRow]
    rw [h1,hatt]
    refine (perm3 _ _ _ _).trans (.cons _ ?_)
    refine (perm3 _ _ _ _).trans (.cons _ ?_)
    refine .cons _ (.cons _ ?_)
    refine (perm_end (evRow (e,.slice L.aa s.attrs.length L.ac)) (txtRow s L :: bndRow s L :: cntRow s L :: L.es.map evRow) []).trans ?_
    rw [List.append_nil]
  · intro x hx;simp at hx;subst hx;exact ⟨rfl,rfl,rfl⟩
  · show World.ownsRow _ _ _ _ _ _ _
    simp only [lstRow,List.length_append,List.length_cons,List.length_nil,Nat.zero_add,evsRow,List.flatMap_append,List.flatMap_cons,List.flatMap_nil,List.append_nil]
    exact hown
  · rcases hat with h | h
    · exact .inl h.symm
    · exact .inr (by rw [h];rfl)
  · simp [cellsOf]
  · simp [m.rd.evs]
theorem Mv.dropText (m:Mv w0 b f0 w s L):Mv w0 b f0 (w.setCell ⟨b,27,none⟩ (.slice none 0 0)) { s with text:=[] } { L with xa:=none,xc:=0 }:=
  m.letgo [txtRow s L] [txtRow { s with text:=[] } { L with xa:=none,xc:=0 }] (opnRow s L :: tokRow s L :: attRow s L :: lstRow s L :: bndRow s L :: cntRow s L :: L.es.map evRow) 27 _ (perm5 _ _ _ _ _ _) (perm5 _ _ _ _ _ _)
    (fun x hx=>by simp at hx;subst hx;exact ⟨rfl,rfl,rfl⟩) rfl m.rd.evs
theorem Mv.dropTok (m:Mv w0 b f0 w s L):Mv w0 b f0 (w.setCell ⟨b,9,none⟩ (.slice none 0 0)) { s with token:=[] } { L with ta:=none,tc:=0 }:=
  m.letgo [tokRow s L] [tokRow { s with token:=[] } { L with ta:=none,tc:=0 }] (opnRow s L :: attRow s L :: lstRow s L :: txtRow s L :: bndRow s L :: cntRow s L :: L.es.map evRow) 9 _ (perm2 _ _ _) (perm2 _ _ _)
    (fun x hx=>by simp at hx;subst hx;exact ⟨rfl,rfl,rfl⟩) rfl m.rd.evs
theorem Mv.dropAttrs (m:Mv w0 b f0 w s L):Mv w0 b f0 (w.setCell ⟨b,13,none⟩ (.slice none 0 0)) { s with attrs:=[],am:=false } { L with aa:=none,ac:=0 }:=
  m.letgo [attRow s L] [attRow { s with attrs:=[],am:=false } { L with aa:=none,ac:=0 }] (opnRow s L :: tokRow s L :: lstRow s L :: txtRow s L :: bndRow s L :: cntRow s L :: L.es.map evRow) 13 _ (perm3 _ _ _ _) (perm3 _ _ _ _)
    (fun x hx=>by simp at hx;subst hx;simp [attRow,Row.isNil,atsRow]) rfl m.rd.evs
theorem Mv.dropList (m:Mv w0 b f0 w s L):Mv w0 b f0 (w.setCell ⟨b,26,none⟩ (.slice none 0 0)) { s with list:=[] } { L with la:=none,lc:=0,es:=[] }:=by
  refine m.letgo (lstRow s L :: L.es.map evRow) [lstRow { s with list:=[] } { L with la:=none,lc:=0,es:=[] }] [opnRow s L,tokRow s L,attRow s L,txtRow s L,bndRow s L,cntRow s L] 26 _ ?_ (perm4 _ _ _ _ _)
    (fun x hx=>by simp at hx;subst hx;exact ⟨rfl,rfl,rfl⟩) rfl rfl
  refine (perm4 _ _ _ _ _).trans (.cons _ ?_)
  exact (List.perm_append_comm (l₁:=[opnRow s L,tokRow s L,attRow s L,txtRow s L,bndRow s L,cntRow s L]) (l₂:=L.es.map evRow))
end
theorem infoU8:(Tryz.prog.info? 5).map (fun i=>(i.zero,i.size,i.bytes))=some (some (.int .u8 0),1,1):=by kernel_rfl
theorem inText_any {w:World} {b:Nat} {s:St} {L:Lay} (h:RdL w b s L) :
    Calls Tryz.prog 140 #[.pointer (some ⟨b,0,none⟩)] w fun e w' => e = .returned (.bool (Mk.inText s))∧w' = w:=by
  have hc:=h.cell
  unfold cellsOf at hc
  clear h
  go_enter Tryz.func140,Tryz.ntmps140
  go_wp2
  all_goals (go_ret;exact ⟨by simp [Mk.inText, *],rfl⟩)
theorem fits_any {w:World} {b:Nat} {s:St} {L:Lay} (h:RdL w b s L) (more:Int) (c0:0≤s.count) (c1:s.count≤1000000000000) (m0:0≤more) (m1:more≤1000) :
    Calls Tryz.prog 118 #[.pointer (some ⟨b,0,none⟩),.int .i64 more] w fun e w' => e = .returned (.bool (Mk.fits s more))∧∃ n,w' = w.drewN n:=by
  have hc:=h.cell
  have HI:Hid (∀ n,Calls Tryz.prog 140 #[.pointer (some ⟨b,0,none⟩)] (w.drewN n) fun e w' => e = .returned (.bool (Mk.inText s))∧w' = w.drewN n):=fun n=>inText_any (h.drewN n)
  unfold cellsOf at hc
  clear h
  cases hin:Mk.inText s
  all_goals
    rw [hin] at HI
    go_enter Tryz.func118,Tryz.ntmps118
    go_wp2
    go_quiet ((go_at_call 140;exact Calls.quiet_of_same (HI.out _)))
    go_wp2
    go_ret
    exact ⟨retB (by simp [Mk.fits, *]),_,rfl⟩
theorem u8_toNat (n:Int) (h0:0≤n) (h1:n≤255):((Mk.u8 n).toNat:Int)=n:=by
  unfold Mk.u8
  rw [UInt8.toNat_ofNat']
  omega
theorem encode_cells (c:Int) (h0:0≤c) (h1:c≤1114111):(Mk.encodeI c).map (Value.int .u8)=(Mk.encode c).map bv:=by
  unfold Mk.encode
  rw [List.map_map]
  apply List.map_congr_left
  intro n hn
  have:0≤n∧n≤255:=by
    unfold Mk.encodeI at hn
    split at hn
    · simp at hn;omega
    · split at hn
      · simp at hn;omega
      · split at hn <;> simp at hn <;> omega
  simp [bv,u8_toNat n this.1 this.2]
theorem encode_len (c:Int):0<(Mk.encodeI c).length∧(Mk.encodeI c).length≤4∧(Mk.encode c).length=(Mk.encodeI c).length:=by
  unfold Mk.encode Mk.encodeI
  repeat' split
  all_goals simp
set_option maxHeartbeats 1000000 in
set_option maxRecDepth 100000 in
theorem put_text {w:World} {b:Nat} {s:St} {L:Lay} (h:RdL w b s L) (c:Int) (h0:0≤c) (h1:c≤1114111) (ht:Mk.inText s=true) (hx:s.text.length≤1000000000000) :
    Calls Tryz.prog 111 #[.pointer (some ⟨b,0,none⟩),.int .i64 c] w fun e w' => e = .returned (.tuple #[])∧∃ L', Mv w b (foot s L) w' { s with text:=s.text ++ Mk.encode c } L' := by
  have hm:=(h.start).alloc (.cells ((Mk.encodeI c).map (Value.int .u8)).toArray 5)
  have hc:=hm.rd.cell
  have hf:=hm.rd.frozen
  have HI:Hid (Calls Tryz.prog 140 #[.pointer (some ⟨b,0,none⟩)] (w.alloc (.cells ((Mk.encodeI c).map (Value.int .u8)).toArray 5)) fun e w' => e = .returned (.bool (Mk.inText s))∧w' = (w.alloc (.cells ((Mk.encodeI c).map (Value.int .u8)).toArray 5))):=inText_any hm.rd
  have HM:Hid (Mv w b (foot s L) (w.alloc (.cells ((Mk.encodeI c).map (Value.int .u8)).toArray 5)) s L):=hm
  have he:=encode_len c
  unfold cellsOf at hc
  clear h hm
  obtain ⟨i0,hi,hz0,hz1,hz2⟩:=info_parts infoU8
  go_enter Tryz.func111,Tryz.ntmps111
  go_wp2_with (first
    | (go_at_call 139;refine (encode_any c h0 h1 _).mono ?_;rintro e w' ⟨rfl,rfl⟩)
    | (go_at_call 140;refine HI.out.mono ?_;rintro e w' ⟨rfl,rfl⟩)
    | (at_builtin;refine wpList_append_lies _ rfl (.tmp 14) (.tmp 15) 54 rfl (b - 1) 5 i0 (.int .u8 0) 1 1 Tryz.underlying54 hi hz0 hz1 hz2 rfl (by decide) (.slice L.xa s.text.length L.xc) s.text.length (s.text.map bv) rfl ?own ⟨w.heap.size,0,none⟩ (Mk.encodeI c).length (Mk.encodeI c).length ((Mk.encode c).map bv) rfl ?hl ?hnews ?h1 ?hm ?h63 ?hbytes ?hbase (w.heap.size + 1) (by simp) ?grow))
  case own=>exact HM.out.rd.rows.own (txtRow s L) (by simp [rowsOf])
  case hl=>simp [he.2.2]
  case hnews =>
    intro j u hu
    rw [← encode_cells c h0 h1] at hu
    have hadd:(⟨w.heap.size,0,none⟩:Addr).add j=⟨w.heap.size,j,none⟩:=by unfold Addr.add;split <;> simp_all
    rw [hadd]
    simpa [World.cell?,World.alloc, -World.alloc_eq] using hu
  case h1=>intro u hu;obtain ⟨x,_,rfl⟩:=List.mem_map.1 hu;rfl
  case hm=>exact he.1
  case h63=>unfold maxLen;omega
  case hbytes=>omega
  case hbase=>have:=HM.out.rd.lt;omega
  case grow =>
    intro g cap w1 hown hgrow hat hlt
    obtain ⟨hr,hfr⟩:=cell_of_blk (HM.out.rd.grown (r:=txtRow s L) hgrow (by simp [rowsOf]))
    unfold cellsOf at hr
    clear hc hf HI
    go_wp2
    refine bodyPost_ret (results_none rfl _ _ _) rfl ?_
    refine ⟨rfl, { L with xa:=some ⟨g,0,none⟩,xc:=cap },HM.out.grow (s' := { s with text:=s.text ++ Mk.encode c }) (L' := { L with xa:=some ⟨g,0,none⟩,xc:=cap }) (r:=txtRow s L) 27 _ (perm5 _ _ _ _ _ _) (perm5 _ _ _ _ _ _) ?_ hgrow ?_ ?_ HM.out.rd.evs⟩
    · have e1:(s.text ++ Mk.encode c).length=s.text.length + (Mk.encodeI c).length:=by rw [List.length_append,he.2.2]
      show World.ownsRow _ _ _ _ _ _ _
      simp only [txtRow,List.map_append]
      rw [e1]
      exact hown
    · rcases hat with e | e
      · exact .inl e.symm
      · exact .inr (by rw [e];simp [txtRow,Value.ownBlock])
    · simp [cellsOf,he.2.2]
set_option maxHeartbeats 1000000 in
set_option maxRecDepth 100000 in
theorem put_token {w:World} {b:Nat} {s:St} {L:Lay} (h:RdL w b s L) (c:Int) (h0:0≤c) (h1:c≤1114111) (ht:Mk.inText s=false) (hx:s.token.length≤1000000000000) (c0:0≤s.count) (c1:s.count≤1000000000000) :
    Calls Tryz.prog 111 #[.pointer (some ⟨b,0,none⟩),.int .i64 c] w fun e w' => e = .returned (.tuple #[])∧∃ L', Mv w b (foot s L) w' { s with token:=s.token ++ Mk.encode c,count:=s.count + 1 } L' := by
  have hm:=(h.start).alloc (.cells ((Mk.encodeI c).map (Value.int .u8)).toArray 5)
  have hc:=hm.rd.cell
  have hf:=hm.rd.frozen
  have HI:Hid (Calls Tryz.prog 140 #[.pointer (some ⟨b,0,none⟩)] (w.alloc (.cells ((Mk.encodeI c).map (Value.int .u8)).toArray 5)) fun e w' => e = .returned (.bool (Mk.inText s))∧w' = (w.alloc (.cells ((Mk.encodeI c).map (Value.int .u8)).toArray 5))):=inText_any hm.rd
  have HM:Hid (Mv w b (foot s L) (w.alloc (.cells ((Mk.encodeI c).map (Value.int .u8)).toArray 5)) s L):=hm
  have he:=encode_len c
  unfold cellsOf at hc
  clear h hm
  obtain ⟨i0,hi,hz0,hz1,hz2⟩:=info_parts infoU8
  go_enter Tryz.func111,Tryz.ntmps111
  go_wp2_with (first
    | (go_at_call 139;refine (encode_any c h0 h1 _).mono ?_;rintro e w' ⟨rfl,rfl⟩)
    | (go_at_call 140;refine HI.out.mono ?_;rintro e w' ⟨rfl,rfl⟩)
    | (at_builtin;refine wpList_append_lies _ rfl (.tmp 24) (.tmp 25) 54 rfl (b - 1) 5 i0 (.int .u8 0) 1 1 Tryz.underlying54 hi hz0 hz1 hz2 rfl (by decide) (.slice L.ta s.token.length L.tc) s.token.length (s.token.map bv) rfl ?own ⟨w.heap.size,0,none⟩ (Mk.encodeI c).length (Mk.encodeI c).length ((Mk.encode c).map bv) rfl ?hl ?hnews ?h1 ?hm ?h63 ?hbytes ?hbase (w.heap.size + 1) (by simp) ?grow))
  case own=>exact HM.out.rd.rows.own (tokRow s L) (by simp [rowsOf])
  case hl=>simp [he.2.2]
  case hnews =>
    intro j u hu
    rw [← encode_cells c h0 h1] at hu
    have hadd:(⟨w.heap.size,0,none⟩:Addr).add j=⟨w.heap.size,j,none⟩:=by unfold Addr.add;split <;> simp_all
    rw [hadd]
    simpa [World.cell?,World.alloc, -World.alloc_eq] using hu
  case h1=>intro u hu;obtain ⟨x,_,rfl⟩:=List.mem_map.1 hu;rfl
  case hm=>exact he.1
  case h63=>unfold maxLen;omega
  case hbytes=>omega
  case hbase=>have:=HM.out.rd.lt;omega
  case grow =>
    intro g cap w1 hown hgrow hat hlt
    obtain ⟨hr,hfr⟩:=cell_of_blk (HM.out.rd.grown (r:=tokRow s L) hgrow (by simp [rowsOf]))
    unfold cellsOf at hr
    clear hc hf HI
    go_wp2
    go_end0
    refine ⟨rfl, { L with ta:=some ⟨g,0,none⟩,tc:=cap },(HM.out.grow (s' := { s with token:=s.token ++ Mk.encode c }) (L' := { L with ta:=some ⟨g,0,none⟩,tc:=cap }) (r:=tokRow s L) (rs:=opnRow s L :: attRow s L :: lstRow s L :: txtRow s L :: bndRow s L :: cntRow s L :: L.es.map evRow) 9 _ (perm2 _ _ _) (perm2 _ _ _) ?_ hgrow ?_ ?_ HM.out.rd.evs).store 10 _ _ rfl rfl rfl⟩
    · have e1:(s.token ++ Mk.encode c).length=s.token.length + (Mk.encodeI c).length:=by rw [List.length_append,he.2.2]
      show World.ownsRow _ _ _ _ _ _ _
      simp only [tokRow,List.map_append]
      rw [e1]
      exact hown
    · rcases hat with e | e
      · exact .inl e.symm
      · exact .inr (by rw [e];simp [tokRow,Value.ownBlock])
    · simp [cellsOf,he.2.2]
theorem put_any {w:World} {b:Nat} {s:St} {L:Lay} (h:RdL w b s L) (c:Int) (h0:0≤c) (h1:c≤1114111) (hx:s.text.length≤1000000000000) (ht:s.token.length≤1000000000000) (c0:0≤s.count) (c1:s.count≤1000000000000) :
    Calls Tryz.prog 111 #[.pointer (some ⟨b,0,none⟩),.int .i64 c] w fun e w' => e = .returned (.tuple #[])∧∃ L', Mv w b (foot s L) w' (Mk.put s c) L' := by
  cases hi:Mk.inText s
  · have:=put_token h c h0 h1 hi ht c0 c1
    simpa [Mk.put,hi] using this
  · have:=put_text h c h0 h1 hi hx
    simpa [Mk.put,hi] using this
end Go.Proofs.YtmgfijllcdadgabGreatDoor

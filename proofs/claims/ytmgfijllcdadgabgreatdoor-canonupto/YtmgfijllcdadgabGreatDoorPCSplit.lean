/- Split, Tabs, Way1, Way2, Way3, RestM -/
import Derived.Test.YtmgfijllcdadgabGreatDoorPM29
import Derived.Test.YtmgfijllcdadgabGreatDoorPM30
import Derived.Test.YtmgfijllcdadgabGreatDoorCards
import Derived.Test.YtmgfijllcdadgabGreatDoorTie
import Derived.WalkKit
import Derived.ProofKit
import Derived.OpenShut
import Derived.Deep.DeepHandedRow
import Derived.Lib.LaidTab
import Derived.Stop.LaidErr
import Derived.Test.YtmgfijllcdadgabGreatDoorPM19
import Derived.Test.YtmgfijllcdadgabGreatDoorPM00
set_option linter.unusedVariables false
set_option linter.unusedSimpArgs false
namespace Go.Proofs.YtmgfijllcdadgabGreatDoor
open Go.RowKit
open Mk (St Bs Ev Att)
open Go.ChangeShapes Go.WideShapes Go.ChangeAt Go.RowKit
theorem cells_of_strs {H:Type} {enc:TypeId × Value→H} {P:Program} {w:World} {base:Nat} {sp:Nat→Bool} {held:Bool} {fuel:Nat} {t e:TypeId} {n:Nat} {cs:List Value} {zs:List Bs} {p:List MemPlace}
    (ht:P.underlying t=some (.array n e)) (he:P.underlying e=some .string) (hce:P.cellsOf e=1) (hct:P.cellsOf t=n)
    (h:DataW.trod enc P w base sp held fuel t cs=some (.agg (zs.map fun z => .lit (.string z)),p)):cs=zs.map fun z=>Value.string ⟨z.toArray⟩:=by
  cases fuel with
  | zero=>simp [DataW.trod] at h
  | succ fuel =>
    simp only [DataW.trod,ht,hce,hct,Nat.mul_one] at h
    split at h
    · rename_i hl
      obtain ⟨xs,hm,hx⟩:=Option.map_eq_some_iff.1 h
      have hxs:xs.map (·.1)=zs.map fun z=>(DataW.lit (.string z):DataW H):=by
        have:=congrArg Prod.fst hx
        simpa using this
      have hxl:xs.length=n:=by simpa using Lib.mapM_length hm
      have hzl:zs.length=n:=by
        have:=congrArg List.length hxs
        simp at this
        omega
      apply List.ext_getElem?
      intro i
      by_cases hi:i<n
      · obtain ⟨b,hb,hf⟩:=Lib.mapM_at hm i i (by simp [hi])
        obtain ⟨z,hc,rfl,_⟩:=DataW.trod_string he hf
        have h1:cs[i]? = some (.string z):=by
          have:=congrArg (·[0]?) hc
          simpa [List.getElem?_take,List.getElem?_drop] using this
        have h2:(xs.map (·.1))[i]? = some (DataW.lit (.string z.data.toList):DataW H):=by simp [hb]
        rw [hxs] at h2
        simp only [List.getElem?_map,Option.map_eq_some_iff,DataW.lit.injEq,Lit.string.injEq] at h2
        obtain ⟨z', hz', rfl⟩:=h2
        simp [h1,hz']
      · rw [List.getElem?_eq_none (by omega),List.getElem?_eq_none (by simp;omega)]
    · cases h
theorem gNames : Tryz.prog.globalNamed "markup/refs.names" = some 5 := by kernel_rfl
theorem gNamed : Tryz.prog.globalNamed "markup/refs.named" = some 6 := by kernel_rfl
theorem tNames:(Tryz.prog.globals[5]?).map (·.type)=some 151:=by kernel_rfl
theorem tNamed:(Tryz.prog.globals[6]?).map (·.type)=some 156:=by kernel_rfl
theorem cNames:Tryz.prog.cellsOf 151=5:=by kernel_rfl
theorem cNamed:Tryz.prog.cellsOf 156=5:=by kernel_rfl
theorem cStr:Tryz.prog.cellsOf 9=1:=by kernel_rfl
theorem cInt:Tryz.prog.cellsOf 3=1:=by kernel_rfl
theorem tables {W : World} (h : laidMetH Tryz.prog [("markup/refs.names", Rows.laid_markup_refs_names), ("markup/refs.named", Rows.laid_markup_refs_named)] W) : Gl W ∧ 6 < W.heap.size := by
  have h0 : laidMet Tryz.prog [("markup/refs.names", Rows.laid_markup_refs_names), ("markup/refs.named", Rows.laid_markup_refs_named)] W := h
  have h2 : Lib.TabIs Tryz.prog W "markup/refs.named" .i64 [60, 62, 38, 34, 39] := Lib.tabIs_of_head (rest := []) gNamed tNamed Tryz.underlying156 Tryz.underlying3 cInt cNamed h0.tail
  have h1 : W.var? Tryz.prog "markup/refs.names" = some (([[108, 116, 59], [103, 116, 59], [97, 109, 112, 59], [113, 117, 111, 116, 59], [97, 112, 111, 115, 59]] : List Bs).map fun z => Value.string ⟨z.toArray⟩).toArray := by
    obtain ⟨ps,⟨g', t', cs,fuel,p,q,hg', ht', hvar,hd,_,_⟩,_⟩:=h0
    obtain rfl:=Option.some.inj (gNames.symm.trans hg')
    obtain rfl:=Option.some.inj (tNames.symm.trans ht')
    rw [hvar, ← cells_of_strs (zs:=[[108,116,59],[103,116,59],[97,109,112,59],[113,117,111,116,59],[97,112,111,115,59]]) Tryz.underlying151 Tryz.underlying9 cStr cNames hd]
  refine ⟨⟨fun i => ?_,fun i => ?_⟩,?_⟩
  · rw [World.var?_cell gNames h1 i]
    simp [Mk.refNames]
  · rw [World.var?_cell gNamed h2 i]
    simp [Mk.refNames]
  · have:=h2
    unfold Lib.TabIs World.var? at this
    rw [gNamed] at this
    simp only [Option.bind_some] at this
    cases hh:W.heap[6]? with
    | none=>rw [hh] at this;cases this
    | some o=>exact (Array.getElem?_eq_some_iff.1 hh).1
theorem cell_lt {W:World} {g o:Nat} {x:Value} (h:W.cell? ⟨g,o,none⟩=some x):g<W.heap.size:=by
  unfold World.cell? at h
  cases hh:W.heap[g]? with
  | none=>simp [hh] at h
  | some o=>exact (Array.getElem?_eq_some_iff.1 hh).1
set_option maxRecDepth 100000 in
theorem open_cuts {H:Type} {enc:TypeId × Value→H} {W:World} {b0:Nat} {v:Value} {d:DataW H} {p:List MemPlace} (hv:Value.okWide Tryz.prog W .any b0 28 v) (h:DataW.Trod enc Tryz.prog W 0 (fun _=>true) true 28 v d p) :
    ∃ (ca:Option Addr) (cuts:List Int) (cc:Nat),v = .slice ca cuts.length cc∧(∀ j (hj:j<cuts.length), ∃ cg co,ca=some ⟨cg,co,none⟩∧cg<W.heap.size∧W.cell? ⟨cg,co + j,none⟩=some (.int .i64 cuts[j]))∧(∀ c ∈ cuts,I64 c)∧cuts.length≤Rows.uptoBulk d ∧
      ∀ W', Below W.heap.size W W' → ∀ sp:Nat→Bool,(∀ q ∈ p,sp q.block=true)→DataW.Trod enc Tryz.prog W' 0 sp true 28 v d p:=by
  obtain ⟨a0,len,cap,rfl⟩:=okWide_slice Tryz.underlying28 hv
  obtain ⟨fuel,hf⟩:=h
  rcases open_ints Tryz.underlying28 Tryz.underlying3 cInt hf with ⟨hcs,hx⟩ | ⟨a,len', cap', zs,hcs,_,hle,hmax,hlen,hx,hcell,hwf⟩
  · simp [Value.cells] at hcs
    obtain ⟨rfl,rfl,rfl⟩:=hcs
    cases hx
    exact ⟨none,[],0,rfl,fun j hj=>(by cases hj),fun c hc=>(by cases hc),by simp,fun W' _ sp _=>⟨1,by simp [DataW.trod,Value.cells,Tryz.underlying28]⟩⟩
  · simp [Value.cells] at hcs
    obtain ⟨rfl,rfl,rfl⟩:=hcs
    cases hx
    simp at hlen
    have hl:(zs.take len).length=len:=by simp;omega
    refine ⟨some a,zs.take len,cap,by rw [hl],?_,?_,?_,?_⟩
    · intro j hj
      rw [hl] at hj
      obtain ⟨b,off,rfl,hc⟩:=ints_at hcell (by omega)
      have h1:=hc j (by omega)
      refine ⟨b,off,rfl,cell_lt h1,?_⟩
      rw [h1]
      have:j<zs.length:=by omega
      simp [this]
    · intro c hc
      exact bounds_i64 (hwf c (List.mem_of_mem_take hc))
    · rw [hl]
      have h1:∀ l:List (DataW H),l.length≤Rows.uptoBulkAll l:=by
        intro l
        induction l with
        | nil=>simp [Rows.uptoBulkAll]
        | cons x r ih =>
          have:1≤Rows.uptoBulk x:=by
            cases x with
            | lit l=>cases l <;> simp [Rows.uptoBulk]
            | nil=>simp [Rows.uptoBulk]
            | ptr d=>simp [Rows.uptoBulk]
            | slice elems spare=>simp [Rows.uptoBulk]
            | agg parts=>simp [Rows.uptoBulk]
            | iface t d=>simp [Rows.uptoBulk]
            | map entries=>simp [Rows.uptoBulk]
            | held h=>simp [Rows.uptoBulk]
          simp only [Rows.uptoBulkAll,List.length_cons]
          omega
      have h2:=h1 (lits .i64 (zs.take len))
      simp only [Rows.uptoBulk]
      have h3:(lits (H:=H) .i64 (zs.take len)).length=len:=by simp [lits];omega
      omega
    · intro W' hb sp hsp
      refine ⟨0 + 2,?_⟩
      show DataW.trod enc Tryz.prog W' 0 sp true (0 + 2) 28 [.slice (some a) len cap]=_
      refine shut_ints 0 Tryz.underlying28 Tryz.underlying3 cInt (Nat.zero_le _) hle hmax ?_ ?_ hwf
      · by_cases hz:zs.length=0
        · have:len=cap:=by omega
          simp [this,hlen]
        · have:sp a.block=true:=hsp (.cell a.block (a.off + 0)) (MemPlace.mem_row.2 ⟨0,by omega,rfl⟩)
          rw [this,hlen]
          rfl
      · intro i hi
        have h1:=hcell i hi
        obtain ⟨b,off,rfl,hc⟩:=ints_at hcell (by omega)
        rw [← h1]
        exact hb.cell (by rw [block_add];exact cell_lt (hc i hi))
def PtW (c l:Int):Prop:=(l=1∧2≤c∧(c<864∨895<c)∧c≤17407)∨(l=2∧0≤c∧c≤271)∨(l=3∧0≤c∧c≤4)
def refBegun:List Bs:=[[108],[108,116],[103],[103,116],[97],[97,109],[97,109,112],[113],[113,117],[113,117,111],[113,117,111,116],[97,112],[97,112,111],[97,112,111,115]]
def RfW (p:Int) (n:Bs) (c:Int):Prop:=
  (p=1∧n=[])∨(p=2∧n ∈ refBegun)∨((p=3∨p=4)∧c=0)∨((p=5∨p=6)∧0≤c∧c≤1114111)
def Okn (t:Int) (n:Bs):Prop:=(∀ x ∈ n,Mk.inName (x.toNat:Int)=true)∧(n.length:Int)≤t
structure W (s:St):Prop where
  st:0≤s.state∧s.state≤21
  o0:s.state=0→s.opn=[]
  o1:(s.state=1∨s.state=2∨s.state=6∨s.state=20∨s.state=21)→s.opn ≠ []
  ov:s.over=true→s.opn=[]∧¬ (12≤s.state∧s.state≤19)
  p0:0≤s.pl
  pl:0<s.pl→(s.state=1∨s.state=2∨s.state=7∨s.state=11∨s.state=17)∧s.held=[]∧PtW s.pc s.pl∧Mk.isOpen s.rp=false
  rf:Mk.isOpen s.rp=true→(s.state=1∨s.state=17)∧RfW s.rp s.rn s.rc
  hs:Hs s.state s.held
  m6:s.state=6→0≤s.matched∧s.matched<6
  m20:s.state=20→0≤s.matched∧s.matched≤(Mk.innermost s).length
  tk:s.state ≠ 7→s.state ≠ 8→s.state ≠ 11→s.state ≠ 12→s.state ≠ 14→s.state ≠ 17→s.token=[]∧s.count=0
  c8:(s.state=8∨s.state=12∨s.state=14)→s.count=s.token.length
  a14:s.state=14→(Mk.hasAttr s s.token=true→s.count + 1≤s.ot)∧s.attrs.length<s.oa
  q17:s.state=17→s.quote=34∨s.quote=39
  bd:1≤s.od∧8≤s.ot∧s.oa≤32
  at0:¬ (13≤s.state∧s.state≤19)→s.attrs=[]
  on1:∀ n ∈ s.opn,Okn s.ot n
  tk12:s.state=12→Okn s.ot s.token
  nm12:13≤s.state→s.state≤19→Okn s.ot s.name
  dp:(s.opn.length:Int)≤s.od
  dp12:12≤s.state→s.state≤19→(s.opn.length:Int)<s.od
  q0:0≤s.quote∧s.quote≤255
theorem tellEnd_core (s:St) (n:Bs):Mk.tellEnd s n={ s with list:=(Mk.tellEnd s n).list,text:=(Mk.tellEnd s n).text,bnd:=(Mk.tellEnd s n).bnd,cnt:=(Mk.tellEnd s n).cnt,over:=decide (s.opn.length=0),state:=if s.opn.length=0 then 0 else 1 }:=by
  have e0:=add_core s ⟨2,n,Mk.spaceOf s n,[],[]⟩
  have e3:=unbindAll_core (Mk.ofTag (Mk.add s ⟨2,n,Mk.spaceOf s n,[],[]⟩)).reverse (Mk.add s ⟨2,n,Mk.spaceOf s n,[],[]⟩)
  unfold Mk.tellEnd Mk.tellUnbinds Mk.resume
  rw [e3]
  rw [e0]
  rfl
theorem encode_one (b:Int) (h:b<128):Mk.encode b=[Mk.u8 b]:=by unfold Mk.encode Mk.encodeI;rw [if_pos h];rfl
theorem put_in {s:St} (h:Mk.inText s=true) (c:Int):Mk.put s c={ s with text:=s.text ++ Mk.encode c }:=by unfold Mk.put;rw [if_pos h]
theorem put_out {s:St} (h:Mk.inText s=false) (c:Int):Mk.put s c={ s with token:=s.token ++ Mk.encode c,count:=s.count + 1 }:=by unfold Mk.put;rw [h];rfl
theorem put_core (s:St) (c:Int):∃ x t n,Mk.put s c={ s with text:=x,token:=t,count:=n }∧((s.state=1∨s.state=2)→t=s.token∧n=s.count):=by
  cases h:Mk.inText s
  · refine ⟨s.text,_,_,put_out h c,fun h1 => ?_⟩
    exfalso;unfold Mk.inText at h;rcases h1 with h1 | h1 <;> simp [h1] at h
  · exact ⟨_,s.token,s.count,put_in h c,fun _=>⟨rfl,rfl⟩⟩
theorem putAll_core:∀ (l:Bs) (s:St), ∃ x t n,Mk.putAll s l={ s with text:=x,token:=t,count:=n }∧((s.state=1∨s.state=2)→t=s.token∧n=s.count)
  | [],s=>⟨s.text,s.token,s.count,rfl,fun _=>⟨rfl,rfl⟩⟩
  | y :: r,s=>by
    obtain ⟨x,t,n,h1,h2⟩:=put_core s y.toNat
    obtain ⟨x', t', n', h3,h4⟩:=putAll_core r (Mk.put s y.toNat)
    refine ⟨x', t', n', ?_,fun hs => ?_⟩
    · show Mk.putAll (Mk.put s y.toNat) r=_
      rw [h3,h1]
    · have:=h4 (by rw [h1];exact hs)
      rw [h1] at this
      exact ⟨this.1.trans (h2 hs).1,this.2.trans (h2 hs).2⟩
theorem w_goOn {s:St} (h:W { s with pl:=0,pc:=0 }) (hst:s.state=1∨s.state=2∨s.state=7∨s.state=11∨s.state=17) (hh:s.held=[]) (hr:Mk.isOpen s.rp=false) (p:Int × Int) (hp:p.2=0∨PtW p.1 p.2):W (Mk.goOn s p):=by
  have a:=h
  unfold Mk.goOn
  split
  · rename_i h0
    have h0:p.2=0:=by simpa using h0
    obtain ⟨x,t,n,h1,h2⟩:=put_core { s with pc:=p.1,pl:=p.2 } p.1
    rw [h1]
    exact { h with
      p0:=by show 0≤p.2;omega
      pl:=fun hh=>by exfalso;have:0<p.2:=hh;omega
      tk:=fun g1 g2 g3 g4 g5 g6=>by
        have g7:s.state=1∨s.state=2:=by have q1:s.state ≠ 7:=g1;have q2:s.state ≠ 11:=g3;have q3:s.state ≠ 17:=g6;omega
        have:=h2 g7
        have q:=h.tk g1 g2 g3 g4 g5 g6
        exact ⟨this.1.trans q.1,this.2.trans q.2⟩
      c8:=fun g=>by exfalso;have g:s.state=8∨s.state=12∨s.state=14:=g;omega
      a14:=fun g=>by exfalso;have g:s.state=14:=g;omega
      tk12:=fun g=>by exfalso;have g:s.state=12:=g;omega }
  · rename_i h0
    have h0:p.2 ≠ 0:=by simpa using h0
    have h1:PtW p.1 p.2:=by rcases hp with hp | hp;exact absurd hp h0;exact hp
    exact { h with
      p0:=by show 0≤p.2;unfold PtW at h1;omega
      pl:=fun _=>⟨hst,hh,h1,hr⟩ }
theorem begin_ptw {b:Int} {p:Int × Int} (h0:0≤b) (h:Mk.begin_ b=some p):p.2=0∨PtW p.1 p.2:=by
  unfold Mk.begin_ at h
  unfold PtW
  split at h
  · cases h;exact .inl rfl
  · split at h
    · cases h;exact .inr (.inl ⟨rfl,by dsimp only;omega⟩)
    · split at h
      · cases h;exact .inr (.inr (.inl ⟨rfl,by dsimp only;omega⟩))
      · split at h
        · cases h;exact .inr (.inr (.inr ⟨rfl,by dsimp only;omega⟩))
        · cases h
theorem nextPart_ptw {c l b:Int} {p:Int × Int} (hp:PtW c l) (h:Mk.nextPart c l b=some p):p.2=0∨PtW p.1 p.2:=by
  unfold Mk.nextPart at h
  split at h
  · cases h
  · split at h
    · rename_i h1 h2
      cases h
      unfold Mk.canEnd at h2
      unfold PtW at hp ⊢
      rcases hp with ⟨rfl,hp⟩ | ⟨rfl,hp⟩ | ⟨rfl,hp⟩
      · exact .inl rfl
      · simp at h2
        refine .inr (.inl ⟨by omega,by dsimp only;omega⟩)
      · simp at h2
        refine .inr (.inr (.inl ⟨by omega,by dsimp only;omega⟩))
    · cases h
theorem w_readCharacter {s:St} (h:W s) (hst:s.state=1∨s.state=2∨s.state=7∨s.state=11∨s.state=17) (hr:Mk.isOpen s.rp=false) (b:Int) (h0:0≤b) (he:(Mk.readCharacter s b).2=0):W (Mk.readCharacter s b).1:=by
  unfold Mk.readCharacter at he ⊢
  split at he
  · simp at he
  · rename_i p hp
    dsimp only
    split at he
    · rename_i hf
      rw [if_pos hf]
      obtain ⟨x,t,n,h1,h2⟩:=putAll_core s.held s
      have h3:=begin_ptw h0 hp
      dsimp only
      rw [h1]
      refine w_goOn (s:={ s with text:=x,token:=t,count:=n,held:=[] }) ?_ hst rfl hr p h3
      exact { h with
        p0:=Int.le_refl _
        pl:=fun g=>absurd (show (0:Int)<0 from g) (by decide)
        hs:=.inl rfl
        tk:=fun g1 g2 g3 g4 g5 g6=>by
          have g7:s.state=1∨s.state=2:=by have q1:s.state ≠ 7:=g1;have q2:s.state ≠ 11:=g3;have q3:s.state ≠ 17:=g6;omega
          have:=h2 g7
          have q:=h.tk g1 g2 g3 g4 g5 g6
          exact ⟨this.1.trans q.1,this.2.trans q.2⟩
        c8:=fun g=>by exfalso;have g:s.state=8∨s.state=12∨s.state=14:=g;omega
        a14:=fun g=>by exfalso;have g:s.state=14:=g;omega
        tk12:=fun g=>by exfalso;have g:s.state=12:=g;omega }
    · simp at he
theorem w_readPart {s:St} (h:W s) (hl:0<s.pl) (b:Int) (he:(Mk.readPart s b).2=0):W (Mk.readPart s b).1:=by
  obtain ⟨g1,g2,g3,g4⟩:=h.pl hl
  unfold Mk.readPart at he ⊢
  split at he
  · simp at he
  · rename_i p hp
    dsimp only
    refine w_goOn ?_ g1 g2 g4 p (nextPart_ptw g3 hp)
    exact { h with p0:=Int.le_refl _,pl:=fun g=>absurd (show (0:Int)<0 from g) (by decide) }
theorem letter_w {n:Bs} {b:Int} {r:Mk.Rf} (hn:n=[]∨n ∈ refBegun) (h:Mk.letter n b=some r) (ho:Mk.isOpen r.place=true):RfW r.place r.name r.code:=by
  unfold Mk.letter at h
  have key:∀ (l:List (Bs × Int)) (m:Bs),(∀ q ∈ l,m.isPrefixOf q.1=true→m ≠ q.1→m ≠ []→m ∈ refBegun)→m ≠ []→∀ r,Mk.letterIn m l=some r→Mk.isOpen r.place=true→RfW r.place r.name r.code:=by
    intro l m
    induction l with
    | nil=>intro _ _ r h;cases h
    | cons q t ih =>
      intro hq hm r h ho
      obtain ⟨q1,q2⟩:=q
      unfold Mk.letterIn at h
      split at h
      · cases h;exact absurd (show Mk.isOpen 7=true from ho) (by decide)
      · split at h
        · rename_i h1 h2
          cases h
          exact .inr (.inl ⟨rfl,hq _ List.mem_cons_self h2 (fun e=>h1 e.symm) hm⟩)
        · exact ih (fun q hq' => hq q (List.mem_cons_of_mem _ hq')) hm r h ho
  refine key _ _ ?_ (by simp) r h ho
  intro q hq hpre hne hnil
  have key2:∀ q ∈ Mk.refNames, ∀ k<6,q.1.take k ≠ q.1→q.1.take k ≠ []→q.1.take k ∈ refBegun:=by decide
  have hlen:∀ q ∈ Mk.refNames,q.1.length<6:=by decide
  have h1:=List.prefix_iff_eq_take.1 (List.isPrefixOf_iff_prefix.1 hpre)
  have h2:=(List.isPrefixOf_iff_prefix.1 hpre).length_le
  have h3:=hlen q hq
  rw [h1]
  exact key2 q hq _ (by omega) (by rw [← h1];exact hne) (by rw [← h1];exact hnil)
theorem refNext_w {p:Int} {n:Bs} {c b:Int} {r:Mk.Rf} (h0:0≤b) (hw:RfW p n c) (h:Mk.refNext ⟨p,n,c⟩ b=some r) (ho:Mk.isOpen r.place=true):RfW r.place r.name r.code:=by
  have hdv:∀ (base v:Int),0<base→Mk.digit b base=some v→0≤v:=by
    intro base v hb hd
    unfold Mk.digit at hd
    split at hd
    · cases hd
    · cases hd
      unfold Mk.digitVal Mk.isDigit
      repeat' split
      all_goals simp_all
      all_goals omega
  have hdig:∀ (base pl:Int),(pl=5∨pl=6)→0<base→0≤c→∀ r,Mk.refDigit c b base pl=some r→RfW r.place r.name r.code:=by
    intro base pl hpl hb hc r h
    unfold Mk.refDigit at h
    split at h
    · cases h
    · rename_i v hv
      split at h
      · cases h
      · cases h
        have:=hdv base v hb hv
        have h2:0≤c * base:=Int.mul_nonneg hc (by omega)
        exact .inr (.inr (.inr ⟨hpl,by dsimp only;omega,by dsimp only;omega⟩))
  have hend:∀ (base pl:Int),(pl=5∨pl=6)→0<base→0≤c→∀ r,Mk.digitOrEnd c b base pl=some r→Mk.isOpen r.place=true→RfW r.place r.name r.code:=by
    intro base pl hpl hb hc r h ho
    unfold Mk.digitOrEnd at h
    split at h
    · split at h
      · cases h;exact absurd (show Mk.isOpen 7=true from ho) (by decide)
      · cases h
    · exact hdig base pl hpl hb hc r h
  unfold Mk.refNext at h
  dsimp only at h
  rcases hw with ⟨rfl,rfl⟩ | ⟨rfl,hn⟩ | ⟨rfl | rfl,rfl⟩ | ⟨rfl | rfl,hc⟩
  · simp at h
    split at h
    · cases h;exact .inr (.inr (.inl ⟨.inl rfl,rfl⟩))
    · exact letter_w (.inl rfl) h ho
  · simp at h
    exact letter_w (.inr hn) h ho
  · simp at h
    split at h
    · cases h;exact .inr (.inr (.inl ⟨.inr rfl,rfl⟩))
    · exact hdig 10 5 (.inl rfl) (by decide) (by decide) r h
  · simp at h
    exact hdig 16 6 (.inr rfl) (by decide) (by decide) r h
  · simp at h
    exact hend 10 5 (.inl rfl) (by decide) hc.1 r h ho
  · simp at h
    exact hend 16 6 (.inr rfl) (by decide) hc.1 r h ho
theorem w_readReference {s:St} (h:W s) (ho:Mk.isOpen s.rp=true) (hpl:s.pl=0) (b:Int) (h0:0≤b) (he:(Mk.readReference s b).2=0):W (Mk.readReference s b).1:=by
  obtain ⟨g1,g2⟩:=h.rf ho
  unfold Mk.readReference at he ⊢
  split at he
  · simp at he
  · rename_i r hr
    split
    · rename_i hop
      exact { h with
        pl:=fun g=>by have g:0<s.pl:=g;omega
        rf:=fun _=>⟨g1,refNext_w h0 g2 hr hop⟩ }
    · rename_i hop
      obtain ⟨x,t,n,h1,h2⟩:=put_core (Mk.setRef s r) r.code
      dsimp only
      rw [h1]
      exact { h with
        pl:=fun g=>by have g:0<s.pl:=g;omega
        rf:=fun g=>absurd g hop
        tk:=fun q1 q2 q3 q4 q5 q6=>by
          have q7:s.state=1:=by have q6:s.state ≠ 17:=q6;omega
          have:=h2 (.inl q7)
          have q:=h.tk q1 q2 q3 q4 q5 q6
          exact ⟨this.1.trans q.1,this.2.trans q.2⟩
        c8:=fun g=>by exfalso;have g:s.state=8∨s.state=12∨s.state=14:=g;omega
        a14:=fun g=>by exfalso;have g:s.state=14:=g;omega
        tk12:=fun g=>by exfalso;have g:s.state=12:=g;omega }
structure Wq (s:St):Prop extends W s where
  q:s.pl=0
  r:Mk.isOpen s.rp=false
theorem w_to {s:St} (h:Wq s) (hh:s.held=[]) (ht:s.token=[]∧s.count=0) (ha:s.attrs=[]) (st:Int) (h1:0≤st∧st≤21) (h2:st=0→s.opn=[]) (h3:(st=1∨st=2∨st=6∨st=20∨st=21)→s.opn ≠ [])
    (h4:s.over=true→s.opn=[]) (m:Int) (h6:st=6→0≤m∧m<6) (h20:st=20→0≤m∧m≤(Mk.innermost s).length) (hst:¬ (12≤st∧st≤19)):Wq { s with state:=st,matched:=m }:=
  { h with
    st:=h1
    o0:=h2
    o1:=h3
    ov:=fun g=>⟨h4 g,hst⟩
    pl:=fun g=>by have g:0<s.pl:=g;have:=h.q;omega
    rf:=fun g=>absurd (h.r.symm.trans g) (by decide)
    hs:=.inl hh
    m6:=h6
    m20:=h20
    tk:=fun _ _ _ _ _ _=>ht
    c8:=fun _=>by show s.count=s.token.length;rw [ht.1,ht.2];rfl
    a14:=fun g=>by exfalso;have g:st=14:=g;omega
    q17:=fun g=>by exfalso;have g:st=17:=g;omega
    at0:=fun _=>ha
    tk12:=fun g=>by exfalso;have g:st=12:=g;omega
    nm12:=fun g1 g2=>by exfalso;have g1:13≤st:=g1;have g2:st≤19:=g2;omega
    dp12:=fun g1 g2=>by exfalso;have g1:12≤st:=g1;have g2:st≤19:=g2;omega }
theorem Wq.told {s:St} (h:Wq s) (l:List Ev) (x:Bs):Wq { s with list:=l,text:=x }:={ h with }
theorem w_resume {s:St} (h:Wq s) (hh:s.held=[]) (ht:s.token=[]∧s.count=0) (ha:s.attrs=[]) (h4:s.over=true→s.opn=[]):Wq (Mk.resume s):=by
  have h0:(s.opn.length=0) ↔ s.opn=[]:=List.length_eq_zero_iff
  unfold Mk.resume
  refine w_to h hh ht ha _ (by split <;> omega) (fun g => ?_) (fun g => ?_) h4 s.matched (fun g => ?_) (fun g => ?_) ?_
  all_goals split at * <;> first | omega | simp_all
theorem w_add {s:St} (h:Wq s) (e:Ev):Wq (Mk.add s e):=by rw [add_core];exact h.told _ _
theorem add_facts (s:St) (e:Ev):(Mk.add s e).held=s.held∧(Mk.add s e).token=s.token∧(Mk.add s e).count=s.count∧(Mk.add s e).attrs=s.attrs∧(Mk.add s e).over=s.over∧(Mk.add s e).opn=s.opn∧(Mk.add s e).state=s.state:=by
  rw [add_core];exact ⟨rfl,rfl,rfl,rfl,rfl,rfl,rfl⟩
theorem w_drop {s:St} (h:Wq s) (hh:s.held=[]) (hst:s.state ≠ 14):Wq (Mk.dropToken s):=
  { h with
    tk:=fun _ _ _ _ _ _=>⟨rfl,rfl⟩
    c8:=fun _=>rfl
    a14:=fun g=>absurd g hst
    tk12:=fun _=>⟨fun x hx=>(by cases hx),by show (0:Int)≤s.ot;have:=h.bd;omega⟩ }
theorem w_held {s:St} (h:Wq s) (hd:Bs) (hs:Hs s.state hd):Wq { s with held:=hd }:={ h with hs:=hs,pl:=fun g=>by have g:0<s.pl:=g;have:=h.q;omega }
theorem w_endComment {s:St} (h:Wq s) (hst:s.state=7):Wq (Mk.endComment s):=by
  have h1:Wq (Mk.dropToken { s with held:=[] }):=w_drop (w_held h [] (.inl rfl)) rfl (by show s.state ≠ 14;omega)
  have h2:=w_add h1 ⟨4,[],[],s.token,[]⟩
  have f:=add_facts (Mk.dropToken { s with held:=[] }) ⟨4,[],[],s.token,[]⟩
  have ha:s.attrs=[]:=h.at0 (by omega)
  exact w_resume h2 (f.1) ⟨f.2.1,f.2.2.1⟩ (f.2.2.2.1.trans ha) (fun g=>by rw [f.2.2.2.2.2.1];rw [f.2.2.2.2.1] at g;exact (h.ov g).1)
theorem w_name {s:St} (h:Wq s) (n:Bs) (hn:13≤s.state→s.state≤19→Okn s.ot n):Wq { s with name:=n }:={ h with nm12:=hn }
theorem okn_nil {t:Int} (h:8≤t):Okn t []:=⟨fun x hx=>(by cases hx),by simp;omega⟩
theorem w_endInstruction {s:St} (h:Wq s) (hst:s.state=9∨s.state=11):Wq (Mk.endInstruction s):=by
  have h1:Wq (Mk.dropToken { s with held:=[] }):=w_drop (w_held h [] (.inl rfl)) rfl (by show s.state ≠ 14;omega)
  have h2:=w_add h1 ⟨5,s.name,[],s.token,[]⟩
  have f:=add_facts (Mk.dropToken { s with held:=[] }) ⟨5,s.name,[],s.token,[]⟩
  have ha:s.attrs=[]:=h.at0 (by omega)
  exact w_resume (w_name h2 [] fun _ _=>okn_nil h2.bd.2.1) (f.1) ⟨f.2.1,f.2.2.1⟩ (f.2.2.2.1.trans ha) (fun g=>by show (Mk.add (Mk.dropToken { s with held:=[] }) ⟨5,s.name,[],s.token,[]⟩).opn=[];rw [f.2.2.2.2.2.1];have g:(Mk.add (Mk.dropToken { s with held:=[] }) ⟨5,s.name,[],s.token,[]⟩).over=true:=g;rw [f.2.2.2.2.1] at g;exact (h.ov g).1)
theorem w_readComment {s:St} (h:Wq s) (hst:s.state=7) (b:Int) (h0:0≤b) (he:(Mk.readComment s b).2=0):W (Mk.readComment s b).1:=by
  unfold Mk.readComment at he ⊢
  split at he
  · rename_i g;rw [if_pos g];exact (w_endComment h hst).toW
  · rename_i g;rw [if_neg g]
    split at he
    · simp at he
    · rename_i g2;rw [if_neg g2]
      split at he
      · rename_i g3;rw [if_pos g3]
        refine (w_held h _ ?_).toW
        rcases h.hs with e | ⟨_,e | e⟩ | ⟨e,_⟩ | ⟨e,_⟩
        · rw [e];exact .inr (.inl ⟨hst,.inl rfl⟩)
        · rw [e];exact .inr (.inl ⟨hst,.inr rfl⟩)
        · exact absurd e g2
        · omega
        · omega
      · rename_i g3;rw [if_neg g3]
        exact w_readCharacter h.toW (by omega) h.r b h0 he
theorem w_readSection {s:St} (h:Wq s) (hst:s.state=2) (b:Int) (h0:0≤b) (he:(Mk.readSection s b).2=0):W (Mk.readSection s b).1:=by
  have hin:Mk.inText s=true:=by unfold Mk.inText;simp [hst]
  unfold Mk.readSection at he ⊢
  split at he
  · rename_i g;rw [if_pos g]
    have ho:=h.o1 (by omega)
    exact (w_to (w_held h [] (.inl rfl)) rfl (h.tk (by omega) (by omega) (by omega) (by omega) (by omega) (by omega)) (h.at0 (by omega)) 1 (by omega) (by omega) (fun _=>ho) (fun g=>(h.ov g).1) s.matched (by omega) (by omega) (by omega)).toW
  · rename_i g;rw [if_neg g]
    split at he
    · rename_i g2;rw [if_pos g2,put_in hin];exact { h with }
    · rename_i g2;rw [if_neg g2]
      split at he
      · rename_i g3;rw [if_pos g3]
        refine (w_held h _ ?_).toW
        rcases h.hs with e | ⟨e,_⟩ | ⟨_,e | e⟩ | ⟨e,_⟩
        · rw [e];exact .inr (.inr (.inl ⟨hst,.inl rfl⟩))
        · omega
        · rw [e];exact .inr (.inr (.inl ⟨hst,.inr rfl⟩))
        · exact absurd ⟨g3,e⟩ g2
        · omega
      · rename_i g3;rw [if_neg g3]
        exact w_readCharacter h.toW (by omega) h.r b h0 he
theorem w_readInstruction {s:St} (h:Wq s) (hst:s.state=11) (b:Int) (h0:0≤b) (he:(Mk.readInstruction s b).2=0):W (Mk.readInstruction s b).1:=by
  have hin:Mk.inText s=false:=by unfold Mk.inText;simp [hst]
  unfold Mk.readInstruction at he ⊢
  split at he
  · rename_i g;rw [if_pos g];exact (w_endInstruction h (by omega)).toW
  · rename_i g;rw [if_neg g]
    split at he
    · rename_i g2;rw [if_pos g2]
      split at he
      · rename_i g3;rw [if_pos g3,put_out hin]
        exact { h with
          tk:=fun q1 q2 q3 q4 q5 q6=>absurd hst q3
          c8:=fun g=>by exfalso;have g:s.state=8∨s.state=12∨s.state=14:=g;omega
          a14:=fun g=>by exfalso;have g:s.state=14:=g;omega
          tk12:=fun g=>by exfalso;have g:s.state=12:=g;omega }
      · simp at he
    · rename_i g2;rw [if_neg g2]
      split at he
      · rename_i g3;rw [if_pos g3]
        exact (w_held h _ (.inr (.inr (.inr ⟨hst,rfl⟩)))).toW
      · rename_i g3;rw [if_neg g3]
        exact w_readCharacter h.toW (by omega) h.r b h0 he
theorem inName_lt {b:Int} (h:Mk.inName b=true):0≤b∧b<128:=by
  unfold Mk.inName Mk.beginsName Mk.isLetter Mk.isDigit at h
  simp at h
  omega
theorem beginsName_lt {b:Int} (h:Mk.beginsName b=true):0≤b∧b<128:=inName_lt (by unfold Mk.inName;rw [h];rfl)
theorem w_readInstructionName {s:St} (h:Wq s) (hst:s.state=8) (b:Int) (he:(Mk.readInstructionName s b).2=0):W (Mk.readInstructionName s b).1:=by
  have hin:Mk.inText s=false:=by unfold Mk.inText;simp [hst]
  have hh:s.held=[]:=h.hs.none (by omega) (by omega) (by omega)
  unfold Mk.readInstructionName at he ⊢
  split at he
  · simp at he
  · rename_i g;rw [if_neg g]
    split at he
    · rename_i g2;rw [if_pos g2]
      unfold Mk.lengthenName at he ⊢
      split at he
      · rename_i g3;rw [if_pos g3,put_out hin,encode_one b (inName_lt g2).2]
        exact { h with
          tk:=fun q1 q2 q3 q4 q5 q6=>absurd hst q2
          c8:=fun _=>by have:=h.c8 (.inl hst);show s.count + 1=((s.token ++ [_]).length:Int);simp;omega
          a14:=fun g=>by exfalso;have g:s.state=14:=g;omega
          tk12:=fun g=>by exfalso;have g:s.state=12:=g;omega }
      · simp at he
    · rename_i g2;rw [if_neg g2]
      split at he
      · simp at he
      · rename_i g3;rw [if_neg g3]
        split at he
        · simp at he
        · rename_i g4;rw [if_neg g4]
          have h1:=w_name (w_drop h hh (by omega)) s.token (fun g1 g2=>by exfalso;have g1:13≤s.state:=g1;omega)
          exact (w_to h1 hh ⟨rfl,rfl⟩ (h.at0 (by omega)) _ (by split <;> omega) (by split <;> omega) (by split <;> omega) (fun g=>(h.ov g).1) s.matched (by split <;> omega) (by split <;> omega) (by split <;> omega)).toW
theorem w_readInstructionSpace {s:St} (h:Wq s) (hst:s.state=10) (b:Int) (h0:0≤b) (he:(Mk.readInstructionSpace s b).2=0):W (Mk.readInstructionSpace s b).1:=by
  have hh:s.held=[]:=h.hs.none (by omega) (by omega) (by omega)
  unfold Mk.readInstructionSpace at he ⊢
  split at he
  · rename_i g;rw [if_pos g];exact h.toW
  · rename_i g;rw [if_neg g]
    refine w_readInstruction ?_ rfl b h0 he
    exact w_to h hh (h.tk (by omega) (by omega) (by omega) (by omega) (by omega) (by omega)) (h.at0 (by omega)) 11 (by omega) (by omega) (by omega) (fun g=>(h.ov g).1) s.matched (by omega) (by omega) (by omega)
theorem w_readOutside {s:St} (h:Wq s) (hst:s.state=0) (b:Int) (he:(Mk.readOutside s b).2=0):W (Mk.readOutside s b).1:=by
  have hh:s.held=[]:=h.hs.none (by omega) (by omega) (by omega)
  unfold Mk.readOutside at he ⊢
  split at he
  · rename_i g;rw [if_pos g];exact h.toW
  · rename_i g;rw [if_neg g]
    split at he
    · rename_i g2;rw [if_pos g2]
      exact (w_to h hh (h.tk (by omega) (by omega) (by omega) (by omega) (by omega) (by omega)) (h.at0 (by omega)) 3 (by omega) (by omega) (by omega) (fun g=>(h.ov g).1) s.matched (by omega) (by omega) (by omega)).toW
    · simp at he
theorem w_brackets {s:St} (h:Wq s) (n:Int):Wq { s with brackets:=n }:={ h with }
theorem w_readContent {s:St} (h:Wq s) (hst:s.state=1) (b:Int) (h0:0≤b) (he:(Mk.readContent s b).2=0):W (Mk.readContent s b).1:=by
  have hh:s.held=[]:=h.hs.none (by omega) (by omega) (by omega)
  have ht:=h.tk (by omega) (by omega) (by omega) (by omega) (by omega) (by omega)
  unfold Mk.readContent at he ⊢
  split at he
  · rename_i g;rw [if_pos g]
    exact (w_to (w_brackets h 0) hh ht (h.at0 (by omega)) 3 (by omega) (by omega) (by omega) (fun g=>(h.ov g).1) s.matched (by omega) (by omega) (by omega)).toW
  · rename_i g;rw [if_neg g]
    split at he
    · rename_i g2;rw [if_pos g2]
      exact { w_brackets h 0 with
        rf:=fun _=>⟨.inl hst,.inl ⟨rfl,rfl⟩⟩
        pl:=fun g=>by have g:0<s.pl:=g;have:=h.q;omega }
    · rename_i g2;rw [if_neg g2]
      split at he
      · rename_i g3;rw [if_pos g3]
        split at he
        · simp at he
        · rename_i g4;rw [if_neg g4]
          exact w_readCharacter (w_brackets h 0).toW (.inl hst) h.r b h0 he
      · rename_i g3;rw [if_neg g3]
        split at he
        · rename_i g4;rw [if_pos g4]
          exact w_readCharacter (w_brackets h (if s.brackets == 0 then 1 else 2)).toW (.inl hst) h.r b h0 he
        · rename_i g4;rw [if_neg g4]
          exact w_readCharacter (w_brackets h 0).toW (.inl hst) h.r b h0 he
theorem u8_nat {b:Int} (h0:0≤b) (h1:b≤255):((Mk.u8 b).toNat:Int)=b:=by
  unfold Mk.u8
  rw [UInt8.toNat_ofNat']
  omega
theorem okn_one {t b:Int} (ht:8≤t) (h:Mk.inName b=true):Okn t ([] ++ [Mk.u8 b]):=by
  have:=inName_lt h
  refine ⟨fun x hx => ?_,by simp;omega⟩
  simp at hx
  subst hx
  rw [u8_nat this.1 (by omega)]
  exact h
theorem okn_snoc {t b:Int} {n:Bs} (hn:Okn t n) (hl:(n.length:Int) + 1≤t) (h:Mk.inName b=true):Okn t (n ++ [Mk.u8 b]):=by
  refine ⟨fun x hx => ?_,by simp;omega⟩
  rcases List.mem_append.1 hx with hx | hx
  · exact hn.1 x hx
  · have:=inName_lt h
    simp at hx
    subst hx
    rw [u8_nat this.1 (by omega)]
    exact h
theorem beginsName_in {b:Int} (h:Mk.beginsName b=true):Mk.inName b=true:=by unfold Mk.inName;rw [h];rfl
theorem w_readLess {s:St} (h:Wq s) (hst:s.state=3) (b:Int) (he:(Mk.readLess s b).2=0):W (Mk.readLess s b).1:=by
  have hh:s.held=[]:=h.hs.none (by omega) (by omega) (by omega)
  have ht:=h.tk (by omega) (by omega) (by omega) (by omega) (by omega) (by omega)
  have ha:=h.at0 (by omega)
  have hv:s.over=true→s.opn=[]:=fun g=>(h.ov g).1
  unfold Mk.readLess at he ⊢
  split at he
  · rename_i g;rw [if_pos g]
    exact (w_to h hh ht ha 4 (by omega) (by omega) (by omega) hv s.matched (by omega) (by omega) (by omega)).toW
  · rename_i g;rw [if_neg g]
    split at he
    · rename_i g2;rw [if_pos g2]
      exact (w_to h hh ht ha 8 (by omega) (by omega) (by omega) hv s.matched (by omega) (by omega) (by omega)).toW
    · rename_i g2;rw [if_neg g2]
      split at he
      · rename_i g3;rw [if_pos g3]
        have ho:s.opn ≠ []:=fun e=>by rw [e] at g3;simp at g3
        exact (w_to h hh ht ha 20 (by omega) (by omega) (fun _=>ho) hv 0 (by omega) (fun _=>⟨by omega,by omega⟩) (by omega)).toW
      · rename_i g3;rw [if_neg g3]
        split at he
        · rename_i g4;rw [if_pos g4]
          have g4:Mk.beginsName b=true∧s.over=false:=by simpa using g4
          unfold Mk.beginStart at he ⊢
          split at he
          · simp at he
          · rename_i g5;rw [if_neg g5]
            have hin:Mk.inText { s with state:=12 }=false:=rfl
            rw [put_out hin,encode_one b (beginsName_lt g4.1).2]
            exact { h with
              st:=⟨by dsimp only;omega,by dsimp only;omega⟩
              o0:=fun g=>by exfalso;have g:(12:Int)=0:=g;omega
              o1:=fun g=>by exfalso;have g:(12:Int)=1∨(12:Int)=2∨(12:Int)=6∨(12:Int)=20∨(12:Int)=21:=g;omega
              ov:=fun g=>by have g:s.over=true:=g;rw [g4.2] at g;cases g
              pl:=fun g=>by have g:0<s.pl:=g;have:=h.q;omega
              rf:=fun g=>absurd (h.r.symm.trans g) (by decide)
              hs:=.inl hh
              m6:=fun g=>by exfalso;have g:(12:Int)=6:=g;omega
              m20:=fun g=>by exfalso;have g:(12:Int)=20:=g;omega
              tk:=fun _ _ _ g _ _=>absurd rfl g
              c8:=fun _=>by show s.count + 1=((s.token ++ [_]).length:Int);rw [ht.1,ht.2];rfl
              a14:=fun g=>by exfalso;have g:(12:Int)=14:=g;omega
              q17:=fun g=>by exfalso;have g:(12:Int)=17:=g;omega
              at0:=fun _=>ha
              tk12:=fun _=>by show Okn s.ot (s.token ++ [Mk.u8 b]);rw [ht.1];exact okn_one h.bd.2.1 (beginsName_in g4.1)
              nm12:=fun g=>by exfalso;have g:(13:Int)≤12:=g;omega
              dp12:=fun _ _=>by show (s.opn.length:Int)<s.od;omega }
        · simp at he
theorem w_readBang {s:St} (h:Wq s) (hst:s.state=4) (b:Int) (he:(Mk.readBang s b).2=0):W (Mk.readBang s b).1:=by
  have hh:s.held=[]:=h.hs.none (by omega) (by omega) (by omega)
  have ht:=h.tk (by omega) (by omega) (by omega) (by omega) (by omega) (by omega)
  have ha:=h.at0 (by omega)
  have hv:s.over=true→s.opn=[]:=fun g=>(h.ov g).1
  unfold Mk.readBang at he ⊢
  split at he
  · rename_i g;rw [if_pos g]
    exact (w_to h hh ht ha 5 (by omega) (by omega) (by omega) hv s.matched (by omega) (by omega) (by omega)).toW
  · rename_i g;rw [if_neg g]
    split at he
    · rename_i g3;rw [if_pos g3]
      have ho:s.opn ≠ []:=fun e=>by rw [e] at g3;simp at g3
      exact (w_to h hh ht ha 6 (by omega) (by omega) (fun _=>ho) hv 0 (by omega) (by omega) (by omega)).toW
    · simp at he
theorem w_readDash {s:St} (h:Wq s) (hst:s.state=5) (b:Int) (he:(Mk.readDash s b).2=0):W (Mk.readDash s b).1:=by
  have hh:s.held=[]:=h.hs.none (by omega) (by omega) (by omega)
  have ht:=h.tk (by omega) (by omega) (by omega) (by omega) (by omega) (by omega)
  have ha:=h.at0 (by omega)
  unfold Mk.readDash at he ⊢
  split at he
  · rename_i g;rw [if_pos g]
    exact (w_to h hh ht ha 7 (by omega) (by omega) (by omega) (fun g=>(h.ov g).1) s.matched (by omega) (by omega) (by omega)).toW
  · simp at he
theorem w_readSectionMark {s:St} (h:Wq s) (hst:s.state=6) (b:Int) (he:(Mk.readSectionMark s b).2=0):W (Mk.readSectionMark s b).1:=by
  have hh:s.held=[]:=h.hs.none (by omega) (by omega) (by omega)
  have ht:=h.tk (by omega) (by omega) (by omega) (by omega) (by omega) (by omega)
  have ha:=h.at0 (by omega)
  have ho:=h.o1 (by omega)
  have hm:=h.m6 hst
  unfold Mk.readSectionMark at he ⊢
  split at he
  · simp at he
  · rename_i g;rw [if_neg g]
    split at he
    · rename_i g2;rw [if_pos g2]
      exact (w_to h hh ht ha 2 (by omega) (by omega) (fun _=>ho) (fun g=>(h.ov g).1) (s.matched + 1) (by omega) (by omega) (by omega)).toW
    · rename_i g2;rw [if_neg g2]
      have:=(w_to h hh ht ha 6 (by omega) (by omega) (fun _=>ho) (fun g=>(h.ov g).1) (s.matched + 1) (by omega) (by omega) (by omega)).toW
      rw [← hst] at this
      exact this
theorem w_readBareInstruction {s:St} (h:Wq s) (hst:s.state=9) (b:Int) (he:(Mk.readBareInstruction s b).2=0):W (Mk.readBareInstruction s b).1:=by
  unfold Mk.readBareInstruction at he ⊢
  split at he
  · rename_i g;rw [if_pos g];exact (w_endInstruction h (.inl hst)).toW
  · simp at he
theorem w_tag {s:St} (h:Wq s) (hh:s.held=[]) (hv:s.over=false) (st:Int) (h1:13≤st∧st≤19) (ht:st ≠ 14→st ≠ 17→s.token=[]∧s.count=0) (h14:st ≠ 14) (qu:Int) (h17:st=17→qu=34∨qu=39) (hn:Okn s.ot s.name) (hdp:(s.opn.length:Int)<s.od) (hqu:0≤qu∧qu≤255) :
    Wq { s with state:=st,quote:=qu }:=
  { h with
    st:=⟨by dsimp only;omega,by dsimp only;omega⟩
    o0:=fun g=>by exfalso;have g:st=0:=g;omega
    o1:=fun g=>by exfalso;have g:st=1∨st=2∨st=6∨st=20∨st=21:=g;omega
    ov:=fun g=>by have g:s.over=true:=g;rw [hv] at g;cases g
    pl:=fun g=>by have g:0<s.pl:=g;have:=h.q;omega
    rf:=fun g=>absurd (h.r.symm.trans g) (by decide)
    hs:=.inl hh
    m6:=fun g=>by exfalso;have g:st=6:=g;omega
    m20:=fun g=>by exfalso;have g:st=20:=g;omega
    tk:=fun _ _ _ _ g1 g2=>ht g1 g2
    c8:=fun g=>by exfalso;have g:st=8∨st=12∨st=14:=g;omega
    a14:=fun g=>absurd g h14
    q17:=h17
    at0:=fun g=>absurd h1 g
    tk12:=fun g=>by exfalso;have g:st=12:=g;omega
    nm12:=fun _ _=>hn
    dp12:=fun _ _=>hdp
    q0:=hqu }
theorem w_tellStart {s:St} (h:Wq s) (hst:s.state ≠ 14):Wq (Mk.tellStart s):=by
  rw [tellStart_core]
  exact { h with a14:=fun g=>absurd g hst,at0:=fun _=>rfl }
theorem w_endStart {s:St} (h:Wq s) (hh:s.held=[]) (ht:s.token=[]∧s.count=0) (hn:Okn s.ot s.name) (hdp:(s.opn.length:Int)<s.od) (hv:s.over=false) (h14:s.state ≠ 14) (b:Int):Wq (Mk.endStart s b):=by
  unfold Mk.endStart
  split
  · exact w_tag h hh hv 19 (by omega) (fun _ _=>ht) (by omega) s.quote (by omega) hn hdp h.q0
  · have e:=tellStart_core s
    rw [e]
    have h1:=w_tellStart h h14
    rw [e] at h1
    have h0:((s.opn ++ [s.name]).length=0)=False:=by simp
    unfold Mk.resume
    dsimp only
    rw [if_neg (by simp)]
    exact { h1 with
      st:=⟨by dsimp only;omega,by dsimp only;omega⟩
      o0:=fun g=>by exfalso;have g:(1:Int)=0:=g;omega
      o1:=fun g=>by show s.opn ++ [s.name] ≠ [];simp
      ov:=fun g=>by have g:s.over=true:=g;rw [hv] at g;cases g
      pl:=fun g=>by have g:0<s.pl:=g;have:=h.q;omega
      rf:=fun g=>absurd (h.r.symm.trans g) (by decide)
      hs:=.inl hh
      m6:=fun g=>by exfalso;have g:(1:Int)=6:=g;omega
      m20:=fun g=>by exfalso;have g:(1:Int)=20:=g;omega
      tk:=fun _ _ _ _ _ _=>ht
      c8:=fun g=>by exfalso;have g:(1:Int)=8∨(1:Int)=12∨(1:Int)=14:=g;omega
      a14:=fun g=>by exfalso;have g:(1:Int)=14:=g;omega
      q17:=fun g=>by exfalso;have g:(1:Int)=17:=g;omega
      at0:=fun _=>rfl
      on1:=fun n hm=>by
        rcases List.mem_append.1 hm with hm | hm
        · exact h.on1 n hm
        · rw [List.mem_singleton.1 hm];exact hn
      tk12:=fun g=>by exfalso;have g:(1:Int)=12:=g;omega
      nm12:=fun g=>by exfalso;have g:(13:Int)≤1:=g;omega
      dp:=by show ((s.opn ++ [s.name]).length:Int)≤s.od;simp;omega
      dp12:=fun g=>by exfalso;have g:(12:Int)≤1:=g;omega }
theorem enter_pure (s:St):∃ b c,(Mk.enter s).1={ s with bnd:=b,cnt:=c }:=by
  rcases enter_core s with h | h
  · exact ⟨s.bnd,s.cnt,h⟩
  · exact ⟨_,_,h.trans (declare_core s).1⟩
theorem w_endAttributes {s:St} (h:Wq s) (hh:s.held=[]) (ht:s.token=[]∧s.count=0) (hn:Okn s.ot s.name) (hdp:(s.opn.length:Int)<s.od) (hv:s.over=false) (hst:s.state=12∨s.state=13∨s.state=18) (h13:13≤s.state∨s.attrs=[]) (b:Int) (he:(Mk.endAttributes s b).2=0):W (Mk.endAttributes s b).1:=by
  unfold Mk.endAttributes at he ⊢
  split at he
  · rename_i g;rw [if_pos g]
    split at he
    · simp at he
    · rename_i l hl
      obtain ⟨b1,c1,e1⟩:=enter_pure s
      dsimp only
      rw [e1]
      have hl2:s.attrs=[]→l=[]:=by
        intro e
        have:=(enter_some hl).2
        rw [e] at this
        simpa [Mk.resolveGo] using this.symm
      have h2:Wq { s with bnd:=b1,cnt:=c1,attrs:=l }:={ h with
        a14:=fun g=>by exfalso;have g:s.state=14:=g;omega
        at0:=fun g=>hl2 (h.at0 g) }
      exact (w_endStart h2 hh ht hn hdp hv (by show s.state ≠ 14;omega) b).toW
  · rename_i g;rw [if_neg g]
    exact (w_endStart h hh ht hn hdp hv (by omega) b).toW
theorem w_readStartGap {s:St} (h:Wq s) (hh:s.held=[]) (ht:s.token=[]∧s.count=0) (hn:Okn s.ot s.name) (hdp:(s.opn.length:Int)<s.od) (hv:s.over=false) (hst:s.state=12∨s.state=13∨s.state=18) (b:Int) (he:(Mk.readStartGap s b).2=0):W (Mk.readStartGap s b).1:=by
  unfold Mk.readStartGap at he ⊢
  split at he
  · rename_i g;rw [if_pos g]
    exact (w_tag h hh hv 13 (by omega) (fun _ _=>ht) (by omega) s.quote (by omega) hn hdp h.q0).toW
  · rename_i g;rw [if_neg g]
    split at he
    · rename_i g2;rw [if_pos g2]
      exact w_endAttributes h hh ht hn hdp hv hst (by by_cases q:13≤s.state;exact .inl q;exact .inr (h.at0 (by omega))) b he
    · simp at he
theorem over_false {s:St} (h:W s) (hst:12≤s.state∧s.state≤19):s.over=false:=by
  cases e:s.over
  · rfl
  · exact absurd hst (h.ov e).2
theorem w_readStartName {s:St} (h:Wq s) (hst:s.state=12) (b:Int) (he:(Mk.readStartName s b).2=0):W (Mk.readStartName s b).1:=by
  have hin:Mk.inText s=false:=by unfold Mk.inText;simp [hst]
  have hh:s.held=[]:=h.hs.none (by omega) (by omega) (by omega)
  have hv:=over_false h.toW (by omega)
  unfold Mk.readStartName at he ⊢
  split at he
  · rename_i g2;rw [if_pos g2]
    unfold Mk.lengthenName at he ⊢
    split at he
    · rename_i g3;rw [if_pos g3,put_out hin,encode_one b (inName_lt g2).2]
      exact { h with
        tk:=fun q1 q2 q3 q4 q5 q6=>absurd hst q4
        c8:=fun _=>by have:=h.c8 (.inr (.inl hst));show s.count + 1=((s.token ++ [_]).length:Int);simp;omega
        a14:=fun g=>by exfalso;have g:s.state=14:=g;omega
        tk12:=fun _=>okn_snoc (h.tk12 hst) (by show (s.token.length:Int) + 1≤s.ot;have:=h.c8 (.inr (.inl hst));unfold Mk.fits at g3;rw [hin] at g3;simp at g3;omega) g2 }
    · simp at he
  · rename_i g2;rw [if_neg g2]
    exact w_readStartGap (w_name (w_drop h hh (by omega)) s.token (fun g1 g2=>h.tk12 hst)) hh ⟨rfl,rfl⟩ (h.tk12 hst) (h.dp12 (by omega) (by omega)) hv (.inl hst) b he
theorem w_readStartSpace {s:St} (h:Wq s) (hst:s.state=13) (b:Int) (he:(Mk.readStartSpace s b).2=0):W (Mk.readStartSpace s b).1:=by
  have hh:s.held=[]:=h.hs.none (by omega) (by omega) (by omega)
  have hv:=over_false h.toW (by omega)
  have ht:=h.tk (by omega) (by omega) (by omega) (by omega) (by omega) (by omega)
  unfold Mk.readStartSpace at he ⊢
  split at he
  · rename_i g;rw [if_pos g];exact w_readStartGap h hh ht (h.nm12 (by omega) (by omega)) (h.dp12 (by omega) (by omega)) hv (by omega) b he
  · rename_i g;rw [if_neg g]
    split at he
    · simp at he
    · rename_i g2;rw [if_neg g2]
      have hin:Mk.inText { s with state:=14 }=false:=rfl
      have g:Mk.beginsName b=true:=by simpa using g
      rw [put_out hin,encode_one b (beginsName_lt g).2]
      exact { h with
        st:=⟨by dsimp only;omega,by dsimp only;omega⟩
        o0:=fun g=>by exfalso;have g:(14:Int)=0:=g;omega
        o1:=fun g=>by exfalso;have g:(14:Int)=1∨(14:Int)=2∨(14:Int)=6∨(14:Int)=20∨(14:Int)=21:=g;omega
        ov:=fun g=>by have g:s.over=true:=g;rw [hv] at g;cases g
        pl:=fun g=>by have g:0<s.pl:=g;have:=h.q;omega
        rf:=fun g=>absurd (h.r.symm.trans g) (by decide)
        hs:=.inl hh
        m6:=fun g=>by exfalso;have g:(14:Int)=6:=g;omega
        m20:=fun g=>by exfalso;have g:(14:Int)=20:=g;omega
        tk:=fun _ _ _ _ g _=>absurd rfl g
        c8:=fun _=>by show s.count + 1=((s.token ++ [_]).length:Int);rw [ht.1,ht.2];rfl
        a14:=fun _=>⟨fun _=>by show s.count + 1 + 1≤s.ot;have:=h.bd;omega,by show (s.attrs.length:Int)<s.oa;omega⟩
        q17:=fun g=>by exfalso;have g:(14:Int)=17:=g;omega
        at0:=fun g=>absurd ⟨by dsimp only;omega,by dsimp only;omega⟩ g
        tk12:=fun g=>by exfalso;have g:(14:Int)=12:=g;omega
        nm12:=fun _ _=>h.nm12 (by omega) (by omega)
        dp12:=fun _ _=>h.dp12 (by omega) (by omega) }
theorem w_readAttrSpace {s:St} (h:Wq s) (hh:s.held=[]) (ht:s.token=[]∧s.count=0) (hst:14≤s.state∧s.state≤15) (b:Int) (he:(Mk.readAttrSpace s b).2=0):W (Mk.readAttrSpace s b).1:=by
  have hv:=over_false h.toW (by omega)
  unfold Mk.readAttrSpace at he ⊢
  split at he
  · rename_i g;rw [if_pos g]
    exact (w_tag h hh hv 15 (by omega) (fun _ _=>ht) (by omega) s.quote (by omega) (h.nm12 (by omega) (by omega)) (h.dp12 (by omega) (by omega)) h.q0).toW
  · rename_i g;rw [if_neg g]
    split at he
    · rename_i g2;rw [if_pos g2]
      exact (w_tag h hh hv 16 (by omega) (fun _ _=>ht) (by omega) s.quote (by omega) (h.nm12 (by omega) (by omega)) (h.dp12 (by omega) (by omega)) h.q0).toW
    · simp at he
theorem w_readAttrName {s:St} (h:Wq s) (hst:s.state=14) (b:Int) (he:(Mk.readAttrName s b).2=0):W (Mk.readAttrName s b).1:=by
  have hin:Mk.inText s=false:=by unfold Mk.inText;simp [hst]
  have hh:s.held=[]:=h.hs.none (by omega) (by omega) (by omega)
  have hv:=over_false h.toW (by omega)
  have h14:=h.a14 hst
  unfold Mk.readAttrName at he ⊢
  split at he
  · rename_i g;rw [if_pos g]
    unfold Mk.lengthenAttrName at he ⊢
    split at he
    · rename_i g2;rw [if_pos g2]
      split at he
      · simp at he
      · rename_i g3;rw [if_neg g3]
        rw [put_out hin,encode_one b (inName_lt g).2] at g3 ⊢
        exact { h with
          tk12:=fun g=>by exfalso;have g:s.state=12:=g;omega
          tk:=fun _ _ _ _ g _=>absurd hst g
          c8:=fun _=>by have:=h.c8 (.inr (.inr hst));show s.count + 1=((s.token ++ [_]).length:Int);simp;omega
          a14:=fun _=>⟨fun hA=>by
            have e:Mk.fits { s with token:=s.token ++ [Mk.u8 b],count:=s.count + 1 } 1=true:=by
              cases e:Mk.fits { s with token:=s.token ++ [Mk.u8 b],count:=s.count + 1 } 1
              · exact absurd (by rw [e];simpa using hA) g3
              · rfl
            unfold Mk.fits at e
            rw [show Mk.inText { s with token:=s.token ++ [Mk.u8 b],count:=s.count + 1 }=false from hin] at e
            simpa using e,h14.2⟩ }
    · simp at he
  · rename_i g;rw [if_neg g]
    split at he
    · simp at he
    · rename_i g2;rw [if_neg g2]
      split at he
      · simp at he
      · rename_i g3;rw [if_neg g3]
        refine w_readAttrSpace (s:={ Mk.dropToken s with attr:=s.token }) ?_ hh ⟨rfl,rfl⟩ ⟨by show 14≤s.state;omega,by show s.state≤15;omega⟩ b he
        exact { h with
          tk12:=fun g=>by exfalso;have g:s.state=12:=g;omega
          tk:=fun _ _ _ _ _ _=>⟨rfl,rfl⟩
          c8:=fun _=>rfl
          a14:=fun _=>⟨fun _=>by show (0:Int) + 1≤s.ot;have:=h.bd;omega,h14.2⟩ }
theorem w_readEquals {s:St} (h:Wq s) (hst:s.state=16) (b:Int) (he:(Mk.readEquals s b).2=0):W (Mk.readEquals s b).1:=by
  have hh:s.held=[]:=h.hs.none (by omega) (by omega) (by omega)
  have hv:=over_false h.toW (by omega)
  have ht:=h.tk (by omega) (by omega) (by omega) (by omega) (by omega) (by omega)
  unfold Mk.readEquals at he ⊢
  split at he
  · rename_i g;rw [if_pos g];exact h.toW
  · rename_i g;rw [if_neg g]
    split at he
    · rename_i g2;rw [if_pos g2]
      have g2:b=34∨b=39:=by simpa using g2
      exact (w_tag h hh hv 17 (by omega) (fun _ _=>ht) (by omega) b (fun _=>g2) (h.nm12 (by omega) (by omega)) (h.dp12 (by omega) (by omega)) (by omega)).toW
    · simp at he
theorem w_readValue {s:St} (h:Wq s) (hst:s.state=17) (b:Int) (h0:0≤b) (he:(Mk.readValue s b).2=0):W (Mk.readValue s b).1:=by
  have hh:s.held=[]:=h.hs.none (by omega) (by omega) (by omega)
  have hv:=over_false h.toW (by omega)
  unfold Mk.readValue at he ⊢
  split at he
  · rename_i g;rw [if_pos g]
    have h1:Wq (Mk.dropToken s):=w_drop h hh (by omega)
    have h2:=w_tag h1 hh hv 18 (by omega) (fun _ _=>⟨rfl,rfl⟩) (by omega) s.quote (by omega) (h.nm12 (by omega) (by omega)) (h.dp12 (by omega) (by omega)) h.q0
    exact { h2 with
      a14:=fun g=>by exfalso;have g:(18:Int)=14:=g;omega
      at0:=fun g=>absurd ⟨by show (13:Int)≤18;omega,by show (18:Int)≤19;omega⟩ g }
  · rename_i g;rw [if_neg g]
    split at he
    · simp at he
    · rename_i g2;rw [if_neg g2]
      split at he
      · rename_i g3;rw [if_pos g3]
        split at he
        · rename_i g4;rw [if_pos g4]
          exact { h with
            rf:=fun _=>⟨.inr hst,.inl ⟨rfl,rfl⟩⟩
            pl:=fun g=>by have g:0<s.pl:=g;have:=h.q;omega }
        · simp at he
      · rename_i g3;rw [if_neg g3]
        split at he
        · rename_i g4;rw [if_pos g4]
          exact w_readCharacter h.toW (by omega) h.r 32 (by omega) he
        · rename_i g4;rw [if_neg g4]
          exact w_readCharacter h.toW (by omega) h.r b h0 he
theorem w_tellEnd {s:St} (h:Wq s) (hh:s.held=[]) (ht:s.token=[]∧s.count=0) (ha:s.attrs=[]) (n:Bs):Wq (Mk.tellEnd s n):=by
  have h0:(s.opn.length=0) ↔ s.opn=[]:=List.length_eq_zero_iff
  rw [tellEnd_core]
  have h1:Wq { s with list:=(Mk.tellEnd s n).list,text:=(Mk.tellEnd s n).text,bnd:=(Mk.tellEnd s n).bnd,cnt:=(Mk.tellEnd s n).cnt }:={ h with }
  by_cases he:s.opn=[]
  · have he' := h0.2 he
    simp only [he', decide_true,if_true]
    exact { h1 with
      st:=⟨by dsimp only;omega,by dsimp only;omega⟩
      o0:=fun _=>he
      o1:=fun g=>by exfalso;have g:(0:Int)=1∨(0:Int)=2∨(0:Int)=6∨(0:Int)=20∨(0:Int)=21:=g;omega
      ov:=fun _=>⟨he,by dsimp only;omega⟩
      pl:=fun g=>by have g:0<s.pl:=g;have:=h.q;omega
      rf:=fun g=>absurd (h.r.symm.trans g) (by decide)
      hs:=.inl hh
      m6:=fun g=>by exfalso;have g:(0:Int)=6:=g;omega
      m20:=fun g=>by exfalso;have g:(0:Int)=20:=g;omega
      tk:=fun _ _ _ _ _ _=>ht
      c8:=fun g=>by exfalso;have g:(0:Int)=8∨(0:Int)=12∨(0:Int)=14:=g;omega
      a14:=fun g=>by exfalso;have g:(0:Int)=14:=g;omega
      q17:=fun g=>by exfalso;have g:(0:Int)=17:=g;omega
      at0:=fun _=>ha
      tk12:=fun g=>by exfalso;have g:(0:Int)=12:=g;omega
      nm12:=fun g=>by exfalso;have g:(13:Int)≤0:=g;omega
      dp12:=fun g=>by exfalso;have g:(12:Int)≤0:=g;omega }
  · have he' : ¬ s.opn.length=0:=fun g=>he (h0.1 g)
    simp only [he', decide_false,if_false]
    exact { h1 with
      st:=⟨by dsimp only;omega,by dsimp only;omega⟩
      o0:=fun g=>by exfalso;have g:(1:Int)=0:=g;omega
      o1:=fun _=>he
      ov:=fun g=>by cases g
      pl:=fun g=>by have g:0<s.pl:=g;have:=h.q;omega
      rf:=fun g=>absurd (h.r.symm.trans g) (by decide)
      hs:=.inl hh
      m6:=fun g=>by exfalso;have g:(1:Int)=6:=g;omega
      m20:=fun g=>by exfalso;have g:(1:Int)=20:=g;omega
      tk:=fun _ _ _ _ _ _=>ht
      c8:=fun g=>by exfalso;have g:(1:Int)=8∨(1:Int)=12∨(1:Int)=14:=g;omega
      a14:=fun g=>by exfalso;have g:(1:Int)=14:=g;omega
      q17:=fun g=>by exfalso;have g:(1:Int)=17:=g;omega
      at0:=fun _=>ha
      tk12:=fun g=>by exfalso;have g:(1:Int)=12:=g;omega
      nm12:=fun g=>by exfalso;have g:(13:Int)≤1:=g;omega
      dp12:=fun g=>by exfalso;have g:(12:Int)≤1:=g;omega }
theorem w_readSlash {s:St} (h:Wq s) (hst:s.state=19) (b:Int) (he:(Mk.readSlash s b).2=0):W (Mk.readSlash s b).1:=by
  have hh:s.held=[]:=h.hs.none (by omega) (by omega) (by omega)
  have ht:=h.tk (by omega) (by omega) (by omega) (by omega) (by omega) (by omega)
  unfold Mk.readSlash at he ⊢
  split at he
  · simp at he
  · rename_i g;rw [if_neg g]
    have h1:=w_tellStart h (by omega)
    have e:=tellStart_core s
    have h2:=w_tellEnd h1 (by rw [e];exact hh) (by rw [e];exact ht) (by rw [e]) s.name
    exact (w_name h2 [] fun _ _=>okn_nil h2.bd.2.1).toW
theorem w_endInnermost {s:St} (h:Wq s) (hst:s.state=20∨s.state=21):Wq (Mk.endInnermost s):=by
  have hh:s.held=[]:=h.hs.none (by omega) (by omega) (by omega)
  have ht:=h.tk (by omega) (by omega) (by omega) (by omega) (by omega) (by omega)
  have ha:=h.at0 (by omega)
  have ho:=h.o1 (by omega)
  have hv:s.over=false:=by
    cases e:s.over
    · rfl
    · exact absurd (h.ov e).1 ho
  unfold Mk.endInnermost
  -- the state is set to 3 beforehand, in which the open elements do not matter
  have h1:=w_to h hh ht ha 3 (by omega) (by omega) (by omega) (fun g=>(h.ov g).1) s.matched (by omega) (by omega) (by omega)
  have h2:Wq { s with state:=3,opn:=s.opn.dropLast }:={ h1 with
    o0:=fun g=>by exfalso;have g:(3:Int)=0:=g;omega
    o1:=fun g=>by exfalso;have g:(3:Int)=1∨(3:Int)=2∨(3:Int)=6∨(3:Int)=20∨(3:Int)=21:=g;omega
    ov:=fun g=>by have g:s.over=true:=g;rw [hv] at g;cases g
    m20:=fun g=>by exfalso;have g:(3:Int)=20:=g;omega
    on1:=fun n hm=>h.on1 n (List.dropLast_subset _ hm)
    dp:=by show (s.opn.dropLast.length:Int)≤s.od;have:=h.dp;rw [List.length_dropLast];omega
    dp12:=fun g=>by exfalso;have g:(12:Int)≤3:=g;omega }
  have h3:=w_tellEnd h2 hh ht ha (Mk.innermost s)
  have e:Mk.tellEnd { s with state:=3,opn:=s.opn.dropLast } (Mk.innermost s)=Mk.tellEnd { s with opn:=s.opn.dropLast } (Mk.innermost s):=by
    rw [tellEnd_core,tellEnd_core { s with opn:=s.opn.dropLast }]
    have f1:∀ (u v:Int) (e:Ev),(Mk.add { s with state:=u,opn:=s.opn.dropLast } e).list=(Mk.add { s with state:=v,opn:=s.opn.dropLast } e).list:=fun u v e=>by unfold Mk.add Mk.endText;dsimp only;split <;> rfl
    have f:∀ (l:List (Bs × Bs)) (z:St) (u:Int),Mk.unbindAll { z with state:=u } l={ Mk.unbindAll z l with state:=u }:=by
      intro l
      induction l with
      | nil=>intro z u;rfl
      | cons p r ih =>
        intro z u
        have g:Mk.add { z with state:=u } ⟨7,p.1,[],[],[]⟩={ Mk.add z ⟨7,p.1,[],[],[]⟩ with state:=u }:=by unfold Mk.add Mk.endText;dsimp only;split <;> rfl
        show Mk.unbindAll (Mk.add { z with state:=u } _) r={ Mk.unbindAll (Mk.add z _) r with state:=u }
        rw [g];exact ih _ u
    have g:Mk.add { s with state:=3,opn:=s.opn.dropLast } ⟨2,Mk.innermost s,Mk.spaceOf s (Mk.innermost s),[],[]⟩={ Mk.add { s with opn:=s.opn.dropLast } ⟨2,Mk.innermost s,Mk.spaceOf s (Mk.innermost s),[],[]⟩ with state:=3 }:=by unfold Mk.add Mk.endText;dsimp only;split <;> rfl
    have k:Mk.tellUnbinds (Mk.add { s with state:=3,opn:=s.opn.dropLast } ⟨2,Mk.innermost s,Mk.spaceOf s (Mk.innermost s),[],[]⟩)={ Mk.tellUnbinds (Mk.add { s with opn:=s.opn.dropLast } ⟨2,Mk.innermost s,Mk.spaceOf s (Mk.innermost s),[],[]⟩) with state:=3 }:=by
      rw [g];unfold Mk.tellUnbinds;exact f _ _ _
    have t:Mk.tellEnd { s with state:=3,opn:=s.opn.dropLast } (Mk.innermost s)=Mk.tellEnd { s with opn:=s.opn.dropLast } (Mk.innermost s):=by
      show Mk.resume { Mk.leave (Mk.tellUnbinds (Mk.add { s with state:=3,opn:=s.opn.dropLast } ⟨2,Mk.innermost s,Mk.spaceOf s (Mk.innermost s),[],[]⟩)) with over:=_ }=Mk.resume { Mk.leave (Mk.tellUnbinds (Mk.add { s with opn:=s.opn.dropLast } ⟨2,Mk.innermost s,Mk.spaceOf s (Mk.innermost s),[],[]⟩)) with over:=_ }
      rw [k];rfl
    rw [t]
  rw [e] at h3
  exact h3
theorem w_readEndSpace {s:St} (h:Wq s) (hst:s.state=20∨s.state=21) (b:Int) (he:(Mk.readEndSpace s b).2=0):W (Mk.readEndSpace s b).1:=by
  have hh:s.held=[]:=h.hs.none (by omega) (by omega) (by omega)
  have ht:=h.tk (by omega) (by omega) (by omega) (by omega) (by omega) (by omega)
  have ha:=h.at0 (by omega)
  have ho:=h.o1 (by omega)
  unfold Mk.readEndSpace at he ⊢
  split at he
  · rename_i g;rw [if_pos g]
    exact (w_to h hh ht ha 21 (by omega) (by omega) (fun _=>ho) (fun g=>(h.ov g).1) s.matched (by omega) (by omega) (by omega)).toW
  · rename_i g;rw [if_neg g]
    split at he
    · rename_i g2;rw [if_pos g2];exact (w_endInnermost h hst).toW
    · simp at he
theorem w_readEndName {s:St} (h:Wq s) (hst:s.state=20) (b:Int) (he:(Mk.readEndName s b).2=0):W (Mk.readEndName s b).1:=by
  have hm:=h.m20 hst
  unfold Mk.readEndName at he ⊢
  split at he
  · rename_i g;rw [if_pos g]
    split at he
    · simp at he
    · rename_i g2;rw [if_neg g2]
      exact { h with
        m6:=fun g=>by exfalso;have g:s.state=6:=g;omega
        m20:=fun _=>⟨by show 0≤s.matched + 1;omega,by show s.matched + 1≤(Mk.innermost s).length;omega⟩ }
  · rename_i g;rw [if_neg g]
    split at he
    · simp at he
    · rename_i g2;rw [if_neg g2]
      exact w_readEndSpace h (.inl hst) b he
theorem w_readStartTag {s:St} (h:Wq s) (hst:12≤s.state∧s.state≤19∧s.state ≠ 17) (b:Int) (he:(Mk.readStartTag s b).2=0):W (Mk.readStartTag s b).1:=by
  have hh:s.held=[]:=h.hs.none (by omega) (by omega) (by omega)
  unfold Mk.readStartTag at he ⊢
  split at he
  · rename_i g;rw [if_pos g];exact w_readStartName h (by simpa using g) b he
  · rename_i g;rw [if_neg g]
    have g:s.state ≠ 12:=by simpa using g
    split at he
    · rename_i g1;rw [if_pos g1];exact w_readStartSpace h (by simpa using g1) b he
    · rename_i g1;rw [if_neg g1]
      have g1:s.state ≠ 13:=by simpa using g1
      split at he
      · rename_i g2;rw [if_pos g2];exact w_readAttrName h (by simpa using g2) b he
      · rename_i g2;rw [if_neg g2]
        have g2:s.state ≠ 14:=by simpa using g2
        split at he
        · rename_i g3;rw [if_pos g3]
          have g3:s.state=15:=by simpa using g3
          exact w_readAttrSpace h hh (h.tk (by omega) (by omega) (by omega) (by omega) (by omega) (by omega)) (by omega) b he
        · rename_i g3;rw [if_neg g3]
          have g3:s.state ≠ 15:=by simpa using g3
          split at he
          · rename_i g4;rw [if_pos g4];exact w_readEquals h (by simpa using g4) b he
          · rename_i g4;rw [if_neg g4]
            have g4:s.state ≠ 16:=by simpa using g4
            split at he
            · rename_i g5;rw [if_pos g5]
              have g5:s.state=18:=by simpa using g5
              exact w_readStartGap h hh (h.tk (by omega) (by omega) (by omega) (by omega) (by omega) (by omega)) (h.nm12 (by omega) (by omega)) (h.dp12 (by omega) (by omega)) (over_false h.toW (by omega)) (by omega) b he
            · rename_i g5;rw [if_neg g5]
              have g5:s.state ≠ 18:=by simpa using g5
              exact w_readSlash h (by omega) b he
theorem w_readMark {s:St} (h:Wq s) (hst:s.state ≠ 0∧s.state ≠ 1∧s.state ≠ 2∧s.state ≠ 7∧s.state ≠ 11∧s.state ≠ 17) (b:Int) (h0:0≤b) (he:(Mk.readMark s b).2=0):W (Mk.readMark s b).1:=by
  have h22:=h.st
  unfold Mk.readMark at he ⊢
  split at he
  · rename_i g;rw [if_pos g];exact w_readLess h (by simpa using g) b he
  · rename_i g;rw [if_neg g]
    have g:s.state ≠ 3:=by simpa using g
    split at he
    · rename_i g1;rw [if_pos g1];exact w_readBang h (by simpa using g1) b he
    · rename_i g1;rw [if_neg g1]
      have g1:s.state ≠ 4:=by simpa using g1
      split at he
      · rename_i g2;rw [if_pos g2];exact w_readDash h (by simpa using g2) b he
      · rename_i g2;rw [if_neg g2]
        have g2:s.state ≠ 5:=by simpa using g2
        split at he
        · rename_i g3;rw [if_pos g3];exact w_readSectionMark h (by simpa using g3) b he
        · rename_i g3;rw [if_neg g3]
          have g3:s.state ≠ 6:=by simpa using g3
          split at he
          · rename_i g4;rw [if_pos g4];exact w_readInstructionName h (by simpa using g4) b he
          · rename_i g4;rw [if_neg g4]
            have g4:s.state ≠ 8:=by simpa using g4
            split at he
            · rename_i g5;rw [if_pos g5];exact w_readBareInstruction h (by simpa using g5) b he
            · rename_i g5;rw [if_neg g5]
              have g5:s.state ≠ 9:=by simpa using g5
              split at he
              · rename_i g6;rw [if_pos g6];exact w_readInstructionSpace h (by simpa using g6) b h0 he
              · rename_i g6;rw [if_neg g6]
                have g6:s.state ≠ 10:=by simpa using g6
                split at he
                · rename_i g7;rw [if_pos g7];exact w_readEndName h (by simpa using g7) b he
                · rename_i g7;rw [if_neg g7]
                  have g7:s.state ≠ 20:=by simpa using g7
                  split at he
                  · rename_i g8;rw [if_pos g8]
                    have g8:s.state=21:=by simpa using g8
                    exact w_readEndSpace h (.inr g8) b he
                  · rename_i g8;rw [if_neg g8]
                    have g8:s.state ≠ 21:=by simpa using g8
                    exact w_readStartTag h (by omega) b he
theorem w_readByte {s:St} (h:W s) (b:Int) (h0:0≤b) (he:(Mk.readByte s b).2=0):W (Mk.readByte s b).1:=by
  unfold Mk.readByte at he ⊢
  split at he
  · rename_i g;rw [if_pos g];exact w_readPart h g b he
  · rename_i g;rw [if_neg g]
    have hp:s.pl=0:=by have:=h.p0;omega
    split at he
    · rename_i g1;rw [if_pos g1];exact w_readReference h g1 hp b h0 he
    · rename_i g1;rw [if_neg g1]
      have hq:Wq s:=⟨h,hp,by simpa using g1⟩
      split at he
      · rename_i g2;rw [if_pos g2];exact w_readOutside hq (by simpa using g2) b he
      · rename_i g2;rw [if_neg g2]
        have g2:s.state ≠ 0:=by simpa using g2
        split at he
        · rename_i g3;rw [if_pos g3];exact w_readContent hq (by simpa using g3) b h0 he
        · rename_i g3;rw [if_neg g3]
          have g3:s.state ≠ 1:=by simpa using g3
          split at he
          · rename_i g4;rw [if_pos g4];exact w_readSection hq (by simpa using g4) b h0 he
          · rename_i g4;rw [if_neg g4]
            have g4:s.state ≠ 2:=by simpa using g4
            split at he
            · rename_i g5;rw [if_pos g5];exact w_readComment hq (by simpa using g5) b h0 he
            · rename_i g5;rw [if_neg g5]
              have g5:s.state ≠ 7:=by simpa using g5
              split at he
              · rename_i g6;rw [if_pos g6];exact w_readInstruction hq (by simpa using g6) b h0 he
              · rename_i g6;rw [if_neg g6]
                have g6:s.state ≠ 11:=by simpa using g6
                split at he
                · rename_i g7;rw [if_pos g7];exact w_readValue hq (by simpa using g7) b h0 he
                · rename_i g7;rw [if_neg g7]
                  have g7:s.state ≠ 17:=by simpa using g7
                  exact w_readMark hq ⟨g2,g3,g4,g5,g6,g7⟩ b h0 he
theorem w_movePlace {s:St} (h:W s) (b:Int):W (Mk.movePlace s b):=by
  unfold Mk.movePlace
  split
  · exact { h with }
  · split
    · exact { h with }
    · exact h
theorem w_readOn {s:St} (h:W s) (b:Int) (h0:0≤b) (he:(Mk.readOn s b).2=0):W (Mk.readOn s b).1:=by
  unfold Mk.readOn at he ⊢
  split at he
  · rename_i g;rw [if_pos g];exact w_movePlace (w_readByte h b h0 g) b
  · rename_i g;exact absurd he g
theorem w_feedByte {s:St} (h:W s) (x:UInt8) (he:(Mk.feedByte s x).ended=0):W (Mk.feedByte s x):=by
  unfold Mk.feedByte at he ⊢
  split at he
  · rename_i g;rw [if_pos g]
    have h1:W { s with at_:=s.at_ + 1 }:={ h with }
    unfold Mk.read at he ⊢
    dsimp only at he ⊢
    split at he
    · rename_i g2;rw [if_pos g2];exact { h1 with }
    · rename_i g2;rw [if_neg g2]
      split at he
      · rename_i g3;rw [if_pos g3]
        have h2:=w_readOn (s:={ s with at_:=s.at_ + 1,ret:=true }) { h1 with } 10 (by omega) he
        exact { h2 with }
      · rename_i g3;rw [if_neg g3]
        have h2:=w_readOn (s:={ s with at_:=s.at_ + 1,ret:=false }) { h1 with } x.toNat (by omega) he
        exact { h2 with }
  · rename_i g;exact absurd he g
theorem w_feedAll:∀ (l:Bs) {s:St},W s→(Mk.feedAll s l).ended=0→W (Mk.feedAll s l)
  | [],_,h,_=>h
  | x :: r,s,h,he=>by
    have hx:(Mk.feedByte s x).ended=0:=by
      cases hd:decide ((Mk.feedByte s x).ended=0)
      · have hne:(Mk.feedByte s x).ended ≠ 0:=by simpa using hd
        have hs:∀ (l:Bs) (z:St),z.ended ≠ 0→Mk.feedAll z l=z:=by
          intro l
          induction l with
          | nil=>intro z _;rfl
          | cons y t ih => intro z hz; show Mk.feedAll (Mk.feedByte z y) t = z; have : Mk.feedByte z y = z := by unfold Mk.feedByte; rw [if_neg hz]
                           rw [this];exact ih z hz
        have he' : (Mk.feedAll (Mk.feedByte s x) r).ended=0:=he
        rw [hs r _ hne] at he'
        exact absurd he' hne
      · simpa using hd
    exact w_feedAll r (w_feedByte h x hx) he
theorem w_make (d a t:Int) (n:Bool) (d1:1≤d) (t1:8≤t) (a2:a≤32):W (Mk.make_ d a t n):=by
  constructor <;> simp_all [Mk.make_,Hs,Mk.isOpen] <;> omega
end Go.Proofs.YtmgfijllcdadgabGreatDoor
namespace Mk
def partRest (c l:Int):Bs:=
  if l=1 then [128]
  else if l=2 then (if c=0 then [160,128] else [128,128])
  else if l=3 then (if c=0 then [144,128,128] else [128,128,128])
  else []
def nameRest (n:Bs):List (Bs × Int)→Bs
  | []=>[]
  | (x,_) :: r=>if n.isPrefixOf x then x.drop n.length else nameRest n r
def numberRest (c base:Int):Bs:=
  if isChar c then [59] else if isChar (c * base) then [48,59] else if isChar (c * base * base) then [48,48,59] else [57,59]
def refRest (p:Int) (n:Bs) (c:Int):Bs:=
  if p=1∨p=2 then nameRest n refNames
  else if p=3∨p=5 then numberRest c 10
  else if p=4∨p=6 then numberRest c 16
  else []
def behind (w:Bs) (k:Int):Bs:=if k<0∨(w.length:Int)<k then [] else w.drop k.toNat
def cdata:Bs:=[67,68,65,84,65,91]
def freeFrom (s:St):Nat→Int→Bs
  | 0,_=>[]
  | n + 1,b=>if inName b && !hasAttr s (s.token ++ [u8 b]) then [u8 b] else freeFrom s n (b + 1)
def attrRest (s:St):Bs:=if hasAttr s s.token then freeFrom s 58 65 else []
def isStartTag (st:Int):Bool:=decide (12≤st) && decide (st≤19)
def isEndTag (st:Int):Bool:=st == 20 || st == 21
def startRest (s:St):Bs:=
  if s.state=14 then attrRest s ++ [61,39,39,47,62]
  else if s.state=15 then [61,39,39,47,62]
  else if s.state=16 then [39,39,47,62]
  else if s.state=17 then [u8 s.quote,47,62]
  else if s.state=19 then [62]
  else [47,62]
def instrRest (s:St):Bs:=
  if s.state=8∧(s.count=0∨isXML s.token=true) then [97,63,62]
  else if s.state=9 then [62]
  else behind [63,62] s.held.length
def markRest (s:St):Bs:=
  if s.state=0∨s.state=1 then []
  else if s.state=3 then [33,45,45,45,45,62]
  else if s.state=4 then [45,45,45,45,62]
  else if s.state=5 then [45,45,45,62]
  else if s.state=7 then behind [45,45,62] s.held.length
  else if s.state=6 then behind cdata s.matched ++ [93,93,62]
  else if s.state=2 then behind [93,93,62] s.held.length
  else if s.state=20 then behind (innermost s) s.matched ++ [62]
  else if s.state=21 then [62]
  else if isStartTag s.state then startRest s
  else instrRest s
def endTags:List Bs→Bs
  | []=>[]
  | n :: r=>[60,47] ++ n ++ [62] ++ endTags r
def leftOpen (s:St):List Bs:=if isEndTag s.state then s.opn.dropLast.reverse else s.opn.reverse
def rest (s:St):Bs:=
  partRest s.pc s.pl ++ refRest s.rp s.rn s.rc ++ markRest s ++ endTags (leftOpen s) ++ (if s.opn=[]∧s.over=false∧isStartTag s.state=false then [60,97,47,62] else [])
end Mk

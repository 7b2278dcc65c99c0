import Derived.Test.YtmgfijllcdadgaaGreatDoorUW05
set_option linter.all false
set_option maxHeartbeats 8000000
set_option maxRecDepth 100000
namespace Go.Proofs.YtmgfijllcdadgaaGreatDoor
open Go.RowKit
open Go.Proofs.Tryz
open Mk
variable {w:World}{b:Nat}{s:Z}{L:Lay}
theorem yT:(prog.info? 65).map (λi=>(i.zero,i.size,i.bytes))=some (some (.agg #[.int .i64 0,.string ByteArray.empty,.string ByteArray.empty,.string ByteArray.empty,.slice none 0 0]),5,80):=by kernel_rfl
def vC{d:Nat}{a:Option Addr}{c:Nat}{l:U}(h:w.ownsRow d 5 1 (.slice a l.length c) l.length (l.map bv)):
 (convert 74 9 (.slice a l.length c)).run prog w=.ok (.string ⟨l.toArray⟩) w:=by
 obtain⟨f,m⟩|⟨g,n,i,f,s,o,p,_,q,b⟩:=h.2
 .have:l=[]:=FT m;subst this;cases f;exact run_convert_bytes_nil w _ _ underlying74 underlying5 0 0 _ underlying9
 cases f;refine tJ w _ _ _ _ _ l underlying74 underlying5 underlying9 λj r=>?_;have e:(⟨g,0,none⟩:Addr).add j=⟨g,j,none⟩:=by unfold Addr.add;split<;>simp_all
 rw[e,C_ w g j i _ _ o];have k:(l.map bv)[j]?=some (bv l[j]):=by simp[r]
 rw[<-b,yI<|by omega]at k;simpa[bv]using k
def vD(e:Ev)(a:Option Addr)(n c:Nat):∀u∈fP e (.slice a n c),u.oneCell' =true:=by
 intro u b;simp[fP]at b;obtain rfl|rfl|rfl|rfl|rfl:=b<;>rfl
def VT(h:bC w b s L)(E:0<s.F.length)(hx:s.F.length<=1000000000000)(F:s.C.length<=1000000000000):
 Calls prog 103 #[.pointer (some ⟨b,26,none⟩)] w λe w' =>e=.returned (.tuple #[])/\∃f,Mv w b (aY s L) w' (bK s) f/\f.aa=L.aa/\f.ac=L.ac:=by
 obtain⟨t,G,v⟩:=h.zzv;have x:=vC (w:=w.drew) ((h.start.drew).X.rows.own (gN s L)<|by simp[rowsOf]);have a:=((h.start).alloc (.cells #[.int .i64 3,.string ⟨#[]⟩,.string ⟨#[]⟩,.string ⟨s.F.toArray⟩,.slice none 0 0] 65)).drew;have p:Hid (Mv w b (aY s L) (w.alloc (.cells #[.int .i64 3,.string ⟨#[]⟩,.string ⟨#[]⟩,.string ⟨s.F.toArray⟩,.slice none 0 0] 65)).drew s L):=a;have y:=Y (a.X.rows.own (fE s L)<|by simp[rowsOf]);have c:s.C.length+1<=maxLen:=by unfold maxLen;omega
 have d:b - 1<=(w.alloc (.cells #[.int .i64 3,.string ⟨#[]⟩,.string ⟨#[]⟩,.string ⟨s.F.toArray⟩,.slice none 0 0] 65)).drew.heap.size:=by simp;omega
 have i:=Y c;have j:=Y d;have e0:((s.F.length:Int)==0)=false:=akc;unfold cellsOf at t;obtain⟨z,A,k,l,m⟩:=lg yT;clear h c d a;go_enter func103,ntmps103;go_wp2;go_region_law (refine tC _ rfl (.tmp 12) (.tmp 19) 29 rfl (b - 1) 65 z _ 5 80 underlying29 A k l m rfl (by decide) (.slice L.la s.C.length L.lc) s.C.length (dU L.es) (by simp[Act.eval]) y.u ⟨w.heap.size,0,none⟩ 1 1 (fP ⟨3,[],[],s.F,[]⟩ (.slice none 0 0)) (by simp[Act.eval]) rfl (jT (LI (dI w _))) (vD _ _ _ _) (by decide) i.u (by omega) j.u (w.heap.size+1) (by simp) ?_;intro g B H hown hgrow n q;obtain⟨C,D⟩:=tL (p.u.X.grown (r:=fE s L) hgrow<|by simp[rowsOf]);unfold cellsOf at C);all_goals
  go_wp2;go_end0
  have o:bK s={s with C:=s.C++[⟨3,[],[],s.F,[]⟩],F:=[]}:=by rw[bK,M]
  rw[o];exact⟨rfl,_,(p.u.LH ⟨3,[],[],s.F,[]⟩ rfl hown hgrow<|by simpa using n).Vz,rfl,rfl⟩
def Gc(h:bC w b s L)(hx:s.F.length<=1000000000000)(f:s.C.length<=1000000000000):
 Calls prog 103 #[.pointer (some ⟨b,26,none⟩)] w λe w' =>e=.returned (.tuple #[])/\∃c,Mv w b (aY s L) w' (bK s) c/\c.aa=L.aa/\c.ac=L.ac:=by
 by_cases d:s.F.length=0
 .have a:bK s=s:=by rw[bK,J d]
  rw[a];have g:=h.cell;have e0:((s.F.length:Int)==0)=true:=by simp[d]
  have i:=Y h;unfold cellsOf at g;clear h a d;go_enter func103,ntmps103;go_wp2;refine bodyPost_ret (CU rfl _ _ _) rfl ?_;exact⟨rfl,L,i.u.start,rfl,rfl⟩
 exact VT h (by omega) hx f
def Fr.box{w' :World}{f a:List Nat}{o:Obj}{W:World}(h:Fr W w' b f a)(c:W=w.alloc o)(g:b<w.heap.size)(d:∀k∈f,k<w.heap.size):w'.heap[w.heap.size]?=some o:=by
 subst c;rw[h.block w.heap.size (by simp) (by omega) λe=>by have:=d _ e;omega];exact dI w o
def add_nil(h:bC w b s L)(a:Ev)(D:a.f=[])(hx:s.F.length<=1000000000000)(W:s.C.length<=1000000000):
 Calls prog 188 #[.pointer (some ⟨b,26,none⟩),.agg #[.int .i64 a.kind,.string ⟨a.B.toArray⟩,.string ⟨a.space.toArray⟩,.string ⟨a.val.toArray⟩,.slice none 0 0]] w λe w' =>e=.returned (.tuple #[])/\∃E,Mv w b (aY s L) w' (aX s a) E:=by
 have f:=(h.start).alloc (.cells #[.int .i64 a.kind,.string ⟨a.B.toArray⟩,.string ⟨a.space.toArray⟩,.string ⟨a.val.toArray⟩,.slice none 0 0] 65);have y:=Y (Gc f.X hx<|by omega);have l:=Y f;have F:=Y h.lt;have G:=Y h.jh;obtain⟨H,I,o,p,q⟩:=lg yT;clear h f;go_enter func188,ntmps188;go_wp2_with fail;go_call y.u as e d ⟨rfl,m,c,-,-⟩;have n:=Fr.box c.fr rfl F.u λk K=>(G.u k K).2;have N:=c.X.cell;have X:=c.X.frozen;have hq:∀i,d.cell? ⟨w.heap.size,i,none⟩=[.int .i64 a.kind,.string ⟨a.B.toArray⟩,.string ⟨a.space.toArray⟩,.string ⟨a.val.toArray⟩,.slice none 0 0][i]?:=λi=>by simp[World.cell?,n]
 have z:(bK s).C.length<=1000000000+1:=by unfold bK;split<;>simp<;>omega
 have O:w.heap.size+1<=d.heap.size:=by have:=c.fr.size;simpa using this
 have j:=(c.alloc (.cells #[.int .i64 a.kind,.string ⟨a.B.toArray⟩,.string ⟨a.space.toArray⟩,.string ⟨a.val.toArray⟩,.slice none 0 0] 65)).drew;have P:=Y (j.X.rows.own (fE (bK s) m)<|by simp[rowsOf]);have Q:=Y (show(d.alloc (.cells #[.int .i64 a.kind,.string ⟨a.B.toArray⟩,.string ⟨a.space.toArray⟩,.string ⟨a.val.toArray⟩,.slice none 0 0] 65)).drew.heap[d.heap.size]?=_ from dI d _);have t:=Y (show(bK s).C.length+1<=maxLen by unfold maxLen;omega);have v:=Y (show b - 1<=(d.alloc (.cells #[.int .i64 a.kind,.string ⟨a.B.toArray⟩,.string ⟨a.space.toArray⟩,.string ⟨a.val.toArray⟩,.slice none 0 0] 65)).drew.heap.size by have:=c.X.lt;simp;omega);have A:=Y (l.u.call j);have B:=c.X.lt;unfold cellsOf at N;clear c j n y l;go_wp2;go_region_law (refine tC _ rfl (.tmp 10) (.tmp 12) 29 rfl (b - 1) 65 H _ 5 80 underlying29 I o p q rfl (by decide) (.slice m.la (bK s).C.length m.lc) (bK s).C.length (dU m.es) (by simp[Act.eval]) P.u ⟨d.heap.size,0,none⟩ 1 1 (fP a (.slice none 0 0)) (by simp[Act.eval]) rfl (jT Q.u) (vD _ _ _ _) (by decide) t.u (by omega) v.u (d.heap.size+1) (by simp) ?_;intro g R w2 hown hgrow x C;obtain⟨S,T⟩:=tL (A.u.X.grown (r:=fE (bK s) m) hgrow<|by simp[rowsOf]);unfold cellsOf at S);all_goals
  go_wp2;go_end0
  exact⟨rfl,_,A.u.LH a D hown hgrow<|by simpa using x⟩
def VU(h:bC w b s L)(a:Ev)(K:a.f=s.f)(v:s.am=false)(hx:s.F.length<=1000000000000)(hl:s.C.length<=1000000000):
 Calls prog 188 #[.pointer (some ⟨b,26,none⟩),.agg #[.int .i64 a.kind,.string ⟨a.B.toArray⟩,.string ⟨a.space.toArray⟩,.string ⟨a.val.toArray⟩,.slice L.aa s.f.length L.ac]] w λe w' =>e=.returned (.tuple #[])/\∃N,Mv w b (aY s L) w' {aX s a with am:=true} N:=by
 have m:=(h.start).alloc (.cells #[.int .i64 a.kind,.string ⟨a.B.toArray⟩,.string ⟨a.space.toArray⟩,.string ⟨a.val.toArray⟩,.slice L.aa s.f.length L.ac] 65);have E:=Y (Gc m.X hx<|by omega);have p:=Y m;have O:=Y h.lt;have P:=Y h.jh;obtain⟨Q,R,x,y,z⟩:=lg yT;have f:(bK s).f=s.f:=by unfold bK;split<;>rfl
 have j:(bK s).am=false:=by unfold bK;split<;>exact v
 have HA:=Y f;have A:=Y j;clear h m f j;go_enter func188,ntmps188;go_wp2_with fail;go_call E.u as e l ⟨rfl,d,c,q,t⟩;have n:=Fr.box c.fr rfl O.u λk S=>(P.u k S).2;rw[<-q,<-t]at n;have T:=c.X.cell;have hf:=c.X.frozen;have hq:∀i,l.cell? ⟨w.heap.size,i,none⟩=[.int .i64 a.kind,.string ⟨a.B.toArray⟩,.string ⟨a.space.toArray⟩,.string ⟨a.val.toArray⟩,.slice d.aa s.f.length d.ac][i]?:=λi=>by simp[World.cell?,n]
 have F:(bK s).C.length<=1000000000+1:=by unfold bK;split<;>simp<;>omega
 have W:w.heap.size+1<=l.heap.size:=by have:=c.fr.size;simpa using this
 have o:=(c.alloc (.cells #[.int .i64 a.kind,.string ⟨a.B.toArray⟩,.string ⟨a.space.toArray⟩,.string ⟨a.val.toArray⟩,.slice d.aa s.f.length d.ac] 65)).drew;have X:=Y (o.X.rows.own (fE (bK s) d)<|by simp[rowsOf]);have HB:=Y (show(l.alloc (.cells #[.int .i64 a.kind,.string ⟨a.B.toArray⟩,.string ⟨a.space.toArray⟩,.string ⟨a.val.toArray⟩,.slice d.aa s.f.length d.ac] 65)).drew.heap[l.heap.size]?=_ from dI l _);have B:=Y (show(bK s).C.length+1<=maxLen by unfold maxLen;omega);have C:=Y (show b - 1<=(l.alloc (.cells #[.int .i64 a.kind,.string ⟨a.B.toArray⟩,.string ⟨a.space.toArray⟩,.string ⟨a.val.toArray⟩,.slice d.aa s.f.length d.ac] 65)).drew.heap.size by have:=c.X.lt;simp;omega);have G:=Y (p.u.call o);have H:=c.X.lt;unfold cellsOf at T;clear c o n E p q t;go_wp2;go_region_law (refine tC _ rfl (.tmp 10) (.tmp 12) 29 rfl (b - 1) 65 Q _ 5 80 underlying29 R x y z rfl (by decide) (.slice d.la (bK s).C.length d.lc) (bK s).C.length (dU d.es) (by simp[Act.eval]) X.u ⟨l.heap.size,0,none⟩ 1 1 (fP a (.slice d.aa s.f.length d.ac)) (by simp[Act.eval]) rfl (jT HB.u) (vD _ _ _ _) (by decide) B.u (by omega) C.u (l.heap.size+1) (by simp) ?_;intro g a0 w2 hown hgrow D I;obtain⟨hr,a1⟩:=tL (G.u.X.grown (r:=fE (bK s) d) hgrow<|by simp[rowsOf]);unfold cellsOf at hr);all_goals
  go_wp2;go_end0
  rw[<-HA.u]at hown;exact⟨rfl,_,G.u.Vy a (K.trans HA.u.symm) A.u hown hgrow<|by simpa using D⟩
def yU(h:bC w b s L):
 Calls prog 187 #[.pointer (some ⟨b,0,none⟩)] w λe w' =>e=.returned (.string ⟨s.i.toArray⟩)/\∃a,Mv w b (aY s L) w' (bH s) a:=by
 obtain⟨c,i,d⟩:=h.zzv;have f:=vC (h.rows.own (fV s L)<|by simp[rowsOf]);have g:=Y h;unfold cellsOf at c;clear h;go_enter func187,ntmps187;go_wp2;go_ret;exact⟨rfl,_,(g.u.start.VA).store 10 _ _ rfl rfl rfl⟩
def VW(h:bC w b s L)(hx:s.F.length<=1000000000000)(l:s.C.length<=1000000000000):
 Calls prog 80 #[.pointer (some ⟨b,26,none⟩)] w λe w' =>∃a,e=.returned (.slice a.la (bK s).C.length a.lc)/\(∃d,Mv w b (aY s L) d (bK s) a/\w' =d.setCell ⟨b,26,none⟩ (.slice none 0 0))/\∃g,Mv w b (aY s L) w' (qL s) g/\(∀k∈aY (qL s) g,k∉cZ (fE (bK s) a::a.es.map bR)):=by
 have i:=Y (Gc h hx l);clear h;go_enter func80,ntmps80;go_wp2_with fail;go_call i.u as e d ⟨rfl,a,c,-,-⟩;obtain⟨m,t,n⟩:=c.X.zzv;have f:=Y c;unfold cellsOf at m;clear c i;go_wp2;go_ret;refine⟨a,rfl,⟨d,f.u,rfl⟩,_,f.u.VC,?_⟩;have o:(rowsOf (bK s) a).Perm ((fE (bK s) a::a.es.map bR)++[eH (bK s) a,fV (bK s) a,eC (bK s) a,gN (bK s) a,fK (bK s) a,fW (bK s) a]):=by
  refine(tN _ _ _ _ _).trans (.cons _ ?_);exact(List.perm_append_comm (l₁:=[eH _ _,fV _ _,eC _ _,gN _ _,fK _ _,fW _ _]) (l₂:=a.es.map bR))
 have j:=((f.u.X.rows).perm o).nd;intro k p q;have r:cZ ((fE (bK s) a::a.es.map bR)++[eH (bK s) a,fV (bK s) a,eC (bK s) a,gN (bK s) a,fK (bK s) a,fW (bK s) a])=cZ (fE (bK s) a::a.es.map bR)++cZ [eH (bK s) a,fV (bK s) a,eC (bK s) a,gN (bK s) a,fK (bK s) a,fW (bK s) a]:=by unfold cZ;rw[yH]
 rw[r]at j;refine(List.nodup_append.1 j).2.2 k q k ?_ rfl;exact p
def A_(h:bC w b s L):
 Calls prog 189 #[.pointer (some ⟨b,0,none⟩)] w λe w' =>e=.returned (.tuple #[])/\Mv w b (aY s L) w' (iy s) L:=by
 obtain⟨f,i,g⟩:=h.zzv;have d:=Y h;unfold cellsOf at f;clear h;by_cases a:s.I.length=0
 .have e0:((s.I.length:Int)==0)=true:=by simp[a]
  have c:=Y a;clear a;go_enter func189,ntmps189;go_wp2;go_end0
  rw[iy,J c.u];exact⟨rfl,(d.u.start.store 4 (.int .i64 1) {s with H:=1} rfl rfl rfl).store 4 _ _ rfl rfl rfl⟩
 have e0:((s.I.length:Int)==0)=false:=akc;have c:=Y a;clear a;go_enter func189,ntmps189;go_wp2;go_end0
 rw[iy,M c.u];exact⟨rfl,(d.u.start.store 4 _ _ rfl rfl rfl)⟩
def VX(h:bC w b s L)(c:Int)(m:0<=c)(q:c<=255)(hx:s.F.length<=1000000000000)(o:s.i.length<=1000000000000)(j:0<=s.G)(k:s.G<=1000000000000):
 Calls prog 193 #[.pointer (some ⟨b,0,none⟩),.int .u8 c] w λe w' =>e=.returned (.int .i64 (fS s c).2)/\∃g,Mv w b (aY s L) w' (fS s c).1 g:=by
 have f:=Y (wZ h 1 j k (by decide) (by decide));have p:=Y λn=>yS (h.drewN n) c m (by omega) hx o j k;have l:=Y h;cases a:gb s 1
 .rw[a]at f;clear h;go_enter func193,ntmps193;go_wp2_with(go_at_call 137;go_call f.u as e w' ⟨rfl,n,rfl⟩);go_ret;simp only[fS,a];exact⟨rfl,L,l.u.start.drewN _⟩
 rw[a]at f;clear h;go_enter func193,ntmps193;go_wp2_with(first|(go_at_call 137;go_call f.u as e w' ⟨rfl,n,rfl⟩)|(go_at_call 130;go_call(p.u n)as e w' ⟨rfl,g,d⟩;have i:=Y d;clear d));go_ret;simp only[fS,a];exact⟨rfl,g,(l.u.start.drewN _).call i.u⟩
def LU(h:bC w b s L)(c l:Int)(n:0<=c)(f:l=0->c<=1114111)(hx:s.F.length<=1000000000000)(o:s.i.length<=1000000000000)(p:0<=s.G)(q:s.G<=1000000000000):
 Calls prog 128 #[.pointer (some ⟨b,0,none⟩),.agg #[.int .i64 c,.int .i64 l]] w λe w' =>e=.returned (.tuple #[])/\∃g,Mv w b (aY s L) w' (gD s (c,l)) g:=by
 obtain⟨r,y,t⟩:=h.zzv;have i:=((h.start.store 18 (.int .i64 c) {s with pc:=c} rfl rfl rfl).store 19 (.int .i64 l) {s with pc:=c,t:=l} rfl rfl rfl).alloc (.cells #[.int .i64 c,.int .i64 l] 87);have k:=Y i;have m:=Y λ(a:c<=1114111)=>yS i.X c n a hx o p q;unfold cellsOf at r;clear h i;by_cases a:l=0
 .have v:=f a;subst a;clear f;go_enter func128,ntmps128;go_wp2_with(go_at_call 130;go_call(m.u v)as e w' ⟨rfl,g,d⟩;have j:=Y d;clear d);go_end0
  exact⟨rfl,g,k.u.call j.u⟩
 have e0:=aj7 a;clear f m;go_enter func128,ntmps128;go_wp2;go_end0
 have x:gD s (c,l)={s with pc:=c,t:=l}:=by simp[gD,e0]
 rw[x];exact⟨rfl,L,k.u⟩
def VY(x:UInt8):wrap64 (x.toNat:Int)=(x.toNat:Int):=by
 have:=x.toNat_lt;rw[IntWalk.wrap64_in _<|by omega]
def Gd(x:UInt8):(0:Int)<=(x.toNat:Int)/\(x.toNat:Int)<=255:=by
 have:=x.toNat_lt;omega
def Gf(s:Z)(c:Int):(bV s c).F.length<=s.F.length+4/\(bV s c).i.length<=s.i.length+4/\s.G<=(bV s c).G/\(bV s c).G<=s.G+1:=by
 have:=encode_len c;unfold bV;split<;>simp<;>omega
def VZ(l:U)(x:UInt8):∀s,dW s (l++[x])=bV (dW s l) x.toNat:=by
 induction l with
 |nil=>intro s;rfl
 |cons y r ih=>intro s;exact ih _
def LV:∀(l:U) (s:Z),(dW s l).F.length<=s.F.length+4*l.length/\(dW s l).i.length<=s.i.length+4*l.length/\s.G<=(dW s l).G/\(dW s l).G<=s.G+l.length
 |[],s=>by simp[dW]
 |x::r,s=>by
  have a:=Gf s x.toNat;have b:=LV r (bV s x.toNat);simp only[dW,cT];omega
def V_(s:Z)(c:Int):(bV s c).D=s.D:=by unfold bV;split<;>rfl
def LW:∀(l:U) (s:Z),(dW s l).D=s.D
 |[],s=>rfl
 |x::r,s=>by simp only[dW];rw[LW r,V_]
def Wd(s:Z)(k:Nat)(a:s.D.length<=100)(hx:s.F.length<=100000000000)(b:s.i.length<=100000000000)(c:0<=s.G)(d:s.G<=100000000000):
 (dW s (s.D.take k)).F.length<=1000000000000/\(dW s (s.D.take k)).i.length<=1000000000000/\0<=(dW s (s.D.take k)).G/\(dW s (s.D.take k)).G<=1000000000000:=by
 have e:=LV (s.D.take k) s;have f:(s.D.take k).length<=100:=by rw[iB];omega
 omega
def Wh(b:Int)(a:0<=b)(c:b<=255)(p:Int×Int)(h:eF b=some p):0<=p.1/\p.1<=255/\0<=p.2/\p.2<=3:=by
 unfold eF at h;repeat' split at h
 all_goals first|(cases h;simp;omega)|cases h
def Wi(h:bC w b s L)(x:Int)(h0:0<=x)(h1:x<=255)(hh:s.D.length<=100)(hx:s.F.length<=100000000000)(ht:s.i.length<=100000000000)(c0:0<=s.G)(c1:s.G<=100000000000):
 Calls prog 134 #[.pointer (some ⟨b,0,none⟩),.int .u8 x] w λe w' =>e=.returned (.int .i64 (cV s x).2)/\∃L', Mv w b (aY s L) w' (cV s x).1 L' :=by
 have E:=Y (VP x h0 h1 w);have HM:=Y h;cases H:eF x with
 |none=>
  rw[H]at E;have g:=h.lt;clear h;simp only[cV,H];go_enter func134,ntmps134;go_wp2_with(go_at_call 186;go_call E.u as e o ⟨rfl,a⟩);go_ret;exact⟨rfl,L,((HM.u.start.below a).alloc _)⟩
 |some p=>
  have N:=Wh x h0 h1 p H;obtain⟨I,K⟩:=p;rw[H]at E;cases q:gb s (s.D.length+1)
  .have t:cV s x=(s,7):=by simp[cV,H,q]
   rw[t];clear t;go_enter func134,ntmps134;go_wp2_with fail;go_call E.u as e o ⟨rfl,a⟩;have c:=(HM.u.start.below a);obtain⟨C,hf,g⟩:=c.X.zzv;have d:=c.alloc (.cells #[.int .i64 I,.int .i64 K] 87);have O:=Y (wZ d.X (s.D.length+1) c0 (by omega) (by omega) (by omega));have y:=Y d;unfold cellsOf at C;clear c d h E;rw[q]at O;go_wp2_with(go_at_call 137;go_call O.u as e w' ⟨rfl,n,rfl⟩);go_ret;exact⟨rfl,L,y.u.drewN _⟩
  obtain⟨r,t⟩:=aj8 (gD {dW s s.D with D:=[]} (I,K));have P:cV s x=(r,0):=by rw[t];simp[cV,H,q]
  rw[P];have HR:=Y t;clear t P;go_enter func134,ntmps134;go_wp2_with fail;go_call E.u as e o ⟨rfl,a⟩;have c:=(HM.u.start.below a);obtain⟨C,hf,g⟩:=c.X.zzv;have d:=c.alloc (.cells #[.int .i64 I,.int .i64 K] 87);have f:o.heap.size∉aY s L:=λj=>by have:=(c.X.jh _ j).2;omega
  have O:=Y (wZ d.X (s.D.length+1) c0 (by omega) (by omega) (by omega));have y:=Y d;have a2:=Y f;unfold cellsOf at C;clear c d h E f;rw[q]at O;go_wp2_with(go_at_call 137;go_call O.u as e w' ⟨rfl,n,rfl⟩);clear C hf;go_loopw [7] (λi w' =>∃k:Nat,k<=s.D.length/\i=.int .i64 k/\o.heap.size<w'.heap.size/\w'.heap[o.heap.size]?=some (.cells #[.int .i64 I,.int .i64 K] 87 (0,0))/\∃L', Mv w b (aY s L) w' (dW s (s.D.take k)) L' /\o.heap.size∉aY (dW s (s.D.take k)) L') λi _=>s.D.length - (intOf i).toNat
  case atStart=>
   refine⟨0,by omega,rfl,by simp,?_,L,y.u.drewN _,a2.u⟩;rw[heap_drewN];exact dI o _
  case round=>
   obtain⟨k,hk,rfl,a3,z,L1,j,f⟩:=hrel;have a4:=LW (s.D.take k) s;obtain⟨Q,R,S,T⟩:=Wd s k hh hx ht c0 c1;by_cases g:k<s.D.length
   .have l:=VZ (s.D.take k) s.D[k] s;rw[<-um g]at l;generalize dW s (s.D.take k)=s1 at *;generalize W:dW s (s.D.take (k+1))=s2 at *;have a5:=Y W;have X:=Y l;obtain⟨v,hv⟩:∃v:Int,v=(s.D[k].toNat:Int):=⟨_,rfl⟩;have a0:0<=v/\v<=255:=by rw[hv];exact Gd _
    have hw:wrap64 (((⟨s.D.toArray⟩:ByteArray)[k]'(by simpa[ByteArray.size]using g)).toNat:Int)=v:=by
     rw[VY,hv];rfl
    rw[<-hv]at l;have HP:=Y (yS j.X v a0.1 (uF a0.2<|by decide) Q R S T);have C:=j.X.cell;have a6:=Y j;have D:=Y f;have a7:=Y z;have ad:=Y j.X.lt;have X:=Y l;unfold cellsOf at C;clear j f z W l hv Q R S T;go_wp2_with(go_at_call 130;go_call HP.u as e w3 ⟨rfl,L3,m⟩;have F:=Y m;clear m);go_roundw
    case rel=>
     have e1:dW s (s.D.take (k+1))=bV s1 v:=a5.u.trans X.u;have A:=F.u;refine⟨k+1,by omega,by go_num,?_,?_,L3,?_,?_⟩
     .have:=A.fr.size;omega
     .rw[A.fr.block _ a3 (by omega) D.u];exact a7.u
     .rw[e1];exact a6.u.call A
     rw[e1];intro B;obtain B|B:=A.fr.aY _ B
     .exact D.u B
     omega
    case measure=>simp[intOf];omega
   have a1:s.D.take k=s.D:=nZ (by omega);rw[a1]at j f a4 Q R S T;have t:=HR.u;generalize dW s s.D=s1 at *;have G:=j.store 15 (.string ⟨#[]⟩) {s1 with D:=[]} rfl rfl rfl;have HP:=Y (LU G.X I K N.1 (λ_=>uF N.2.1<|by decide) Q R S T);have a8:=Y G;obtain⟨C,hf,ae⟩:=j.X.zzv;have hq:∀i,wr.cell? ⟨o.heap.size,i,none⟩=[.int .i64 I,.int .i64 K][i]?:=λi=>by simp[World.cell?,z]
   have a9:o.heap.size≠b:=by
    have:=y.u.X.lt;have h9:=a.size;have h8:=HM.u.lt;omega
   have ab:=aj7 a9;have aa:=Y t;have e0:decide ((k:Int)<(s.D.length:Int))=false:=aj9;unfold cellsOf at C;clear j f z G t Q R S T a1;go_wp2_with(go_at_call 128;go_call HP.u as e w3 ⟨rfl,L3,m⟩;have F:=Y m;clear m);go_ret;rw[aa.u];exact⟨rfl,L3,a8.u.call F.u⟩
def LZ{c:Int}(h:eX c=true):0<=c/\c<=1114111:=by
 unfold eX at h;repeat' split at h
 all_goals simp at h
 all_goals omega
def Pt(c l:Int):Prop:=0<=c/\0<=l/\l<=3/\(l=3->c<=7)/\(l=2->c<=271)/\(l=1->c<=17407)/\c<=1114111
def Wo{b:Int}{p:Int×Int}(a:0<=b)(c:b<=255)(h:eF b=some p):Pt p.1 p.2:=by
 unfold eF at h;repeat' split at h
 all_goals first|(cases h;simp[Pt];omega)|cases h
def L_{c l b:Int}{p:Int×Int}(e:Pt c l)(g:0<l)(h:eO c l b=some p):Pt p.1 p.2:=by
 obtain⟨i,j,k,m,n,o,q⟩:=e;unfold eO at h;split at h
 .cases h
 split at h
 .rename_i a;cases h;simp only[Pt];unfold Mk.gU at a;split at a
  .rename_i d;simp at a d;omega
  split at a
  .rename_i d;simp at a d;omega
  have:=LZ a;rename_i f d;simp at d f;omega
 cases h
def Wp(h:bC w b s L)(x:Int)(y:0<=x)(z:x<=255)(c:Pt s.pc s.t)(A:0<s.t)(hx:s.F.length<=100000000000)(B:s.i.length<=100000000000)(C:0<=s.G)(D:s.G<=100000000000):
 Calls prog 93 #[.pointer (some ⟨b,0,none⟩),.int .u8 x] w λe w' =>e=.returned (.int .i64 (fT s x).2)/\∃E,Mv w b (aY s L) w' (fT s x).1 E:=by
 have j:=Y (LR s.pc s.t x y z c.1 (uF c.2.2.2.2.2.2<|by decide) c.2.1 c.2.2.1 w);have t:=Y h;have v:=h.cell;have F:=h.lt;unfold cellsOf at v;cases g:eO s.pc s.t x with
 |none=>
  rw[g]at j;have i:fT s x=(s,2):=by simp[fT,g]
  rw[i];clear h i c;go_enter func93,ntmps93;go_wp2_with(go_at_call 127;go_call j.u as e G ⟨rfl,a⟩);go_ret;exact⟨rfl,L,((t.u.start.below a).alloc _)⟩
 |some p=>
  have d:=L_ c A g;obtain⟨m,n⟩:=p;rw[g]at j;obtain⟨r,i⟩:=aj8 (gD s (m,n));have k:fT s x=(r,0):=by rw[i];simp[fT,g]
  rw[k];have H:=Y i;clear i k g h;go_enter func93,ntmps93;go_wp2_with fail;go_call j.u as e G ⟨rfl,a⟩;have f:=(t.u.start.below a).alloc (.cells #[.int .i64 m,.int .i64 n] 87);have I:=Y (LU f.X m n d.1 (λ_=>d.2.2.2.2.2.2) (cL hx) (cL B) C (uF D<|by decide));have o:=Y f;clear f v d j c;go_wp2_with(go_at_call 128;go_call I.u as e N ⟨rfl,K,l⟩;have q:=Y l;clear l);go_ret;rw[H.u];exact⟨rfl,K,o.u.call q.u⟩
def Wr(h:bC w b s L)(x:Int)(E:0<=x)(F:x<=255)(C:Gl w)(G:2<b)(H:s.rn.length<=20)(I:0<=s.rc)(K:s.rc<=1114111)(hx:s.F.length<=100000000000)(N:s.i.length<=100000000000)(O:0<=s.G)(P:s.G<=100000000000)
 (t:∀r,dJ ⟨s.rp,s.rn,s.rc⟩ x=some r->0<=r.code/\r.code<=1114111):
 Calls prog 95 #[.pointer (some ⟨b,0,none⟩),.int .u8 x] w λe w' =>e=.returned (.int .i64 (fD s x).2)/\∃Q,Mv w b (aY s L) w' (fD s x).1 Q:=by
 have R:=h.lt;have l:=Y (Wn s.rp s.rn s.rc x E F H I K w C<|by omega);have y:=Y h;have z:=h.cell;unfold cellsOf at z;clear C;cases k:dJ ⟨s.rp,s.rn,s.rc⟩ x with
 |none=>
  rw[k]at l;have o:fD s x=(s,4):=by simp[fD,k]
  rw[o];clear h o t;go_enter func95,ntmps95;go_wp2_with(go_at_call 129;go_call l.u as e D ⟨rfl,a⟩;simp only[eM,jk,Option.map_none,Option.getD_none,Option.isSome_none]);go_ret;exact⟨rfl,L,((y.u.start.below a).alloc _)⟩
 |some r=>
  have g:=t r k;obtain⟨rp,rn,c⟩:=r;rw[k]at l;simp only at g;cases v:Mk.aZ rp
  .obtain⟨r,o⟩:=aj8 (bV (kZ s ⟨rp,rn,c⟩) c);have i:fD s x=(r,0):=by rw[o];simp[fD,k,v]
   rw[i];have S:=Y o;clear o i k h t;go_enter func95,ntmps95;go_wp2_with fail;go_call l.u as e D ⟨rfl,a⟩;simp only[eM,jk,FR,AK,Option.isSome_some];have d:=y.u.start.below a;obtain⟨m,A,p⟩:=d.X.zzv;have j:=((((d.store 20 (.int .i64 rp) {s with rp:=rp} rfl rfl rfl).store 21 (.string ⟨rn.toArray⟩) {s with rp:=rp,rn:=rn} rfl rfl rfl).store 22 (.int .i64 c) (kZ s ⟨rp,rn,c⟩) rfl rfl rfl).alloc (.cells #[.int .i64 rp,.string ⟨rn.toArray⟩,.int .i64 c] 89));have f:=(j.alloc (.cells #[.int .i64 rp,.string ⟨rn.toArray⟩,.int .i64 c] 89)).alloc (.cells #[.int .i64 rp,.string ⟨rn.toArray⟩,.int .i64 c] 89);have T:=Y (yS f.X c g.1 g.2 (cL hx) (cL N) O (uF P<|by decide));have n:=Y f;have q:=Y λw=>Gg rp rn c w;rw[v]at q;unfold cellsOf at m;clear d j f z g l
   go_wp2_with(first
    |(go_at_call 94;go_call(q.u _)as e w2 ⟨rfl,rfl⟩)
    |(go_at_call 131;go_call(Wj _ _ _ _)as e w2 ⟨rfl,rfl⟩)
    |(go_at_call 130;go_call T.u as e X ⟨rfl,W,f⟩;have B:=Y f;clear f))
   go_ret;rw[S.u];exact⟨rfl,W,n.u.call B.u⟩
  have i:fD s x=(kZ s ⟨rp,rn,c⟩,0):=by simp[fD,k,v]
  rw[i];clear i k h t;go_enter func95,ntmps95;go_wp2_with fail;go_call l.u as e D ⟨rfl,a⟩;simp only[eM,jk,FR,AK,Option.isSome_some];have d:=y.u.start.below a;obtain⟨m,A,p⟩:=d.X.zzv;have j:=((((d.store 20 (.int .i64 rp) {s with rp:=rp} rfl rfl rfl).store 21 (.string ⟨rn.toArray⟩) {s with rp:=rp,rn:=rn} rfl rfl rfl).store 22 (.int .i64 c) (kZ s ⟨rp,rn,c⟩) rfl rfl rfl).alloc (.cells #[.int .i64 rp,.string ⟨rn.toArray⟩,.int .i64 c] 89));have n:=Y (j.alloc (.cells #[.int .i64 rp,.string ⟨rn.toArray⟩,.int .i64 c] 89));have q:=Y λw=>Gg rp rn c w;rw[v]at q;unfold cellsOf at m;clear d j z g l;go_wp2_with(go_at_call 94;go_call(q.u _)as e w2 ⟨rfl,rfl⟩);go_ret;exact⟨rfl,L,n.u⟩
structure Bd(s:Z):Prop where
 hx:s.F.length<=100000000
 ht:s.i.length<=100000000
 c0:0<=s.G
 c1:s.G<=100000000
 hl:s.C.length<=700000000
 ho:s.I.length<=100000000
 ha:s.f.length<=32
 hh:s.D.length<=2
 pt:Pt s.pc s.t
 rn:s.rn.length<=5
 r0:0<=s.rc
 r1:s.rc<=1114111
 m0:0<=s.aW
 m1:s.aW<=100000000
 am:s.am=false
 hb:s.m.length<=290000000
 hc:s.T.length<=100000000
 cb:∀c∈s.T,c<=32
 hn:s.B.length<=100000000
 an:∀a∈s.f,a.B.length<=100000000
def Does(w:World)(b:Nat)(s:Z)(L:Lay)(r:Z×Int)(e:Ending)(w' :World):Prop:=
 e=.returned (.int .i64 r.2)/\∃a,Mv w b (aY s L) w' r.1 a
def vE(h:bC w b s L)(a:Bd s)(x:Int)(c:0<=x)(d:x<=255):
 Calls prog 134 #[.pointer (some ⟨b,0,none⟩),.int .u8 x] w (Does w b s L (cV s x)):=
 Wi h x c d (by have:=a.hh;omega) (by have:=a.hx;omega) (by have:=a.ht;omega) a.c0 (by have:=a.c1;omega)
def Ws(h:bC w b s L)(x:Int):
 Calls prog 141 #[.pointer (some ⟨b,0,none⟩),.int .u8 x] w (Does w b s L (iO s x)):=by
 obtain⟨f,i,g⟩:=h.zzv;have e:=Y h;unfold cellsOf at f;clear h;cases a:(x==45)
 .have c:iO s x=(s,3):=by simp[iO,a]
  rw[c];have d:(x !=45)=true:=by simp at a⊢;exact a
  go_enter func141,ntmps141;go_wp2;go_ret;exact⟨rfl,L,e.u.start⟩
 have c:iO s x=({s with H:=7},0):=by simp[iO,a]
 rw[c];have d:(x !=45)=false:=by simp at a⊢;exact a
 go_enter func141,ntmps141;go_wp2;go_ret;exact⟨rfl,L,e.u.start.store 4 _ _ rfl rfl rfl⟩
def Wt(h:bC w b s L)(l:Bd s):
 Calls prog 135 #[.pointer (some ⟨b,0,none⟩)] w λe w' =>e=.returned (.tuple #[])/\∃p,Mv w b (aY s L) w' (mS s) p:=by
 obtain⟨m,q,r⟩:=h.zzv;have a:=h.start.store 15 (.string ⟨#[]⟩) {s with D:=[]} rfl rfl rfl;have n:=Y (yU a.X);have f:=Y a;unfold cellsOf at m;clear h a;go_enter func135,ntmps135;go_wp2_with fail;go_call n.u as e x ⟨rfl,y,c⟩;have o:=Y (add_nil c.X ⟨4,[],[],s.i,[]⟩ rfl (cL l.hx) (cL l.hl));have g:=Y (f.u.call c);clear c n f m q;go_wp2_with fail;go_call o.u as e w2 ⟨rfl,t,d⟩;have v:=Y (A_ d.X);have j:=Y (g.u.call d);clear d o g;go_wp2_with(go_at_call 189;go_call v.u as e z ⟨rfl,i⟩;have k:=Y i;clear i);go_end0
 exact⟨rfl,t,j.u.call k.u⟩
def Ma(l:U)(x:UInt8):(⟨l.toArray⟩:ByteArray)++(⟨#[x]⟩:ByteArray)=⟨(l++[x]).toArray⟩:=by
 apply rF;simp
def Wu(h:bC w b s L)(f:Bd s)(x:Int)(p:0<=x)(q:x<=255):
 Calls prog 99 #[.pointer (some ⟨b,0,none⟩),.int .u8 x] w (Does w b s L (fu s x)):=by
 obtain⟨r,y,t⟩:=h.zzv;have z:=f.hh;have m:=Y h;have j:=Y (Wt h f);have k:=Y (vE h f x p q);have n:=Ma s.D 45;unfold cellsOf at r;clear h;cases o:(s.D==[45,45]);focus
  have d:s.D≠[45,45]:=by simpa using o
  cases i:(x==45);focus
   have a:fu s x=cV s x:=by
    have:x≠45:=by simpa using i
    simp[fu,d,this]
   rw[a];clear a d j f
  rotate_left;focus
   have a:fu s x=({s with D:=s.D++[45]},0):=by
    have:x=45:=by simpa using i
    simp[fu,d,this]
   rw[a];clear a d j f k
 rotate_left 2;focus
  have d:s.D=[45,45]:=by simpa using o
  cases i:(x==62);focus
   have a:fu s x=(s,3):=by
    have:x≠62:=by simpa using i
    simp[fu,d,this]
   rw[a];clear a d j f k
  rotate_left;focus
   have a:fu s x=(mS s,0):=by
    have:x=62:=by simpa using i
    simp[fu,d,this]
   rw[a];clear a d f k
 all_goals
  go_enter func99,ntmps99;first
   |(go_wp2_with(go_at_call 134;go_call k.u as e v ⟨rfl,l,c⟩;have g:=Y c;clear c);go_ret;exact⟨rfl,l,g.u⟩)
   |(go_wp2;go_ret;exact⟨rfl,L,m.u.start.store 15 _ _ rfl rfl rfl⟩)
   |(go_wp2;go_ret;exact⟨rfl,L,m.u.start⟩)
   |(go_wp2_with(go_at_call 135;go_call j.u as e v ⟨rfl,l,c⟩;have g:=Y c;clear c);go_ret;exact⟨rfl,l,g.u⟩)
def Ba{g:Type}(a b c d e f:g)(l:List g):(a::b::c::d::e::f::l).Perm (f::a::b::c::d::e::l):=((AV b c d e f l).cons a).trans (pY a f _)
def Dp{h:Type}(a b c d e f g:h)(l:List h):(a::b::c::d::e::f::g::l).Perm (g::a::b::c::d::e::f::l):=((Ba b c d e f g l).cons a).trans (pY a g _)
section
variable {w0 w w' :World}{b:Nat}{f0:List Nat}{s:Z}{L:Lay}
def Mv.Wv(m:Mv w0 b f0 w s L)(x:U×U){g a:Nat}(hown:w'.ownsRow (b - 1) 139 2 (.slice (some ⟨g,0,none⟩) (s.m.length+1) a) (s.m.length+1) (jM s.m++uH x))
 (d:w.grownBy w' (fK s L).v.ownBlock) (c:(Value.slice L.ba s.m.length L.bc).ownBlock=some g\/g=w.heap.size):
 Mv w0 b f0 (w'.setCell ⟨b,7,none⟩ (.slice (some ⟨g,0,none⟩) (s.m.length+1) a)) {s with m:=s.m++[x]} {L with ba:=some ⟨g,0,none⟩,bc:=a}:=by
 refine m.grow (r:=fK s L) (r' :=fK {s with m:=s.m++[x]} {L with ba:=some ⟨g,0,none⟩,bc:=a}) (rs:=eH s L::fV s L::eC s L::fE s L::gN s L::fW s L::L.es.map bR) 7 _ (Ba _ _ _ _ _ _ _) (Ba _ _ _ _ _ _ _) ?_ d ?_ ?_ m.X.evs
 .show World.ownsRow _ _ _ _ _ _ _;simp only[fK,bT,cT,fB,jV,jM,nB,mQ,Ay,aj1];exact hown
 .rcases c with h|h
  .exact .inl h.symm
  exact .inr (by rw[h];rfl)
 simp[cellsOf]
def Mv.Ww(m:Mv w0 b f0 w s L)(x:Nat){g a:Nat}(hown:w'.ownsRow (b - 1) 3 1 (.slice (some ⟨g,0,none⟩) (s.T.length+1) a) (s.T.length+1) (s.T.map nv++[.int .i64 (x:Int)]))
 (d:w.grownBy w' (fW s L).v.ownBlock) (c:(Value.slice L.ca s.T.length L.cc).ownBlock=some g\/g=w.heap.size):
 Mv w0 b f0 (w'.setCell ⟨b,8,none⟩ (.slice (some ⟨g,0,none⟩) (s.T.length+1) a)) {s with T:=s.T++[x]} {L with ca:=some ⟨g,0,none⟩,cc:=a}:=by
 refine m.grow (r:=fW s L) (r' :=fW {s with T:=s.T++[x]} {L with ca:=some ⟨g,0,none⟩,cc:=a}) (rs:=eH s L::fV s L::eC s L::fE s L::gN s L::fK s L::L.es.map bR) 8 _ (Dp _ _ _ _ _ _ _ _) (Dp _ _ _ _ _ _ _ _) ?_ d ?_ ?_ m.X.evs
 .show World.ownsRow _ _ _ _ _ _ _;simp only[fW,bT,cT,fB,jV,mP,lf,qO];exact hown
 .rcases c with h|h
  .exact .inl h.symm
  exact .inr (by rw[h];rfl)
 simp[cellsOf]
end
theorem Mb:(prog.info? 139).map (λi=>(i.zero,i.size,i.bytes))=some (some (.agg #[.string ByteArray.empty,.string ByteArray.empty]),2,32):=by kernel_rfl
theorem Wx:(prog.info? 3).map (λi=>(i.zero,i.size,i.bytes))=some (some (.int .i64 0),1,8):=by kernel_rfl
def Mc(p:U×U):∀u∈uH p,u.oneCell' =true:=by
 intro u a;simp[uH]at a;obtain rfl|rfl:=a<;>rfl
structure Gi(w:World)(b:Nat)(s:Z)(L:Lay)(ou:List (U×U)×Nat×Bool)(wx:World)(bn:List (U×U))(c i:Nat)(L1:Lay):Prop where
 mv:Mv w b (aY s L) wx {s with m:=bn} L1
 ea:L1.aa=L.aa
 ec:L1.ac=L.ac
 fin:ou=iG (s.f.drop i) bn c
 le:bn.length<=s.m.length+i
 ce:c<=i
def Me(h:bC w b s L)(a:s.am=false)(k:Nat)(d:k<s.f.length):
 ∃g,L.aa=some ⟨g,0,none⟩/\g<w.heap.size/\w.cell? ⟨g,k*3,none⟩=some (.string ⟨s.f[k].B.toArray⟩)/\w.cell? ⟨g,k*3+1,none⟩=some (.string ⟨s.f[k].space.toArray⟩)/\w.cell? ⟨g,k*3+2,none⟩=some (.string ⟨s.f[k].val.toArray⟩):=by
 have hrow:=h.rows.own (eC s L) (by simp[rowsOf]);have e:eC s L=⟨69,3,.slice L.aa s.f.length L.ac,s.f.length,cQ s.f⟩:=by simp[eC,a]
 rw[e]at hrow;obtain⟨g,f,i,c⟩:=vB (m:=3) (l:=s.f) gG (λ_=>rfl) (by decide) hrow k d;exact⟨g,f,i,c 0<|by decide,c 1<|by decide,c 2<|by decide⟩
def Wy(h:bC w b s L)(R:Bd s):
 Calls prog 239 #[.pointer (some ⟨b,7,none⟩),.slice L.aa s.f.length L.ac] w λe w' =>e=.returned (.bool (cG s).2)/\∃L', Mv w b (aY s L) w' (cG s).1 L' /\L'.aa=L.aa/\L'.ac=L.ac:=by
 obtain⟨d,q⟩:=aj8 (iG s.f s.m 0);obtain⟨F,t⟩:=aj8 (cG s);have hd:F=if d.2.2 then({s with m:=d.1,T:=s.T++[d.2.1]},true)else({s with m:=d.1},false):=by rw[t,q];rfl
 rw[<-t];have HD:=Y hd;have HI:Hid (Gi w b s L d w s.m 0 0 L):=⟨h.start,rfl,rfl,q,by omega,by omega⟩;have a0:=Y R.am;have S:=Y R.an;have al:=R.hb;have ao:=R.hc;have ap:=R.ha;have aq:=h.lt;obtain⟨i0,hi,a1,a2,a3⟩:=lg Mb;obtain⟨j0,ji,a4,a5,a6⟩:=lg Wx;obtain⟨aa,G⟩:=aj8 L.aa;rw[<-G];have H:=Y G;clear h q hd R G t;go_enter func239,ntmps239;go_wp2_with fail;go_loopg [5,6,7] s.f.length λg s5 s6 s7 wx=>∃(A:World) (f:List (U×U)) (c i:Nat) (p:Lay),A=wx/\i<=s.f.length/\g=s.f.length - i/\s5=.int .i64 (c:Int)/\s6=.int .i64 (i:Int)/\Hid (Gi w b s L d A f c i p);case atStart=>exact⟨w,s.m,0,0,L,rfl,by omega,rfl,rfl,rfl,HI⟩
 case round=>
  obtain⟨A,f,c,i,p,a7,ah,rfl,rfl,rfl,a⟩:=hrel;subst a7;clear HI;have ar:=a.u.ce;have ai:=a.u.le;have aj:=a.u.mv.X.lt;by_cases h3:i<s.f.length
  .have e1:decide ((i:Int)<(s.f.length:Int))=true:=aj_;have au:(i:Int)<(s.f.length:Int):=by omega
   obtain⟨g,hg,av,c0,c1,c2⟩:=Me a.u.mv.X a0.u i h3;rw[a.u.ea,<-H.u]at hg;have HP:=Y λw=>LM s.f[i].B (S.u _ (iZ h3)) w;have a8:=Y λw=>VK s.f[i].B (S.u _ (iZ h3)) w;have m:=a.u.fin;rw[gB h3]at m;unfold iG at m;dsimp only at c0 c1 c2;generalize s.f[i].B=n at *;generalize s.f[i].val=v at *;clear c1;subst hg;cases e2:Mk.jJ n
   .rw[e2]at HP m;simp only[jC,bY]at m;have a9:Hid (Gi w b s L d A f c (i+1) p):=⟨a.u.mv,a.u.ea,a.u.ec,m,by omega,by omega⟩;clear m a;go_wp2_with(go_at_call 245;go_call(HP.u _)as e B ⟨rfl,rfl⟩);go_roundg (s.f.length - (i+1));case measure=>omega
    case rel=>exact⟨_,f,c,i+1,p,rfl,by omega,rfl,rfl,by simp,a9⟩
   rw[e2]at HP m;simp only[gz,cK,cE]at m;have HG:=Y λw=>VL (kP n) v w;generalize kP n=o at *;have D:=Y m;clear m;go_wp2_with(go_at_call 245;go_call(HP.u _)as e B ⟨ab,ad⟩;subst ab;subst ad);go_cut [7] λs7 wz=>s7=.pointer (some ⟨B.heap.size,0,none⟩)/\wz=(B.alloc (.cells #[.string ⟨o.toArray⟩,.string ⟨v.toArray⟩] 139)).drew
   case first=>
    go_region_with (go_at_call 246;go_call(a8.u _)as e B ⟨rfl,rfl⟩);all_goals
     go_wp2_with fail;go_meet
     exact⟨rfl,rfl⟩
   case rest=>
   obtain⟨rfl,rfl⟩:=hcut;cases e3:Mk.oV o v
   .rw[e3]at HG;have hfin:d=(f,c,false):=by have:=D.u;rw[e3]at this;simpa using this
    have T:=(a.u.mv.alloc (.cells #[.string ⟨o.toArray⟩,.string ⟨v.toArray⟩] 139)).drew;have C:=Y (ajN T (ajN a.u.ea a.u.ec));have I:=Y hfin;clear T hfin D a;go_wp2_with(go_at_call 247;go_call(HG.u _)as e w2 ⟨rfl,x⟩);go_ret;have hA:F=({s with m:=f},false):=by rw[HD.u,I.u];rfl
    rw[hA];have C:=C.u;exact⟨rfl,p,C.1.below x,by rw[C.2.1,<-H.u],C.2.2⟩
   rw[e3]at HG;have hfin:d=iG (s.f.drop (i+1)) (f++[(o,v)]) (c+1):=by have:=D.u;rw[e3]at this;simpa using this
   have T:=(a.u.mv.alloc (.cells #[.string ⟨o.toArray⟩,.string ⟨v.toArray⟩] 139)).drew;have E:(B.alloc (.cells #[.string ⟨o.toArray⟩,.string ⟨v.toArray⟩] 139)).drew.heap[B.heap.size]?=some (.cells #[.string ⟨o.toArray⟩,.string ⟨v.toArray⟩] 139 (0,0)):=dI B _;have C:=Y (ajN T (ajN a.u.ea (ajN a.u.ec E)));have I:=Y hfin;clear T hfin D a E;go_wp2_with(go_at_call 247;go_call(HG.u _)as e w2 ⟨rfl,x⟩);have k:=C.u.1.below x;have K:=(x.block B.heap.size<|by simp).trans C.u.2.2.2;have hq:∀j,w2.cell? ⟨B.heap.size,j,none⟩=[.string ⟨o.toArray⟩,.string ⟨v.toArray⟩][j]?:=λj=>by simp[World.cell?,K]
   obtain⟨N,ae,W⟩:=k.X.zzv;have ak:B.heap.size<w2.heap.size:=(Array.getElem?_eq_some_iff.1 K).1;have l:=(k.alloc (.cells #[.string ⟨o.toArray⟩,.string ⟨v.toArray⟩] 139)).drew;have HO:=Y (l.X.rows.own (fK {s with m:=f} p) (by simp[rowsOf]));have HB:=Y (show(w2.alloc (.cells #[.string ⟨o.toArray⟩,.string ⟨v.toArray⟩] 139)).drew.heap[w2.heap.size]?=_ from dI w2 _);have O:=Y (show f.length+1<=maxLen by unfold maxLen;omega);have P:=Y (show b - 1<=(w2.alloc (.cells #[.string ⟨o.toArray⟩,.string ⟨v.toArray⟩] 139)).drew.heap.size by simp;omega);have y:=Y l;unfold cellsOf at N;clear k l K x;go_region_law (refine tC _ rfl (.tmp 40) (.tmp 42) 83 rfl (b - 1) 139 i0 _ 2 32 underlying83 hi a1 a2 a3 rfl (by decide) (.slice p.ba f.length p.bc) f.length (jM f) (by simp[Act.eval]) HO.u ⟨w2.heap.size,0,none⟩ 1 1 (uH (o,v)) (by simp[Act.eval]) rfl (jT HB.u) (Mc _) (by decide) O.u (by omega) P.u (w2.heap.size+1) (by simp) ?_;intro g2 af w3 hown hgrow z X;obtain⟨hr,ag⟩:=tL (y.u.X.grown (r:=fK {s with m:=f} p) hgrow (by simp[rowsOf]));unfold cellsOf at hr);all_goals
    have Q:=Y (y.u.Wv (o,v) hown hgrow<|by simpa using z);clear hown hgrow z;go_wp2;go_roundg (s.f.length - (i+1));case measure=>omega
    case rel=>exact⟨_,f++[(o,v)],c+1,i+1,_,rfl,by omega,rfl,by simp,by simp,⟨Q.u,C.u.2.1,C.u.2.2.1,I.u,by simp;omega,by omega⟩⟩
  have e1:decide ((i:Int)<(s.f.length:Int))=false:=aj9;have m:=a.u.fin;rw[iF]at m;have hA:F=({s with m:=f,T:=s.T++[c]},true):=by rw[HD.u,m];rfl
  have HA:=Y hA;have k:=a.u.mv;obtain⟨N,ae,W⟩:=k.X.zzv;have l:=k.alloc (.cells #[.int .i64 (c:Int)] 3);have HO:=Y (l.X.rows.own (fW {s with m:=f} p) (by simp[rowsOf]));have HB:=Y (show(A.alloc (.cells #[.int .i64 (c:Int)] 3)).heap[A.heap.size]?=_ from dI A _);have O:=Y (show s.T.length+1<=maxLen by unfold maxLen;omega);have P:=Y (show b - 1<=(A.alloc (.cells #[.int .i64 (c:Int)] 3)).heap.size by simp;omega);have y:=Y l;unfold cellsOf at N;clear k l m hA;go_wp2_with(at_builtin;refine lI _ rfl (.tmp 52) (.tmp 54) 26 rfl (b - 1) 3 j0 _ 1 8 underlying26 ji a4 a5 a6 rfl (by decide) (.slice p.ca s.T.length p.cc) s.T.length (s.T.map nv) (by simp[Act.eval]) HO.u ⟨A.heap.size,0,none⟩ 1 1 [.int .i64 (c:Int)] (by simp[Act.eval]) rfl (jT HB.u) (by intro u hu;simp at hu;subst hu;rfl) (by decide) O.u (by omega) P.u (A.heap.size+1) (by simp) ?_;intro g2 af w3 hown hgrow z X;obtain⟨hr,ag⟩:=tL (y.u.X.grown (r:=fW {s with m:=f} p) hgrow (by simp[rowsOf]));unfold cellsOf at hr;have Q:=Y (y.u.Ww c hown hgrow<|by simpa using z);clear hown hgrow z);go_ret;rw[HA.u];exact⟨rfl,_,Q.u,a.u.ea.trans H.u.symm,a.u.ec⟩
def WN(h:bC w b s L)(x:Int):
 Calls prog 96 #[.pointer (some ⟨b,0,none⟩),.int .u8 x] w (Does w b s L (h_ s x)):=by
 obtain⟨g,j,i⟩:=h.zzv;have d:=Y h;unfold cellsOf at g;clear h;cases c:Mk.bJ x;focus
  cases f:(x==60);focus
   have a:h_ s x=(s,3):=by simp[h_,c,f]
   rw[a]
  rotate_left;focus
   have a:h_ s x=({s with H:=3},0):=by simp[h_,c,f]
   rw[a]
 rotate_left 2;focus
  have a:h_ s x=(s,0):=by simp[h_,c]
  rw[a]
 all_goals
  go_enter func96,ntmps96;go_wp2_with(go_at_call 132;go_call(qp _ _)as e k ⟨rfl,rfl⟩);go_ret;first
   |(exact⟨rfl,L,d.u.start⟩)
   |(exact⟨rfl,L,d.u.start.store 4 _ _ rfl rfl rfl⟩)
def WO(h:bC w b s L)(v:Bd s)(x:Int)(A:0<=x)(B:x<=255):
 Calls prog 97 #[.pointer (some ⟨b,0,none⟩),.int .u8 x] w (Does w b s L (fw s x)):=by
 obtain⟨H,N,I⟩:=h.zzv;have y:=h.start.store 16 (.int .i64 0) {s with bG:=0} rfl rfl rfl;have a:=(y.store 16 (.int .i64 2) {s with bG:=2} rfl rfl rfl);have g:=(a.store 16 (.int .i64 1) {s with bG:=1} rfl rfl rfl);have z:=Y y;have m:=Y a;have n:=Y g;have k:=Y (vE y.X {v with} x A B);have d:=Y (vE a.X {v with} x A B);have f:=Y (vE g.X {v with} x A B);unfold cellsOf at H;clear h y a g v;cases i:(x==60);focus
  cases l:(x==38);focus
   cases o:(x==62);focus
    cases C:(x==93);focus
     have c:fw s x=cV {s with bG:=0} x:=by simp only[fw,i,l,o,C];rfl
     rw[c];clear c d f
    rotate_left;focus
     cases p:(s.bG==0);focus
      have c:fw s x=cV {s with bG:=2} x:=by simp only[fw,i,l,o,C,p];rfl
      rw[c];clear c k f
     rotate_left;focus
      have c:fw s x=cV {s with bG:=1} x:=by simp only[fw,i,l,o,C,p];rfl
      rw[c];clear c k d
   rotate_left 3;focus
    cases p:(s.bG==2);focus
     have c:fw s x=cV {s with bG:=0} x:=by simp only[fw,i,l,o,p];rfl
     rw[c];clear c d f
    rotate_left;focus
     have c:fw s x=({s with bG:=0},3):=by simp only[fw,i,l,o,p];rfl
     rw[c];clear c k d f
  rotate_left 5;focus
   have c:fw s x=(kZ {s with bG:=0} ⟨1,[],0⟩,0):=by simp only[fw,i,l];rfl
   rw[c];clear c k d f m n
 rotate_left 6;focus
  have c:fw s x=({s with bG:=0,H:=3},0):=by simp only[fw,i];rfl
  rw[c];clear c k d f
 all_goals
  go_enter func97,ntmps97;first
   |(go_wp2_with(go_at_call 134;go_call k.u as e D ⟨rfl,q,a⟩;have r:=Y a;clear a);go_ret;exact⟨rfl,q,z.u.call r.u⟩)
   |(go_wp2_with(go_at_call 134;go_call d.u as e D ⟨rfl,q,a⟩;have r:=Y a;clear a);go_ret;exact⟨rfl,q,m.u.call r.u⟩)
   |(go_wp2_with(go_at_call 134;go_call f.u as e D ⟨rfl,q,a⟩;have r:=Y a;clear a);go_ret;exact⟨rfl,q,n.u.call r.u⟩)
   |(go_wp2;go_ret;exact⟨rfl,L,z.u⟩)
   |(go_wp2_with(go_at_call 133;go_call(LX _)as e D ⟨rfl,t⟩;have j:=z.u.below t;obtain⟨E,K,G⟩:=j.X.zzv;have F:=Y j;clear j;unfold cellsOf at E);go_ret;exact⟨rfl,L,((F.u.store 20 (.int .i64 1) {s with bG:=0,rp:=1} rfl rfl rfl).store 21 (.string ⟨#[]⟩) {s with bG:=0,rp:=1,rn:=[]} rfl rfl rfl).store 22 _ _ rfl rfl rfl⟩)
   |(go_wp2;go_ret;exact⟨rfl,L,z.u.store 4 _ _ rfl rfl rfl⟩)
def Gn(h:bC w b s L)(a:Bd s)(c:Int)(d:0<=c)(f:c<=1114111):
 Calls prog 130 #[.pointer (some ⟨b,0,none⟩),.int .i64 c] w λe w' =>e=.returned (.tuple #[])/\∃g,Mv w b (aY s L) w' (bV s c) g:=
 yS h c d f (cL a.hx) (cL a.ht) a.c0 (uF a.c1<|by decide)
def WQ(h:bC w b s L)(l:Bd s)(x:Int)(t:0<=x)(v:x<=255):
 Calls prog 98 #[.pointer (some ⟨b,0,none⟩),.int .u8 x] w (Does w b s L (fH s x)):=by
 obtain⟨y,B,z⟩:=h.zzv;have C:=l.hh;have q:=Y h;have m:=Y (vE h l x t v);have j:=Y (Gn h l 93 (by decide) (by decide));have a:=Ma s.D 93;unfold cellsOf at y;clear h l;cases r:(x==62);focus
  have g:x≠62:=by simpa using r
  cases n:(x==93);focus
   have i:x≠93:=by simpa using n
   have c:fH s x=cV s x:=by simp[fH,g,i]
   rw[c];clear c g i j a
  rotate_left;focus
   have i:x=93:=by simpa using n
   cases k:(s.D==[93,93]);focus
    have d:s.D≠[93,93]:=by simpa using k
    have c:fH s x=({s with D:=s.D++[93]},0):=by simp[fH,i,d]
    rw[c];clear c g i d j m
   rotate_left;focus
    have d:s.D=[93,93]:=by simpa using k
    have c:fH s x=(bV s 93,0):=by simp[fH,i,d]
    rw[c];clear c g i d m a
 rotate_left 3;focus
  have g:x=62:=by simpa using r
  have n:(x==93)=false:=by simp[g]
  cases k:(s.D==[93,93]);focus
   have d:s.D≠[93,93]:=by simpa using k
   have c:fH s x=cV s x:=by simp[fH,g,d]
   rw[c];clear c g d j a
  rotate_left;focus
   have d:s.D=[93,93]:=by simpa using k
   have c:fH s x=({s with D:=[],H:=1},0):=by simp[fH,g,d]
   rw[c];clear c g d j m a
 all_goals
  go_enter func98,ntmps98;first
   |(go_wp2_with(go_at_call 134;go_call m.u as e A ⟨rfl,o,f⟩;have p:=Y f;clear f);go_ret;exact⟨rfl,o,p.u⟩)
   |(go_wp2;go_ret;exact⟨rfl,L,q.u.start.store 15 _ _ rfl rfl rfl⟩)
   |(go_wp2_with(go_at_call 130;go_call j.u as e A ⟨rfl,o,f⟩;have p:=Y f;clear f);go_ret;exact⟨rfl,o,p.u⟩)
   |(go_wp2;go_ret;exact⟨rfl,L,(q.u.start.store 15 (.string ⟨#[]⟩) {s with D:=[]} rfl rfl rfl).store 4 _ _ rfl rfl rfl⟩)
def WR(h:bC w b s L)(d:Bd s)(x:Int)(j:0<=x)(p:x<=255):
 Calls prog 191 #[.pointer (some ⟨b,0,none⟩),.int .u8 x] w (Does w b s L (mg s x)):=by
 obtain⟨k,q,l⟩:=h.zzv;have r:=d.ho;have f:=Y h;have g:=Y λn=>Gn ((h.start.drewN n).store 4 (.int .i64 12) {s with H:=12} rfl rfl rfl).X {d with} x j (by omega);unfold cellsOf at k;clear h d;by_cases i:s.od<=s.I.length
 .have a:mg s x=(s,7):=by simp[mg,i]
  rw[a];clear a g;go_enter func191,ntmps191;go_wp2;go_quiet(fail);go_wp2;go_ret;exact⟨rfl,L,f.u.start.drewN _⟩
 have a:mg s x=(bV {s with H:=12} x,0):=by simp[mg,i]
 rw[a];have t:decide (s.od<=(s.I.length:Int))=false:=aj9;clear a;go_enter func191,ntmps191;go_wp2;go_quiet(fail);go_wp2_with(go_at_call 130;go_call(g.u _)as e v ⟨rfl,m,c⟩;have o:=Y c;clear c);go_ret;exact⟨rfl,m,((f.u.start.drewN _).store 4 (.int .i64 12) {s with H:=12} rfl rfl rfl).call o.u⟩
def Dx{d:Nat}{a:Option Addr}{c:Nat}{l:U}(h:w.ownsRow d 5 1 (.slice a l.length c) l.length (l.map bv)):
 Calls prog 194 #[.slice a l.length c] w λe w' =>e=.returned (.bool (Mk.jg l))/\w' =w:=by
 by_cases i:l.length=3
 .match l,i,h with
  |[x,y,z],_,h=>
   obtain⟨_,q⟩|⟨g,r,m,s,C,n,t,_,u,b⟩:=h.2
   .cases q
   cases s;have k:∀j,j<3->w.cell? ⟨g,j,none⟩=some (([x,y,z].map bv).getD j undef):=by
    intro j o;rw[C_ w g j m _ _ n];have p:([x,y,z].map bv)[j]?=some (([x,y,z].map bv).getD j undef):=by
     match j,o with
     |0,_=>rfl
     |1,_=>rfl
     |2,_=>rfl
    rw[<-b,yI<|by simpa using o]at p;rw[<-b];simpa using p
   have v:=k 0 (by decide);have A:=k 1 (by decide);have B:=k 2 (by decide);simp[bv]at v A B;clear k b n h;have f:Mk.jg [x,y,z]=(((x.toNat:Int)==120||(x.toNat:Int)==88)&&((y.toNat:Int)==109||(y.toNat:Int)==77)&&((z.toNat:Int)==108||(z.toNat:Int)==76)):=rfl;rw[f];clear f;generalize(x.toNat:Int)=x at *;generalize(y.toNat:Int)=y at *;generalize(z.toNat:Int)=z at *;go_enter func194,ntmps194;go_wp2;all_goals(go_ret;exact⟨mU<|by simp_all,rfl⟩)
 have e0:((l.length:Int)==3)=false:=akc;have f:Mk.jg l=false:=by
  match l,i with
  |[],_=>rfl
  |[_],_=>rfl
  |[_,_],_=>rfl
  |[_,_,_],i=>exact aj6 rfl i
  |_::_::_::_::_,_=>rfl
 rw[f];clear f h;go_enter func194,ntmps194;go_wp2;go_ret;exact⟨rfl,rfl⟩
def GA(h:bC w b s L)(a:Bd s)(x:Int)(c:0<=x)(d:x<=255):
 Calls prog 193 #[.pointer (some ⟨b,0,none⟩),.int .u8 x] w (Does w b s L (fS s x)):=
 VX h x c d (cL a.hx) (cL a.ht) a.c0 (uF a.c1<|by decide)
def Xh(h:bC w b s L)(r:Bd s)(x:Int)(A:0<=x)(B:x<=255):
 Calls prog 143 #[.pointer (some ⟨b,0,none⟩),.int .u8 x] w (Does w b s L (cN s x)):=by
 obtain⟨n,H,C⟩:=h.zzv;have z:=Y h;have D:=Y (GA h r x A B);have t:=Y (Dx (h.rows.own (fV s L)<|by simp[rowsOf]));have E:=Y (yU h);have o:=Y (F_ s.i r.ht w);have F:=vC (h.rows.own (fV s L)<|by simp[rowsOf]);unfold cellsOf at n;clear h r;cases a:(s.G==0&& !dP x);focus
  cases i:Mk.eD x;focus
   cases g:Mk.jg s.i;focus
    rw[g]at t;cases f:(x==63);focus
     have v:(x !=63)=true:=by simp at f⊢;exact f
     cases p:Mk.bJ x;focus
      skip;have c:cN s x=(s,3):=by simp only[cN,bne,gz,jC,oU,nP,Au,ku,qN,kx,iL,ja,cK,bY,cE,a,i,g,f,p]
      rw[c];cases e0:(s.G==0);focus
       clear c a
      rotate_left;focus
       have j:dP x=true:=by simpa[e0]using a
       clear c a
     rotate_left 2;focus
      skip;cases en:s.on;focus
       rw[en]at n;have c:cN s x=({bH s with B:=s.i,H:=10},0):=by simp only[cN,bne,gz,jC,oU,nP,Au,ku,qN,kx,iL,ja,cK,bY,cE,a,i,g,f,p,en]
       rw[c];cases e0:(s.G==0);focus
        clear c a
       rotate_left;focus
        have j:dP x=true:=by simpa[e0]using a
        clear c a
      rotate_left 2;focus
       rw[en]at n;cases k:Mk.cW s.i;focus
        rw[k]at o;have c:cN s x=({bH s with B:=s.i,H:=10},0):=by simp only[cN,bne,gz,jC,oU,nP,Au,ku,qN,kx,iL,ja,cK,bY,cE,a,i,g,f,p,en,k]
        rw[c];cases e0:(s.G==0);focus
         clear c a
        rotate_left;focus
         have j:dP x=true:=by simpa[e0]using a
         clear c a
       rotate_left 2;focus
        rw[k]at o;have c:cN s x=(s,8):=by simp only[cN,bne,gz,jC,oU,nP,Au,ku,qN,kx,iL,ja,cK,bY,cE,a,i,g,f,p,en,k]
        rw[c];cases e0:(s.G==0);focus
         clear c a
        rotate_left;focus
         have j:dP x=true:=by simpa[e0]using a
         clear c a
    rotate_left 8;focus
     have v:(x !=63)=false:=by simp at f⊢;exact f
     cases en:s.on;focus
      rw[en]at n;have c:cN s x=({bH s with B:=s.i,H:=9},0):=by simp only[cN,bne,gz,jC,oU,nP,Au,ku,qN,kx,iL,ja,cK,bY,cE,a,i,g,f,en]
      rw[c];cases e0:(s.G==0);focus
       clear c a
      rotate_left;focus
       have j:dP x=true:=by simpa[e0]using a
       clear c a
     rotate_left 2;focus
      rw[en]at n;cases k:Mk.cW s.i;focus
       rw[k]at o;have c:cN s x=({bH s with B:=s.i,H:=9},0):=by simp only[cN,bne,gz,jC,oU,nP,Au,ku,qN,kx,iL,ja,cK,bY,cE,a,i,g,f,en,k]
       rw[c];cases e0:(s.G==0);focus
        clear c a
       rotate_left;focus
        have j:dP x=true:=by simpa[e0]using a
        clear c a
      rotate_left 2;focus
       rw[k]at o;have c:cN s x=(s,8):=by simp only[cN,bne,gz,jC,oU,nP,Au,ku,qN,kx,iL,ja,cK,bY,cE,a,i,g,f,en,k]
       rw[c];cases e0:(s.G==0);focus
        clear c a
       rotate_left;focus
        have j:dP x=true:=by simpa[e0]using a
        clear c a
   rotate_left 14;focus
    rw[g]at t;have c:cN s x=(s,3):=by simp only[cN,bne,gz,jC,oU,nP,Au,ku,qN,kx,iL,ja,cK,bY,cE,a,i,g]
    rw[c];cases e0:(s.G==0);focus
     clear c a
    rotate_left;focus
     have j:dP x=true:=by simpa[e0]using a
     clear c a
  rotate_left 16;focus
   skip;have c:cN s x=fS s x:=by simp only[cN,bne,gz,jC,oU,nP,Au,ku,qN,kx,iL,ja,cK,bY,cE,a,i]
   rw[c];cases e0:(s.G==0);focus
    clear c a
   rotate_left;focus
    have j:dP x=true:=by simpa[e0]using a
    clear c a
 rotate_left 18
 .have c:cN s x=(s,3):=by simp only[cN,a,bY]
  rw[c];have e0:(s.G==0)=true:=by simp at a;simp[a]
  have j:dP x=false:=by simp at a;simp[a]
  clear c a;go_enter func143,ntmps143;go_wp2_with(go_at_call 190;go_call(vz _ _)as e m ⟨rfl,rfl⟩);go_ret;exact⟨rfl,L,z.u.start⟩
 all_goals
  go_enter func143,ntmps143
  go_wp2_with(first
   |(go_at_call 190;go_call(vz _ _)as e m ⟨rfl,rfl⟩)
   |(go_at_call 192;go_call(uI _ _)as e m ⟨rfl,rfl⟩)
   |(go_at_call 132;go_call(qp _ _)as e m ⟨rfl,rfl⟩)
   |(go_at_call 194;go_call t.u as e m ⟨rfl,rfl⟩)
   |(go_at_call 195;go_call o.u as e m ⟨rfl,rfl⟩)
   |(go_at_call 193;go_call D.u as e m ⟨rfl,q,d⟩;have l:=Y d;clear d)
   |(go_at_call 187;go_call E.u as e m ⟨rfl,q,d⟩;have y:=d.X.cell;have G:=d.X.frozen;have l:=Y d;clear d;unfold cellsOf at y))
  go_ret;first
   |(exact⟨rfl,L,z.u.start⟩)
   |(exact⟨rfl,q,(l.u.store 11 _ {bH s with B:=s.i} rfl rfl rfl).store 4 _ _ rfl rfl rfl⟩)
   |(exact⟨rfl,q,((l.u.store 11 _ {bH s with B:=s.i} rfl rfl rfl).store 4 _ {bH s with B:=s.i,H:=10} rfl rfl rfl).store 4 _ _ rfl rfl rfl⟩)
   |(exact⟨rfl,q,l.u⟩)
def MH(h:bC w b s L)(o:Bd s):
 Calls prog 136 #[.pointer (some ⟨b,0,none⟩)] w λe w' =>e=.returned (.tuple #[])/\∃v,Mv w b (aY s L) w' (kG s) v:=by
 obtain⟨p,x,y⟩:=h.zzv;have d:=h.start.store 15 (.string ⟨#[]⟩) {s with D:=[]} rfl rfl rfl;have q:=Y (yU d.X);have i:=Y d;unfold cellsOf at p;clear h d;go_enter func136,ntmps136;go_wp2_with fail;go_call q.u as e C ⟨rfl,D,f⟩;have c:=f.drew;have j:=f.X.cell;have r:=Y (add_nil c.X ⟨5,s.B,[],s.i,[]⟩ rfl (cL o.hx) (cL o.hl));have k:=Y (i.u.call c);unfold cellsOf at j;clear f q i p x c;go_wp2_with fail;go_region_with (go_at_call 188;go_call r.u as e w2 ⟨rfl,z,g⟩);all_goals
  obtain⟨l,A,t⟩:=g.X.zzv;have a:=(k.u.call g).store 11 (.string ⟨#[]⟩) {aX (bH {s with D:=[]}) ⟨5,s.B,[],s.i,[]⟩with B:=[]} rfl rfl rfl;have B:=Y (A_ a.X);have m:=Y a;unfold cellsOf at l;clear g a r k j;go_wp2_with(go_at_call 189;go_call B.u as e E ⟨rfl,a⟩;have n:=Y a;clear a);go_end0
  exact⟨rfl,z,m.u.call n.u⟩
def Xx(h:bC w b s L)(i:Bd s)(x:Int):
 Calls prog 144 #[.pointer (some ⟨b,0,none⟩),.int .u8 x] w (Does w b s L (jD s x)):=by
 have j:=Y h;have k:=Y (MH h i);clear h i;cases a:(x==62)
 .have d:jD s x=(s,3):=by simp[jD,a]
  rw[d];have f:(x !=62)=true:=by simp at a⊢;exact a
  go_enter func144,ntmps144;go_wp2;go_ret;exact⟨rfl,L,j.u.start⟩
 have d:jD s x=(kG s,0):=by simp[jD,a]
 rw[d];have f:(x !=62)=false:=by simp at a⊢;exact a
 go_enter func144,ntmps144;go_wp2_with(go_at_call 136;go_call k.u as e m ⟨rfl,l,c⟩;have g:=Y c;clear c);go_ret;exact⟨rfl,l,g.u⟩
def MJ(h:bC w b s L)(g:Bd s)(x:Int)(B:0<=x)(C:x<=255):
 Calls prog 100 #[.pointer (some ⟨b,0,none⟩),.int .u8 x] w (Does w b s L (dN s x)):=by
 obtain⟨D,H,E⟩:=h.zzv;have t:=Y h;have l:=Y (MH h g);have o:=Y (vE h g x B C);have j:=Y (wZ h 1 g.c0 (uF g.c1<|by decide) (by decide) (by decide));have m:=Y λn=>yS (h.drewN n) 63 (by decide) (by decide) (cL g.hx) (cL g.ht) g.c0 (uF g.c1<|by decide);unfold cellsOf at D;clear h g;cases A:(x==62);focus
  have d:x≠62:=by simpa using A
  cases v:(x==63);focus
   have i:x≠63:=by simpa using v
   have a:dN s x=cV s x:=by simp[dN,d,i]
   rw[a];clear a d i l j m
  rotate_left;focus
   have i:x=63:=by simpa using v
   cases p:(s.D==[63]);focus
    have c:s.D≠[63]:=by simpa using p
    have a:dN s x=({s with D:=[63]},0):=by simp[dN,d,i,c]
    rw[a];clear a d i c l j m o
   rotate_left;focus
    have c:s.D=[63]:=by simpa using p
    cases r:gb s 1;focus
     have a:dN s x=(s,7):=by simp[dN,i,c,r]
     rw[a];rw[r]at j;clear a d i c l m o
    rotate_left;focus
     have a:dN s x=(bV s 63,0):=by simp[dN,i,c,r]
     rw[a];rw[r]at j;clear a d i c l o
 rotate_left 4;focus
  have d:x=62:=by simpa using A
  cases p:(s.D==[63]);focus
   have c:s.D≠[63]:=by simpa using p
   have a:dN s x=cV s x:=by simp[dN,d,c]
   rw[a];have v:(x==63)=false:=by simp[d]
   clear a c l j m d
  rotate_left;focus
   have c:s.D=[63]:=by simpa using p
   have a:dN s x=(kG s,0):=by simp[dN,d,c]
   rw[a];clear a d c j m o
 all_goals
  go_enter func100,ntmps100;first
   |(go_wp2_with(go_at_call 134;go_call o.u as e F ⟨rfl,y,f⟩;have k:=Y f;clear f);go_ret;exact⟨rfl,y,k.u⟩)
   |(go_wp2;go_ret;exact⟨rfl,L,t.u.start.store 15 _ _ rfl rfl rfl⟩)
   |(go_wp2_with(go_at_call 137;go_call j.u as e w' ⟨rfl,n,rfl⟩);go_ret;exact⟨rfl,L,t.u.start.drewN _⟩)
   |(go_wp2_with(first|(go_at_call 137;go_call j.u as e w' ⟨rfl,n,rfl⟩)|(go_at_call 130;go_call(m.u n)as e w' ⟨rfl,G,q⟩;have z:=Y q;clear q));go_ret;exact⟨rfl,G,(t.u.start.drewN _).call z.u⟩)
   |(go_wp2_with(go_at_call 136;go_call l.u as e F ⟨rfl,y,f⟩;have k:=Y f;clear f);go_ret;exact⟨rfl,y,k.u⟩)
def Xy(h:bC w b s L)(i:Bd s)(x:Int)(m:0<=x)(n:x<=255):
 Calls prog 145 #[.pointer (some ⟨b,0,none⟩),.int .u8 x] w (Does w b s L (jK s x)):=by
 obtain⟨o,t,p⟩:=h.zzv;have d:=h.start.store 4 (.int .i64 11) {s with H:=11} rfl rfl rfl;have q:=Y h;have f:=Y d;have j:=Y (MJ d.X {i with} x m n);unfold cellsOf at o;clear h d i;cases k:Mk.bJ x
 .have a:jK s x=dN {s with H:=11} x:=by simp[jK,k]
  rw[a];clear a;go_enter func145,ntmps145
  go_wp2_with(first
   |(go_at_call 132;go_call(qp _ _)as e l ⟨rfl,rfl⟩)
   |(go_at_call 100;go_call j.u as e l ⟨rfl,r,c⟩;have g:=Y c;clear c))
  go_ret;exact⟨rfl,r,f.u.call g.u⟩
 have a:jK s x=(s,0):=by simp[jK,k]
 rw[a];clear a j;go_enter func145,ntmps145;go_wp2_with(go_at_call 132;go_call(qp _ _)as e l ⟨rfl,rfl⟩);go_ret;exact⟨rfl,L,q.u.start⟩

import Derived.Test.YtkafkipjedpohaaGreatDoorT3
namespace Go.Proofs.YtkafkipjedpohaaGreatDoor
open Go.RowKit _root_.Go.Proofs.Tryz
def oz:Array Value:=#[.int .i64 0,.int .i64 0,.int .i64 0,.int .i64 0,.slice none 0 0]
def nz:Array Value:=#[.int .i64 0,.int .i64 0,.int .i64 0]
structure C0 (w1 X:World) (l:List V) (ab nb:Option Nat) (oc:Option Value):Prop where
 bl:Below w1.heap.size w1 X
 a:∀ b,ab=some b->X.heap[b]?=some (.cells oz 46 (0,0))/\w1.heap.size<=b
 n:∀ b,nb=some b->X.heap[b]?=some (.cells nz 61 (0,0))/\w1.heap.size<=b
 ne:∀ x y,ab=some x->nb=some y->x≠y
 o:∀ v,oc=some v->∃ t,Ae X w1.heap.size t 10 43 2 v l.length (Ar l)/\(∀ x,ab=some x->t x=9)/\(∀ y,nb=some y->t y=9)
theorem C0.start(w1:World)(l:List V):C0 w1 w1.drew l none none none :=
 ⟨(Tu _ _).drew,fun b h=>(by cases h),fun b h=>(by cases h),fun x y h=>(by cases h),fun v h=>(by cases h)⟩
section
variable {w1 X:World}{l:List V}{b a:Nat}{v:Value}
theorem C0.alloc46{nb:Option Nat}{oc:Option Value}(h:C0 w1 X l none nb oc):C0 w1 (X.alloc (.cells oz 46)) l (some X.heap.size) nb oc:=by
 have hb:Below X.heap.size X (X.alloc (.cells oz 46)):=(Tu _ _).alloc (Te _) _;refine⟨h.bl.trans (hb.mono h.bl.size),fun b e=>?_,fun b e=>?_,fun x y e1 e2=>?_,fun v e=>?_⟩
 ·injection e with e;subst e;exact⟨Tv _ _,h.bl.size⟩
 ·obtain⟨h1,h2⟩:=h.n b e;exact⟨(hb.block b (Ah h1)).trans h1,h2⟩
 ·injection e1 with e1;have:=Ah (h.n y e2).1;omega
 ·obtain⟨t,h1,_,h3⟩:=h.o v e;refine⟨Ac t X.heap.size 9,(h1.retag (fun b hb=>Ao _ _ _ _ (by omega))).below hb,fun x e=>?_,fun y e=>?_⟩
  ·injection e with e;subst e;exact Au _ _ _
  ·have:=Ah (h.n y e).1;rw[Ao _ _ _ _ (by omega)];exact h3 y e
theorem C0.alloc61{ab:Option Nat}{oc:Option Value}(h:C0 w1 X l ab none oc):C0 w1 (X.alloc (.cells nz 61)) l ab (some X.heap.size) oc:=by
 have hb:Below X.heap.size X (X.alloc (.cells nz 61)):=(Tu _ _).alloc (Te _) _;refine⟨h.bl.trans (hb.mono h.bl.size),fun b e=>?_,fun b e=>?_,fun x y e1 e2=>?_,fun v e=>?_⟩
 ·obtain⟨h1,h2⟩:=h.a b e;exact⟨(hb.block b (Ah h1)).trans h1,h2⟩
 ·injection e with e;subst e;exact⟨Tv _ _,h.bl.size⟩
 ·injection e2 with e2;have:=Ah (h.a x e1).1;omega
 ·obtain⟨t,h1,h3,_⟩:=h.o v e;refine⟨Ac t X.heap.size 9,(h1.retag (fun b hb=>Ao _ _ _ _ (by omega))).below hb,fun x e=>?_,fun y e=>?_⟩
  ·have:=Ah (h.a x e).1;rw[Ao _ _ _ _ (by omega)];exact h3 x e
  ·injection e with e;subst e;exact Au _ _ _
theorem C0.call{u2:World}{ab nb:Option Nat}(h:C0 w1 X l ab nb none)(hb:Below X.heap.size X u2)(hO:Bh X u2 v l):C0 w1 u2 l ab nb (some v):=by
 refine⟨h.bl.trans (hb.mono h.bl.size),fun b e=>?_,fun b e=>?_,h.ne,fun v' e=>?_⟩
 ·obtain⟨h1,h2⟩:=h.a b e;exact⟨(hb.block b (Ah h1)).trans h1,h2⟩
 ·obtain⟨h1,h2⟩:=h.n b e;exact⟨(hb.block b (Ah h1)).trans h1,h2⟩
 ·injection e with e;subst e;refine⟨_,hO.tagged (B:=w1.heap.size) h.bl.size (fun _=>9) 10,fun x e=>?_,fun y e=>?_⟩
  ·have:=Ah (h.a x e).1;show (if x<X.heap.size then 9 else 10)=9;rw[if_pos this]
  ·have:=Ah (h.n y e).1;show (if y<X.heap.size then 9 else 10)=9;rw[if_pos this]
def Cu(X:World)(a:Nat)(e0 e1 e2 e3:Int)(v:Value):World:=((((X.setCell ⟨a,0,none⟩ (.int .i64 e0)).setCell ⟨a,1,none⟩ (.int .i64 e1)).setCell ⟨a,2,none⟩ (.int .i64 e2)).setCell ⟨a,3,none⟩ (.int .i64 e3)).setCell ⟨a,4,none⟩ v
def EE(X:World)(b:Nat)(d0 d1 d2:Int):World:=((X.setCell ⟨b,0,none⟩ (.int .i64 d0)).setCell ⟨b,1,none⟩ (.int .i64 d1)).setCell ⟨b,2,none⟩ (.int .i64 d2)
def MM(w1:World)(e0 e1 e2 e3 d0 d1 d2 er:Int)(l:List V)(v10 v11 v12:Value)(wc:World):Prop :=
 v12=.int .i64 er/\∃ (ab nb:Nat) (vp:Option Addr) (vcap:Nat) (t:Nat->Nat),v10=.pointer (some ⟨ab,0,none⟩)/\v11=.pointer (some ⟨nb,0,none⟩)/\Below w1.heap.size w1 wc/\w1.heap.size<=ab/\wc.heap[ab]?=some (.cells #[.int .i64 e0,.int .i64 e1,.int .i64 e2,.int .i64 e3,.slice vp l.length vcap] 46 (0,0))/\wc.heap[nb]?=some (.cells #[.int .i64 d0,.int .i64 d1,.int .i64 d2] 61 (0,0)) /\
  Ae wc w1.heap.size t 10 43 2 (.slice vp l.length vcap) l.length (Ar l)/\t ab=9/\t nb=9
theorem C0.a_set(h:C0 w1 X l (some a) (some b) (some v))(e0 e1 e2 e3:Int) :
  Below w1.heap.size w1 (Cu X a e0 e1 e2 e3 v)/\(Cu X a e0 e1 e2 e3 v).heap[a]?=some (.cells #[.int .i64 e0,.int .i64 e1,.int .i64 e2,.int .i64 e3,v] 46 (0,0))/\(Cu X a e0 e1 e2 e3 v).heap[b]?=some (.cells nz 61 (0,0)) /\
   ∃ t,Ae (Cu X a e0 e1 e2 e3 v) w1.heap.size t 10 43 2 v l.length (Ar l)/\t a=9/\t b=9:=by
 obtain⟨h1,h2⟩:=h.a a rfl;obtain⟨h3,h4⟩:=h.n b rfl;have hne:=h.ne a b rfl rfl;obtain⟨t,r1,r2,r3⟩:=h.o v rfl;have ta:=r2 a rfl;have hc:Ch w1.heap.size (fun d=>d=9) t t X (Cu X a e0 e1 e2 e3 v) :=
  ((((Ch.set X a 0 _ h2 ta).trans (Ch.set _ a 1 _ h2 ta)).trans (Ch.set _ a 2 _ h2 ta)).trans (Ch.set _ a 3 _ h2 ta)).trans (Ch.set _ a 4 _ h2 ta)
 refine⟨h.bl.trans (hc.below h.bl.size),?_,?_,t,r1.keep hc (by omega),ta,r3 b rfl⟩
 ·unfold Cu;rw[CD (CD (CD (CD (CD h1 _) _) _) _) _];rfl
 ·unfold Cu;have hb:∀ (Y:World) (i:Nat) (u:Value),(Y.setCell ⟨a,i,none⟩ u).heap[b]?=Y.heap[b]?:=fun Y i u=>Tx Y ⟨a,i,none⟩ u b (fun e=>hne e.symm)
  rw[hb,hb,hb,hb,hb];exact h3
theorem C0.n_set{vp:Option Addr}{vcap:Nat}(h:C0 w1 X l (some a) (some b) (some (.slice vp l.length vcap)))(e0 e1 e2 e3 d0 d1 d2 er:Int) :
  MM w1 e0 e1 e2 e3 d0 d1 d2 er l (.pointer (some ⟨a,0,none⟩)) (.pointer (some ⟨b,0,none⟩)) (.int .i64 er) (EE (Cu X a e0 e1 e2 e3 (.slice vp l.length vcap)) b d0 d1 d2):=by
 obtain⟨k1,k2,k3,t,k4,k5,k6⟩:=h.a_set e0 e1 e2 e3;obtain⟨_,h2⟩:=h.a a rfl;obtain⟨_,h4⟩:=h.n b rfl;have hne:=h.ne a b rfl rfl;have hc:Ch w1.heap.size (fun d=>d=9) t t (Cu X a e0 e1 e2 e3 (.slice vp l.length vcap)) (EE (Cu X a e0 e1 e2 e3 (.slice vp l.length vcap)) b d0 d1 d2) :=
  ((Ch.set _ b 0 _ h4 k6).trans (Ch.set _ b 1 _ h4 k6)).trans (Ch.set _ b 2 _ h4 k6)
 refine⟨rfl,a,b,vp,vcap,t,rfl,rfl,k1.trans (hc.below k1.size),h2,?_,?_,k4.keep hc (by omega),k5,k6⟩
 ·unfold EE;have hb:∀ (Y:World) (i:Nat) (u:Value),(Y.setCell ⟨b,i,none⟩ u).heap[a]?=Y.heap[a]?:=fun Y i u=>Tx Y ⟨b,i,none⟩ u a (fun e=>hne e)
  rw[hb,hb,hb];exact k2
 ·unfold EE;rw[CD (CD (CD k3 _) _) _];rfl
theorem C0.a_reads(h:C0 w1 X l (some a) (some b) (some v)):(X.cell? ⟨a,0,none⟩=some (.int .i64 0)/\X.cell? ⟨a,1,none⟩=some (.int .i64 0)/\X.cell? ⟨a,2,none⟩=some (.int .i64 0)/\X.cell? ⟨a,3,none⟩=some (.int .i64 0)/\X.cell? ⟨a,4,none⟩=some (.slice none 0 0))/\(X.frozen? ⟨a,0,none⟩=false/\X.frozen? ⟨a,1,none⟩=false/\X.frozen? ⟨a,2,none⟩=false/\X.frozen? ⟨a,3,none⟩=false/\X.frozen? ⟨a,4,none⟩=false)/\a<X.heap.size:=by
 obtain⟨h1,_⟩:=h.a a rfl;exact⟨⟨(Ab h1).trans rfl,(Ab h1).trans rfl,(Ab h1).trans rfl,(Ab h1).trans rfl,(Ab h1).trans rfl⟩,⟨Ax h1,Ax h1,Ax h1,Ax h1,Ax h1⟩,Ah h1⟩
theorem FV{Y:World}(h1:Y.heap[b]?=some (.cells nz 61 (0,0))):(Y.cell? ⟨b,0,none⟩=some (.int .i64 0)/\Y.cell? ⟨b,1,none⟩=some (.int .i64 0)/\Y.cell? ⟨b,2,none⟩=some (.int .i64 0))/\(Y.frozen? ⟨b,0,none⟩=false/\Y.frozen? ⟨b,1,none⟩=false/\Y.frozen? ⟨b,2,none⟩=false)/\b<Y.heap.size :=
 ⟨⟨(Ab h1).trans rfl,(Ab h1).trans rfl,(Ab h1).trans rfl⟩,⟨Ax h1,Ax h1,Ax h1⟩,Ah h1⟩
theorem Ip(Y:World)(o:Obj):(Y.alloc o).heap.size=Y.heap.size+1:=by simp
theorem TM(Y:World):Y.drew.heap.size=Y.heap.size:=rfl
theorem ML{w:World}{B wb:Nat}{A:AN}{n:Nat->Nat}{nc:Nat}{CV PV:Nat->Value}{M:Nat->Nat}{FF:Nat->Nat->PF}(h:B3 w B wb A n nc CV PV M FF)(hu:Below w.heap.size w w1)(hX:Below w1.heap.size w1 X)(vp:Option Addr)(vcap:Nat)(l:List V)(t:Nat->Nat)(hO:Ae X w1.heap.size t 10 43 2 (.slice vp l.length vcap) l.length (Ar l))(hl:l.length<=200000)(hn0:n 0<=3000000000000) :
  Calls prog 58 #[.pointer (some ⟨wb,2,none⟩),.slice vp l.length vcap] X fun e w5=>e=.returned (.tuple #[])/\Cn w B wb n nc CV PV M FF (.returned (.bool true)) w5/\∀ b,w1.heap.size<=b->b<X.heap.size->t b=9->w5.heap[b]?=X.heap[b]?:=by
 have hBw:B<=w.heap.size:=h.hold.le;have hWs:=hu.size;have hww4:Below w.heap.size w X:=hu.trans (hX.mono hu.size);obtain⟨tX,htX⟩:∃ tX:Nat->Nat,tX=fun b=>if b<w1.heap.size then A.tag b else t b:=⟨_,rfl⟩
 have htX2:∀ b,w1.heap.size<=b->tX b=t b:=fun b hb=>by rw[htX];show (if b<w1.heap.size then A.tag b else t b)=t b;rw[if_neg (by omega)]
 have row2:Ae X B tX 10 43 2 (.slice vp l.length vcap) l.length (Ar l):=hO.lower (by omega) htX2;have htA:∀ b,b<w.heap.size->tX b=A.tag b:=fun b hb=>by rw[htX];show (if b<w1.heap.size then A.tag b else _)=_;rw[if_pos (by omega)]
 have hhold:AZ X B wb {A with tag:=tX} (fun d=>d=9) n:=h.hold.keep (Ch.of_tags (p:=fun _=>False) hww4 htA) (fun _ _ h=>h);obtain⟨q,hq⟩:∃ q,n 0=4 * q:=⟨n 0 / 4,by have:=h.four 0 (by omega);omega⟩
 refine(Gk X B wb {A with tag:=tX} (fun d=>d=9) n q 10 vp vcap _ _ hhold hq (by omega) row2 hl (by omega) (by unfold Wt;omega) (by omega)).mono ?_;rintro e w5 ⟨rfl,A5,h5,cv5,pv5,xb5,ch5⟩;refine⟨rfl,?_,fun b hb1 hb2 hb3=>ch5.block b hb2 (Or.inr ?_)⟩
 ·obtain⟨A3,hA3⟩:=h.after hww4 htA h5 ch5 (by omega) (by omega) (by omega) cv5 pv5 (fun k hk=>by
   by_cases e:k=0
   ·subst e;rw[Au];omega
   ·rw[Ao _ _ _ _ e];exact h.four k hk)
  refine⟨rfl,(hww4.mono hBw).trans (ch5.below (Nat.le_trans hBw hww4.size)),A3,_,hA3,fun k hk=>?_⟩;by_cases e:k=0
  ·subst e;rw[Au];omega
  ·rw[Ao _ _ _ _ e];omega
 ·show ¬(tX b=0\/tX b=5\/tX b=10);rw[htX2 b hb1,hb3];omega
end
set_option maxRecDepth 100000
set_option maxHeartbeats 16000000
theorem OU(a b:Int)(X:World):(binOp .eql 43 (.agg #[.int .i64 a,.int .i64 b]) (.agg #[.int .i64 a,.int .i64 b])).run prog X=.ok (.bool true) X:=by
 have e1:(a==a)=true:=by simp
 have e2:(b==b)=true:=by simp
 go_simp
theorem La(a b c:Int)(X:World):(binOp .eql 61 (.agg #[.int .i64 a,.int .i64 b,.int .i64 c]) (.agg #[.int .i64 a,.int .i64 b,.int .i64 c])).run prog X=.ok (.bool true) X:=by
 have e1:(a==a)=true:=by simp
 have e2:(b==b)=true:=by simp
 have e3:(c==c)=true:=by simp
 go_simp
theorem NA{w1:World}{cb g cap m:Nat}{F:Nat->PF}{K:Nat->Nat->Bool}{H:Nat->Nat->Int}{CA:Nat->Option Addr}{CC:Nat->Nat}{N:Int}{E:List Ev}{ev:Value}
  (c1:w1.cell? ⟨cb,0,none⟩=some (.slice (some ⟨g,0,none⟩) m cap)) (hP:BD w1 g 0 m F CA CC) (hcc:∀ k,k<m->(F k).cn<=CC k) (hF:AP m F K H) (hEv:Bs w1 w1.heap.size ev E) :
  ∃ (e0 e1 e2 e3 d0 d1 d2 er:Int) (l:List V),(∀ X,Below w1.heap.size w1 X->Calls prog 26 #[.pointer (some ⟨cb,0,none⟩),ev,.int .i64 N] X fun e u2=>∃ vp vcap,e=.returned (.tuple #[.agg #[.int .i64 e0,.int .i64 e1,.int .i64 e2,.int .i64 e3,.slice vp l.length vcap],.agg #[.int .i64 d0,.int .i64 d1,.int .i64 d2],.int .i64 er])/\Below X.heap.size X u2/\Bh X u2 (.slice vp l.length vcap) l)/\l.length<=200000 /\
   ((BR m E=0/\Ec m E/\er=0/\e0=Ca (Bk F E N)/\e1=(Bk F E N).steps/\e2=(Bk F E N).gives.k/\e3=(Bk F E N).gives.n/\l=(Bk F E N).out/\d0=(Bk F E N).cH/\d1=(Bk F E N).cU/\d2=(Bk F E N).cD)\/(BR m E≠0/\er=5/\e0=0/\e1=0/\e2=0/\e3=0/\l=[]/\d0=0/\d1=0/\d2=0)):=by
 have hcz:=Tr w1 _ c1;have hEX:∀ X,Below w1.heap.size w1 X->Bs X X.heap.size ev E:=fun X hX=>by
  obtain⟨p',c',hv,h1,h2⟩:=hEv.below hX;refine⟨p',c',hv,h1,fun h0=>?_⟩;obtain⟨eb,eo,e1,e2,e3⟩:=h2 h0;exact⟨eb,eo,e1,by have:=hX.size;omega,e3⟩
 by_cases hok:BR m E=0
 ·have hE:=Jj hok;have hbd:=Ln hF hE.rise hE.ok (AX N);have hle:=(Gl hF hE.rise hE.ok (AX N)).le;have hfl:=EI N;have hout:(Bk F E N).out.length<=200000:=by have:=hbd.out;show (AO F (AC F) E (AX N)).1.out.length<=_;omega
  refine⟨_,_,_,_,_,_,_,0,(Bk F E N).out,fun X hX=>?_,hout,Or.inl ⟨hok,hE,rfl,rfl,rfl,rfl,rfl,rfl,rfl,rfl,rfl⟩⟩;refine(NE X cb g 0 cap m F K H CA CC N ev E ((hX.cell (p:=⟨cb,0,none⟩) hcz).trans c1) (hP.below hX (Te _)) hcc hF (hEX X hX) hok).mono ?_;rintro e u2 ⟨v,rfl,h1,h2⟩;obtain⟨vp,vcap,rfl⟩:=h2.slc;exact⟨vp,vcap,rfl,h1,h2⟩
 ·have h5:BR m E=5:=by
   unfold BR at hok ⊢;by_cases a:200<E.length
   ·rw[if_pos a]
   ·rw[if_neg a] at hok ⊢;by_cases b:BL m 0 E=true
    ·rw[if_pos b] at hok;exact absurd rfl hok
    ·rw[if_neg b]
  refine⟨0,0,0,0,0,0,0,5,[],fun X hX=>?_,Tt _,Or.inr ⟨hok,rfl,rfl,rfl,rfl,rfl,rfl,rfl,rfl,rfl⟩⟩;refine(NU X cb g 0 cap m N ev E ((hX.cell (p:=⟨cb,0,none⟩) hcz).trans c1) hF.size.2 (hEX X hX) hok).mono ?_;rintro e u2 ⟨rfl,h1⟩;rw[h5];exact⟨none,0,rfl,h1,Ae.nil _ _ _ _ _ _ _⟩
theorem QN(w:World)(B wb:Nat)(A:AN)(n:Nat->Nat)(nc:Nat)(CV PV:Nat->Value)(M:Nat->Nat)(FF:Nat->Nat->PF)(h:B3 w B wb A n nc CV PV M FF)(cb g cap m:Nat)(F:Nat->PF)(K:Nat->Nat->Bool)(H:Nat->Nat->Int)(CA:Nat->Option Addr)(CC:Nat->Nat)(pb po pcc:Nat)(CA2:Nat->Option Addr)(CC2:Nat->Nat)(kd at_ N:Int)(ep pp:Option Addr)(ec pl pc:Nat)(E:List Ev)
  (c1:w.cell? ⟨cb,0,none⟩=some (.slice (some ⟨g,0,none⟩) m cap)) (hP:BD w g 0 m F CA CC) (hcc:∀ k,k<m->(F k).cn<=CC k) (hP2:BD w pb po m F CA2 CC2) (hF:AP m F K H) (hEv:Bs w w.heap.size (.slice ep E.length ec) E) (hEl:E.length<=5864062014805) (hn0:n 0<=3000000000000) :
  Calls prog 61 #[.pointer (some ⟨wb,0,none⟩),.pointer (some ⟨cb,0,none⟩),.slice (some ⟨pb,po,none⟩) m pcc,.agg #[.int .i64 kd,.int .i64 at_,.int .i64 N,.slice ep E.length ec,.slice pp pl pc]] w (Cn w B wb n nc CV PV M FF):=by
 have hcz:=Tr w _ c1;have hwz:=Ah h.hold.blk;obtain⟨W,hWd⟩:∃ W,W=w.alloc (.cells #[.int .i64 kd,.int .i64 at_,.int .i64 N,.slice ep E.length ec,.slice pp pl pc] 100):=⟨_,rfl⟩
 have hW:Below w.heap.size w W:=by rw[hWd];exact(Tu _ _).alloc (Te _) _
 have ob:W.heap[w.heap.size]?=some (.cells #[.int .i64 kd,.int .i64 at_,.int .i64 N,.slice ep E.length ec,.slice pp pl pc] 100 (0,0)):=by rw[hWd];exact Tv _ _
 have hEX:∀ X,Below w.heap.size w X->Bs X X.heap.size (.slice ep E.length ec) E:=fun X hX=>by
  obtain⟨p',c',hv,h1,h2⟩:=hEv.below hX;refine⟨p',c',hv,h1,fun h0=>?_⟩;obtain⟨eb,eo,e1,e2,e3⟩:=h2 h0;exact⟨eb,eo,e1,by have:=hX.size;omega,e3⟩
 have HT:=Aa (II W E _ (hEX W hW) hEl);have o2:W.cell? ⟨w.heap.size,2,none⟩=some (.int .i64 N):=(Ab ob).trans rfl;have o3:W.cell? ⟨w.heap.size,3,none⟩=some (.slice ep E.length ec):=(Ab ob).trans rfl;have hoz:w.heap.size<W.heap.size:=Ah ob;have HX:=Aa (Tc h (Tc hW (Tc c1 (Tc hP (Tc hcc (Tc hP2 (Tc hF (Tc hEX hn0))))))));have HD:=Aa hWd;clear h hW ob c1 hP hcc hP2 hF hEv hEX hn0 hWd;go_enter func61,ntmps61
 go_wp2_with fail
 rw[<-HD.out];refine HT.out.mono ?_;rintro e w1 ⟨rfl,hB1,hrow⟩;have hWs:=hB1.size;have p2:w1.cell? ⟨w.heap.size,2,none⟩=some (.int .i64 N):=(hB1.cell (p:=⟨w.heap.size,2,none⟩) hoz).trans o2;have p3:w1.cell? ⟨w.heap.size,3,none⟩=some (.slice ep E.length ec):=(hB1.cell (p:=⟨w.heap.size,3,none⟩) hoz).trans o3;have htz:W.heap.size<w1.heap.size:=by obtain⟨cur,h1,_⟩:=hrow;exact Ah h1
 have hw1:Below w.heap.size w w1:=HX.out.2.1.trans (hB1.mono HX.out.2.1.size);obtain⟨e0,e1,e2,e3,d0,d1,d2,er,l,hR,hl,hcase⟩:=NA (N:=N) ((hw1.cell (p:=⟨cb,0,none⟩) hcz).trans HX.out.2.2.1) (HX.out.2.2.2.1.below hw1 (Te _)) HX.out.2.2.2.2.1 HX.out.2.2.2.2.2.2.1 (MB hrow htz);have HW1:=Aa (Tc hw1 (Tc hrow hcase));have HR:=Aa hR;have hoz1:w.heap.size<w1.heap.size:=by omega
 have HS:=Aa (fun (w':World) (hb:Below w1.heap.size w1 w')=>(show w'.cell? ⟨w.heap.size,2,none⟩=some (.int .i64 N)/\w'.cell? ⟨w.heap.size,3,none⟩=some (.slice ep E.length ec) from ⟨(hb.cell (p:=⟨w.heap.size,2,none⟩) hoz1).trans p2,(hb.cell (p:=⟨w.heap.size,3,none⟩) hoz1).trans p3⟩));have j0:(0:Int)<=(E.length:Int):=by omega
 have j1:(E.length:Int)<=(E.length:Int)+2:=by omega
 have H0:=Aa (C0.start w1 l);clear hw1 hB1 hrow HT o2 o3 hR hcase p2 p3 hcz hwz;go_upto_region 2 with fail
 go_cut [10,11,12] from 20 to 33 (fun v10 v11 v12 wc=>MM w1 e0 e1 e2 e3 d0 d1 d2 er l v10 v11 v12 wc)
 case first =>
  refine LE (Below w1.heap.size w1) (.free 0 (.free 1 (.free 2 (.free 3 (.free 4 (.free 5 (.free 6 (.free 7 (.three 8 (.free 9 (.free 10 (.free 11 (.free 12 (.two 13 (.one 14 (.one 15 (.one 16 (.free 17 .done)))) 14 (.one 13 (.one 15 (.one 16 (.free 17 .done))))))))) 13 (.two 8 (.free 9 (.free 10 (.free 11 (.free 12 (.one 14 (.one 15 (.one 16 (.free 17 .done)))))))) 14 (.one 8 (.free 9 (.free 10 (.free 11 (.free 12 (.one 15 (.one 16 (.free 17 .done))))))))) 14 (.two 8 (.free 9 (.free 10 (.free 11 (.free 12 (.one 13 (.one 15 (.one 16 (.free 17 .done)))))))) 13 (.one 8 (.free 9 (.free 10 (.free 11 (.free 12 (.one 15 (.one 16 (.free 17 .done)))))))))))))))))) (by kernel_rfl) (by kernel_rfl) (Co _ _ _) (Tu _ _).drew ?_;iterate 8 (refine C7 rfl (by rfl) (by intro w' hS';obtain⟨q0,q1⟩:=HS.out w' hS';clear hS';go_simp;exact rfl) ?_;simp only[Act.put,List.getElem_toArray,List.getElem_cons_zero,List.getElem_cons_succ,Td,Th,Tg])
  refine OZ ?_ ?_ ?_
  ·refine BJ rfl (fun K9 hK=>?_);go_simp;refine(HR.out _ H0.out.bl).mono ?_;rintro e u2 ⟨vp,vcap,rfl,hB2,hO⟩;have S1:=Aa (H0.out.call hB2 hO);clear hB2 hO;refine hK.out _ _ S1.out.bl ?_;clear hK K9;iterate 4 (refine C7 rfl (by rfl) (by intro w' hS';clear hS';go_simp;exact rfl) ?_;simp only[Act.put,List.getElem_toArray,List.getElem_cons_zero,List.getElem_cons_succ,Td,Th,Tg])
   refine Hr ?_ ?_
   ·refine BJ rfl (fun K9 hK=>?_);go_simp;have S2:=Aa S1.out.alloc46;unfold oz at S2;refine hK.out _ _ S2.out.bl ?_;clear hK K9;refine BJ rfl (fun K9 hK=>?_);go_simp;have S3:=Aa S2.out.alloc61;unfold nz at S3;refine hK.out _ _ S3.out.bl ?_;clear hK K9;have ST:=S3;simp only[Ip] at ST;generalize (u2.alloc (.cells #[.int .i64 0,.int .i64 0,.int .i64 0,.int .i64 0,.slice none 0 0] 46)).alloc (.cells #[.int .i64 0,.int .i64 0,.int .i64 0] 61)=X at *;obtain⟨⟨x0,x1,x2,x3,x4⟩,⟨z0,z1,z2,z3,z4⟩,xl⟩:=ST.out.a_reads;refine BJ rfl (fun K9 hK=>?_);go_simp;refine hK.out _ _ (ST.out.a_set e0 e1 e2 e3).1 ?_;clear hK K9 x0 x1 x2 x3 x4 z0 z1 z2 z3 z4;change CK _ _ _ _ _ _ (Cu X (u2.heap.size) e0 e1 e2 e3 (.slice vp l.length vcap));obtain⟨k1,_,k3,_⟩:=ST.out.a_set e0 e1 e2 e3;have HF:=Aa (ST.out.n_set e0 e1 e2 e3 d0 d1 d2 er);generalize Cu X (u2.heap.size) e0 e1 e2 e3 (.slice vp l.length vcap)=Y at *;obtain⟨⟨x0,x1,x2⟩,⟨z0,z1,z2⟩,xl2⟩:=FV k3;clear k3;refine BJ rfl (fun K9 hK=>?_);go_simp;refine hK.out _ _ (show Below w1.heap.size w1 (EE Y (u2.heap.size+1) d0 d1 d2) from by obtain⟨_,_,_,_,_,_,_,_,hh,_⟩:=HF.out;exact hh) ?_;clear hK K9 x0 x1 x2 z0 z1 z2
    (refine C7 rfl (by rfl) (by intro w' hS';clear hS';go_simp;exact rfl) ?_;simp only[Act.put,List.getElem_toArray,List.getElem_cons_zero,List.getElem_cons_succ,Td,Th,Tg])
    refine E4 ?_;go_wp2_with fail
    go_meet;exact HF.out
   ·refine BJ rfl (fun K9 hK=>?_);go_simp;have S2:=Aa S1.out.alloc61;unfold nz at S2;refine hK.out _ _ S2.out.bl ?_;clear hK K9;refine BJ rfl (fun K9 hK=>?_);go_simp;have S3:=Aa S2.out.alloc46;unfold oz at S3;refine hK.out _ _ S3.out.bl ?_;clear hK K9;have ST:=S3;simp only[Ip] at ST;generalize (u2.alloc (.cells #[.int .i64 0,.int .i64 0,.int .i64 0] 61)).alloc (.cells #[.int .i64 0,.int .i64 0,.int .i64 0,.int .i64 0,.slice none 0 0] 46)=X at *;obtain⟨⟨x0,x1,x2,x3,x4⟩,⟨z0,z1,z2,z3,z4⟩,xl⟩:=ST.out.a_reads;refine BJ rfl (fun K9 hK=>?_);go_simp;refine hK.out _ _ (ST.out.a_set e0 e1 e2 e3).1 ?_;clear hK K9 x0 x1 x2 x3 x4 z0 z1 z2 z3 z4;change CK _ _ _ _ _ _ (Cu X (u2.heap.size+1) e0 e1 e2 e3 (.slice vp l.length vcap));obtain⟨k1,_,k3,_⟩:=ST.out.a_set e0 e1 e2 e3;have HF:=Aa (ST.out.n_set e0 e1 e2 e3 d0 d1 d2 er);generalize Cu X (u2.heap.size+1) e0 e1 e2 e3 (.slice vp l.length vcap)=Y at *;obtain⟨⟨x0,x1,x2⟩,⟨z0,z1,z2⟩,xl2⟩:=FV k3;clear k3;refine BJ rfl (fun K9 hK=>?_);go_simp;refine hK.out _ _ (show Below w1.heap.size w1 (EE Y (u2.heap.size) d0 d1 d2) from by obtain⟨_,_,_,_,_,_,_,_,hh,_⟩:=HF.out;exact hh) ?_;clear hK K9 x0 x1 x2 z0 z1 z2
    (refine C7 rfl (by rfl) (by intro w' hS';clear hS';go_simp;exact rfl) ?_;simp only[Act.put,List.getElem_toArray,List.getElem_cons_zero,List.getElem_cons_succ,Td,Th,Tg])
    refine E4 ?_;go_wp2_with fail
    go_meet;exact HF.out
  ·refine BJ rfl (fun K9 hK=>?_);go_simp;have S1:=Aa H0.out.alloc46;unfold oz at S1;refine hK.out _ _ S1.out.bl ?_;clear hK K9;refine Hr ?_ ?_
   ·refine BJ rfl (fun K9 hK=>?_);go_simp;refine(HR.out _ S1.out.bl).mono ?_;rintro e u2 ⟨vp,vcap,rfl,hB2,hO⟩;have S2:=Aa (S1.out.call hB2 hO);clear hB2 hO;refine hK.out _ _ S2.out.bl ?_;clear hK K9;iterate 4 (refine C7 rfl (by rfl) (by intro w' hS';clear hS';go_simp;exact rfl) ?_;simp only[Act.put,List.getElem_toArray,List.getElem_cons_zero,List.getElem_cons_succ,Td,Th,Tg])
    refine BJ rfl (fun K9 hK=>?_);go_simp;have S3:=Aa S2.out.alloc61;unfold nz at S3;refine hK.out _ _ S3.out.bl ?_;clear hK K9;have ST:=S3;simp only[TM] at ST;generalize u2.alloc (.cells #[.int .i64 0,.int .i64 0,.int .i64 0] 61)=X at *;obtain⟨⟨x0,x1,x2,x3,x4⟩,⟨z0,z1,z2,z3,z4⟩,xl⟩:=ST.out.a_reads;refine BJ rfl (fun K9 hK=>?_);go_simp;refine hK.out _ _ (ST.out.a_set e0 e1 e2 e3).1 ?_;clear hK K9 x0 x1 x2 x3 x4 z0 z1 z2 z3 z4;change CK _ _ _ _ _ _ (Cu X (w1.heap.size) e0 e1 e2 e3 (.slice vp l.length vcap));obtain⟨k1,_,k3,_⟩:=ST.out.a_set e0 e1 e2 e3;have HF:=Aa (ST.out.n_set e0 e1 e2 e3 d0 d1 d2 er);generalize Cu X (w1.heap.size) e0 e1 e2 e3 (.slice vp l.length vcap)=Y at *;obtain⟨⟨x0,x1,x2⟩,⟨z0,z1,z2⟩,xl2⟩:=FV k3;clear k3;refine BJ rfl (fun K9 hK=>?_);go_simp;refine hK.out _ _ (show Below w1.heap.size w1 (EE Y (u2.heap.size) d0 d1 d2) from by obtain⟨_,_,_,_,_,_,_,_,hh,_⟩:=HF.out;exact hh) ?_;clear hK K9 x0 x1 x2 z0 z1 z2
    (refine C7 rfl (by rfl) (by intro w' hS';clear hS';go_simp;exact rfl) ?_;simp only[Act.put,List.getElem_toArray,List.getElem_cons_zero,List.getElem_cons_succ,Td,Th,Tg])
    refine E4 ?_;go_wp2_with fail
    go_meet;exact HF.out
   ·refine BJ rfl (fun K9 hK=>?_);go_simp;have S2:=Aa S1.out.alloc61;unfold nz at S2;refine hK.out _ _ S2.out.bl ?_;clear hK K9;refine BJ rfl (fun K9 hK=>?_);go_simp;refine(HR.out _ S2.out.bl).mono ?_;rintro e u2 ⟨vp,vcap,rfl,hB2,hO⟩;have S3:=Aa (S2.out.call hB2 hO);clear hB2 hO;refine hK.out _ _ S3.out.bl ?_;clear hK K9;iterate 4 (refine C7 rfl (by rfl) (by intro w' hS';clear hS';go_simp;exact rfl) ?_;simp only[Act.put,List.getElem_toArray,List.getElem_cons_zero,List.getElem_cons_succ,Td,Th,Tg])
    have ST:=S3;simp only[Ip,TM] at ST;obtain⟨X,hXu⟩:∃ X,X=u2:=⟨_,rfl⟩
    subst hXu;obtain⟨⟨x0,x1,x2,x3,x4⟩,⟨z0,z1,z2,z3,z4⟩,xl⟩:=ST.out.a_reads;refine BJ rfl (fun K9 hK=>?_);go_simp;refine hK.out _ _ (ST.out.a_set e0 e1 e2 e3).1 ?_;clear hK K9 x0 x1 x2 x3 x4 z0 z1 z2 z3 z4;change CK _ _ _ _ _ _ (Cu X (w1.heap.size) e0 e1 e2 e3 (.slice vp l.length vcap));obtain⟨k1,_,k3,_⟩:=ST.out.a_set e0 e1 e2 e3;have HF:=Aa (ST.out.n_set e0 e1 e2 e3 d0 d1 d2 er);generalize Cu X (w1.heap.size) e0 e1 e2 e3 (.slice vp l.length vcap)=Y at *;obtain⟨⟨x0,x1,x2⟩,⟨z0,z1,z2⟩,xl2⟩:=FV k3;clear k3;refine BJ rfl (fun K9 hK=>?_);go_simp;refine hK.out _ _ (show Below w1.heap.size w1 (EE Y (w1.heap.size+1) d0 d1 d2) from by obtain⟨_,_,_,_,_,_,_,_,hh,_⟩:=HF.out;exact hh) ?_;clear hK K9 x0 x1 x2 z0 z1 z2
    (refine C7 rfl (by rfl) (by intro w' hS';clear hS';go_simp;exact rfl) ?_;simp only[Act.put,List.getElem_toArray,List.getElem_cons_zero,List.getElem_cons_succ,Td,Th,Tg])
    refine E4 ?_;go_wp2_with fail
    go_meet;exact HF.out
  ·refine BJ rfl (fun K9 hK=>?_);go_simp;have S1:=Aa H0.out.alloc61;unfold nz at S1;refine hK.out _ _ S1.out.bl ?_;clear hK K9;refine Hr ?_ ?_
   ·refine BJ rfl (fun K9 hK=>?_);go_simp;refine(HR.out _ S1.out.bl).mono ?_;rintro e u2 ⟨vp,vcap,rfl,hB2,hO⟩;have S2:=Aa (S1.out.call hB2 hO);clear hB2 hO;refine hK.out _ _ S2.out.bl ?_;clear hK K9;iterate 4 (refine C7 rfl (by rfl) (by intro w' hS';clear hS';go_simp;exact rfl) ?_;simp only[Act.put,List.getElem_toArray,List.getElem_cons_zero,List.getElem_cons_succ,Td,Th,Tg])
    refine BJ rfl (fun K9 hK=>?_);go_simp;have S3:=Aa S2.out.alloc46;unfold oz at S3;refine hK.out _ _ S3.out.bl ?_;clear hK K9;have ST:=S3;simp only[TM] at ST;generalize u2.alloc (.cells #[.int .i64 0,.int .i64 0,.int .i64 0,.int .i64 0,.slice none 0 0] 46)=X at *;obtain⟨⟨x0,x1,x2,x3,x4⟩,⟨z0,z1,z2,z3,z4⟩,xl⟩:=ST.out.a_reads;refine BJ rfl (fun K9 hK=>?_);go_simp;refine hK.out _ _ (ST.out.a_set e0 e1 e2 e3).1 ?_;clear hK K9 x0 x1 x2 x3 x4 z0 z1 z2 z3 z4;change CK _ _ _ _ _ _ (Cu X (u2.heap.size) e0 e1 e2 e3 (.slice vp l.length vcap));obtain⟨k1,_,k3,_⟩:=ST.out.a_set e0 e1 e2 e3;have HF:=Aa (ST.out.n_set e0 e1 e2 e3 d0 d1 d2 er);generalize Cu X (u2.heap.size) e0 e1 e2 e3 (.slice vp l.length vcap)=Y at *;obtain⟨⟨x0,x1,x2⟩,⟨z0,z1,z2⟩,xl2⟩:=FV k3;clear k3;refine BJ rfl (fun K9 hK=>?_);go_simp;refine hK.out _ _ (show Below w1.heap.size w1 (EE Y (w1.heap.size) d0 d1 d2) from by obtain⟨_,_,_,_,_,_,_,_,hh,_⟩:=HF.out;exact hh) ?_;clear hK K9 x0 x1 x2 z0 z1 z2
    (refine C7 rfl (by rfl) (by intro w' hS';clear hS';go_simp;exact rfl) ?_;simp only[Act.put,List.getElem_toArray,List.getElem_cons_zero,List.getElem_cons_succ,Td,Th,Tg])
    refine E4 ?_;go_wp2_with fail
    go_meet;exact HF.out
   ·refine BJ rfl (fun K9 hK=>?_);go_simp;have S2:=Aa S1.out.alloc46;unfold oz at S2;refine hK.out _ _ S2.out.bl ?_;clear hK K9;refine BJ rfl (fun K9 hK=>?_);go_simp;refine(HR.out _ S2.out.bl).mono ?_;rintro e u2 ⟨vp,vcap,rfl,hB2,hO⟩;have S3:=Aa (S2.out.call hB2 hO);clear hB2 hO;refine hK.out _ _ S3.out.bl ?_;clear hK K9;iterate 4 (refine C7 rfl (by rfl) (by intro w' hS';clear hS';go_simp;exact rfl) ?_;simp only[Act.put,List.getElem_toArray,List.getElem_cons_zero,List.getElem_cons_succ,Td,Th,Tg])
    have ST:=S3;simp only[Ip,TM] at ST;obtain⟨X,hXu⟩:∃ X,X=u2:=⟨_,rfl⟩
    subst hXu;obtain⟨⟨x0,x1,x2,x3,x4⟩,⟨z0,z1,z2,z3,z4⟩,xl⟩:=ST.out.a_reads;refine BJ rfl (fun K9 hK=>?_);go_simp;refine hK.out _ _ (ST.out.a_set e0 e1 e2 e3).1 ?_;clear hK K9 x0 x1 x2 x3 x4 z0 z1 z2 z3 z4;change CK _ _ _ _ _ _ (Cu X (w1.heap.size+1) e0 e1 e2 e3 (.slice vp l.length vcap));obtain⟨k1,_,k3,_⟩:=ST.out.a_set e0 e1 e2 e3;have HF:=Aa (ST.out.n_set e0 e1 e2 e3 d0 d1 d2 er);generalize Cu X (w1.heap.size+1) e0 e1 e2 e3 (.slice vp l.length vcap)=Y at *;obtain⟨⟨x0,x1,x2⟩,⟨z0,z1,z2⟩,xl2⟩:=FV k3;clear k3;refine BJ rfl (fun K9 hK=>?_);go_simp;refine hK.out _ _ (show Below w1.heap.size w1 (EE Y (w1.heap.size) d0 d1 d2) from by obtain⟨_,_,_,_,_,_,_,_,hh,_⟩:=HF.out;exact hh) ?_;clear hK K9 x0 x1 x2 z0 z1 z2
    (refine C7 rfl (by rfl) (by intro w' hS';clear hS';go_simp;exact rfl) ?_;simp only[Act.put,List.getElem_toArray,List.getElem_cons_zero,List.getElem_cons_succ,Td,Th,Tg])
    refine E4 ?_;go_wp2_with fail
    go_meet;exact HF.out
 case rest =>
  obtain⟨rfl,ab,nb,vp,vcap,t,rfl,rfl,hBc,hab,ba,bn,hrw,hta,htn⟩:=hcut;obtain⟨hw1,hrow,hcase⟩:=HW1.out;have hw1s:=hw1.size;have hwc:Below w.heap.size w wc:=hw1.trans (hBc.mono hw1s);obtain⟨q2,q3⟩:=HS.out wc hBc;have haz:ab<wc.heap.size:=Ah ba;have hnz:nb<wc.heap.size:=Ah bn;have hocz:w.heap.size<wc.heap.size:=by have:=hBc.size;omega
  have HSM:=Aa (KK wc E _ (HX.out.2.2.2.2.2.2.2.1 wc hwc) hEl W.heap.size (Mm hrow hBc htz));have HC:=Aa (Tc hBc (Tc hwc (Tc ba (Tc bn (Tc hrw hcase)))));have HTA:=Aa hta;clear hw1 hrow hcase hwc hBc ba bn hrw hta htn H0 HR HS;go_wp2_with fail
  refine HSM.out.mono ?_;rintro e w3 ⟨rfl,hB3⟩;have r2:=(hB3.cell (p:=⟨w.heap.size,2,none⟩) hocz).trans q2;have r3:=(hB3.cell (p:=⟨w.heap.size,3,none⟩) hocz).trans q3;have hz3:=hB3.size;have hw3:Below w.heap.size w w3:=HC.out.2.1.trans (hB3.mono HC.out.2.1.size);have HEV:=Aa (JZ w3 _ E (HX.out.2.2.2.2.2.2.2.1 w3 hw3) (m:Int));have HB3:=Aa hB3;clear hB3 hw3 q2 q3 HSM;go_wp2_with fail
  refine HEV.out.mono ?_;rintro e w4 ⟨rfl,hB4⟩;have hB4c:Below wc.heap.size wc w4:=HB3.out.trans (hB4.mono hz3);have hoz3:w.heap.size<w3.heap.size:=by omega
  have s2:=(hB4.cell (p:=⟨w.heap.size,2,none⟩) hoz3).trans r2;have s3:=(hB4.cell (p:=⟨w.heap.size,3,none⟩) hoz3).trans r3;have ba4:=(hB4c.block ab haz).trans HC.out.2.2.1;have bn4:=(hB4c.block nb hnz).trans HC.out.2.2.2.1;have hz4:=hB4c.size;have HB4:=Aa hB4c;have a0:w4.cell? ⟨ab,0,none⟩=some (.int .i64 e0):=(Ab ba4).trans rfl;have a1:w4.cell? ⟨ab,1,none⟩=some (.int .i64 e1):=(Ab ba4).trans rfl;have a2:w4.cell? ⟨ab,2,none⟩=some (.int .i64 e2):=(Ab ba4).trans rfl;have a3:w4.cell? ⟨ab,3,none⟩=some (.int .i64 e3):=(Ab ba4).trans rfl;have a4:w4.cell? ⟨ab,4,none⟩=some (.slice vp l.length vcap):=(Ab ba4).trans rfl;have n0:w4.cell? ⟨nb,0,none⟩=some (.int .i64 d0):=(Ab bn4).trans rfl;have n1:w4.cell? ⟨nb,1,none⟩=some (.int .i64 d1):=(Ab bn4).trans rfl;have n2:w4.cell? ⟨nb,2,none⟩=some (.int .i64 d2):=(Ab bn4).trans rfl;have haz4:ab<w4.heap.size:=by omega
  have hnz4:nb<w4.heap.size:=by omega
  have hHK:∀ X,Below w4.heap.size w4 X->Below w1.heap.size w1 X/\Ae X w1.heap.size t 10 43 2 (.slice vp l.length vcap) l.length (Ar l):=fun X hX=>by
   have h1:Below wc.heap.size wc X:=HB4.out.trans (hX.mono HB4.out.size);exact⟨HC.out.1.trans (h1.mono HC.out.1.size),HC.out.2.2.2.2.1.below h1⟩
  have HHK:=Aa hHK;clear hB4 hB4c ba4 bn4 r2 r3 HEV HB3 hHK;rcases HC.out.2.2.2.2.2 with⟨hok,hEo,rfl,he0,he1,he2,he3,hel,hd0,hd1,hd2⟩|⟨hbad,rfl,rfl,rfl,rfl,rfl,hel,rfl,rfl,rfl⟩
  ·have hdec:decide (BR (m:Int) E=0)=true:=by simpa using hok
   have hw4:Below w.heap.size w w4:=HC.out.2.1.trans (HB4.out.mono HC.out.2.1.size);have HPL:=Aa (I4 w4 m (.slice (some ⟨pb,po,none⟩) m pcc) (.slice ep E.length ec) F K H E N (Pg.of_prog (pc:=pcc) (HX.out.2.2.2.2.2.1.below hw4 (Te _))) HX.out.2.2.2.2.2.2.1 hEo (HX.out.2.2.2.2.2.2.2.1 w4 hw4));have HEQ:=Aa (Tc he0 (Tc he1 (Tc he2 (Tc he3 (Tc hel (Tc hd0 (Tc hd1 hd2)))))));clear hok hEo he0 he1 he2 he3 hel hd0 hd1 hd2 hw4;rw[hdec];clear hdec;go_wp2_with (go_at_call 78;refine(FQ _ _).mono ?_;rintro e w' ⟨rfl,rfl⟩)
   refine HPL.out.mono ?_;rintro e w5 ⟨rb,rfl,hB5,A2,l2⟩;have b0:=(hB5.cell (p:=⟨ab,0,none⟩) haz4).trans a0;have b1:=(hB5.cell (p:=⟨ab,1,none⟩) haz4).trans a1;have b2:=(hB5.cell (p:=⟨ab,2,none⟩) haz4).trans a2;have b3:=(hB5.cell (p:=⟨ab,3,none⟩) haz4).trans a3;have b4:=(hB5.cell (p:=⟨ab,4,none⟩) haz4).trans a4;have o0:=(hB5.cell (p:=⟨nb,0,none⟩) hnz4).trans n0;have o1:=(hB5.cell (p:=⟨nb,1,none⟩) hnz4).trans n1;have o2:=(hB5.cell (p:=⟨nb,2,none⟩) hnz4).trans n2;have hz5:=hB5.size;obtain⟨he0,he1,he2,he3,hel,hd0,hd1,hd2⟩:=HEQ.out;have c17:w5.cell? ⟨rb,17,none⟩=some (.int .i64 d0):=by rw[hd0];exact Ag.cell l2 17
   have c18:w5.cell? ⟨rb,18,none⟩=some (.int .i64 d1):=by rw[hd1];exact Ag.cell l2 18
   have c19:w5.cell? ⟨rb,19,none⟩=some (.int .i64 d2):=by rw[hd2];exact Ag.cell l2 19
   have hrbz:rb<w5.heap.size:=Ag.lt l2;have hargs:Cq w5 (.slice vp l.length vcap) l:=(HHK.out w5 hB5).2.args;have hoc:=Lg w5 _ rb A2 (C2 (Bk F E N)) (.slice vp l.length vcap) l2 (by show Cq w5 _ (Bk F E N).out;rw[<-hel];exact hargs) (by show (Bk F E N).out.length<=_;rw[<-hel];exact hl);have hoc2:Calls prog 56 #[.agg #[.int .i64 e0,.int .i64 e1,.int .i64 e2,.int .i64 e3,.slice vp l.length vcap],.pointer (some ⟨rb,0,none⟩)] w5 fun e w'=>e=.returned (.bool true)/\Below w5.heap.size w5 w':=by
    rw[he0,he1,he2,he3];exact hoc
   have HOC:=Aa hoc2;have HB5:=Aa hB5;clear hoc hoc2 hB5 l2 hargs he0 he1 he2 he3 hel hd0 hd1 hd2 a0 a1 a2 a3 a4 n0 n1 n2 s2 s3 HPL HEQ;go_wp2_with fail
   refine HOC.out.mono ?_;rintro e w6 ⟨rfl,hB6⟩;have haz5:ab<w5.heap.size:=by omega
   have hnz5:nb<w5.heap.size:=by omega
   have hz6:=hB6.size;have f4:=(hB6.cell (p:=⟨ab,4,none⟩) haz5).trans b4;have x0:=(hB6.cell (p:=⟨nb,0,none⟩) hnz5).trans o0;have x1:=(hB6.cell (p:=⟨nb,1,none⟩) hnz5).trans o1;have x2:=(hB6.cell (p:=⟨nb,2,none⟩) hnz5).trans o2;have y0:=(hB6.cell (p:=⟨rb,17,none⟩) hrbz).trans c17;have y1:=(hB6.cell (p:=⟨rb,18,none⟩) hrbz).trans c18;have y2:=(hB6.cell (p:=⟨rb,19,none⟩) hrbz).trans c19;have hnz6:nb<w6.heap.size:=by omega
   have hrz6:rb<w6.heap.size:=by omega
   have HZ:=Aa (fun (w':World) (hb:Below w6.heap.size w6 w')=>(show w'.cell? ⟨nb,0,none⟩=some (.int .i64 d0)/\w'.cell? ⟨nb,1,none⟩=some (.int .i64 d1)/\w'.cell? ⟨nb,2,none⟩=some (.int .i64 d2)/\w'.cell? ⟨rb,17,none⟩=some (.int .i64 d0)/\w'.cell? ⟨rb,18,none⟩=some (.int .i64 d1)/\w'.cell? ⟨rb,19,none⟩=some (.int .i64 d2) from ⟨(hb.cell (p:=⟨nb,0,none⟩) hnz6).trans x0,(hb.cell (p:=⟨nb,1,none⟩) hnz6).trans x1,(hb.cell (p:=⟨nb,2,none⟩) hnz6).trans x2,(hb.cell (p:=⟨rb,17,none⟩) hrz6).trans y0,(hb.cell (p:=⟨rb,18,none⟩) hrz6).trans y1,(hb.cell (p:=⟨rb,19,none⟩) hrz6).trans y2⟩));have HK:=Aa (fun (X:World) (hX:Below w6.heap.size w6 X)=>HHK.out X ((HB5.out.trans (hB6.mono HB5.out.size)).trans (hX.mono (by omega))));have heq:=La d0 d1 d2;clear hB6 b0 b1 b2 b3 b4 o0 o1 o2 c17 c18 c19 x0 x1 x2 y0 y1 y2 HOC HB5;go_wp2_with fail
   refine AG (Below w6.heap.size w6) [(false,0),(false,1),(false,2),(false,3),(false,4),(false,5),(false,6),(false,7),(false,8),(false,9),(false,10),(false,11),(false,12),(false,13)] (by kernel_rfl) (by kernel_rfl) (fun c0 a0 d0 v0 z0 h0=>DN 0 f61 (Cn w B wb n nc CV PV M FF) c0 a0 d0 v0 z0 h0) (Tu _ _).drew ?_;simp only[lexL,Tl,Tm];iterate 14 (refine Aw (by rfl) (by intro w' hS';obtain⟨q0,q1,q2,q3,q4,q5⟩:=HZ.out w' hS';clear hS';go_simp;exact rfl) ?_;simp only[Act.put,Td,Th,Tg])
   refine AF ?_;clear HZ heq;go_wp2_with fail
   refine AG (fun w'=>w'.cell? ⟨ab,4,none⟩=some (.slice vp l.length vcap)) TG (by kernel_rfl) (by kernel_rfl) (fun c0 a0 d0 v0 z0 h0=>A8 (P:=prog) f61 (Cn w B wb n nc CV PV M FF) c0 a0 d0 v0 z0 h0) f4 ?_;simp only[TG,lexL,Tl,Tm];iterate 5 (refine Aw (by rfl) (by intro w' hS';go_simp;exact rfl) ?_;simp only[Act.put,Td,Th,Tg])
   refine Az (fun K' hK=>?_);go_simp;refine(ML HX.out.1 HW1.out.1 (HK.out _ (Tu _ _).drew.drew).1 vp vcap l t (HK.out _ (Tu _ _).drew.drew).2 hl HX.out.2.2.2.2.2.2.2.2).mono ?_;rintro e w7 ⟨rfl,hQ,hblk⟩;have HQ:=Aa hQ;refine hK.out _ _ ((Tw (a:=⟨ab,4,none⟩) (hblk ab hab (by show ab<w6.heap.size;omega) HTA.out)).trans f4) ?_;clear hK K' hQ hblk f4;refine AF ?_;go_wp2;go_ret;exact HQ.out
  ·have hdec:decide (BR (m:Int) E=0)=false:=by simpa using hbad
   have HK:=Aa (fun (X:World) (hX:Below w4.heap.size w4 X)=>HHK.out X hX);subst hel;simp only[List.length_nil] at a4;have hq1:=OU 0 0;have hq2:=La 0 0 0;clear hbad;rw[hdec];clear hdec s2 s3;go_wp2_with (go_at_call 78;refine(FQ _ _).mono ?_;rintro e w' ⟨rfl,rfl⟩)
   refine AG (fun w'=>w'.cell? ⟨ab,4,none⟩=some (.slice vp 0 vcap)) TG (by kernel_rfl) (by kernel_rfl) (fun c0 a0 d0 v0 z0 h0=>A8 (P:=prog) f61 (Cn w B wb n nc CV PV M FF) c0 a0 d0 v0 z0 h0) a4 ?_;simp only[TG,lexL,Tl,Tm];iterate 5 (refine Aw (by rfl) (by intro w' hS';go_simp;exact rfl) ?_;simp only[Act.put,Td,Th,Tg])
   refine Az (fun K' hK=>?_);go_simp;refine(ML HX.out.1 HW1.out.1 (HK.out _ (Tu _ _).drew).1 vp vcap [] t (HK.out _ (Tu _ _).drew).2 hl HX.out.2.2.2.2.2.2.2.2).mono ?_;rintro e w7 ⟨rfl,hQ,hblk⟩;have HQ:=Aa hQ;refine hK.out _ _ ((Tw (a:=⟨ab,4,none⟩) (hblk ab hab haz4 HTA.out)).trans a4) ?_;clear hK K' hQ hblk a4;refine AF ?_;go_wp2;go_ret;exact HQ.out
end Go.Proofs.YtkafkipjedpohaaGreatDoor

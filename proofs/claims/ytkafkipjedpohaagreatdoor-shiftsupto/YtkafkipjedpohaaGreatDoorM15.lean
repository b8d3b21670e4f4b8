import Derived.Test.YtkafkipjedpohaaGreatDoorM12
import Derived.Test.YtkafkipjedpohaaGreatDoorR10
namespace Go.Proofs.YtkafkipjedpohaaGreatDoor
open Go.RowKit _root_.Go.Proofs.Tryz
theorem R6(w:World)(B mb:Nat)(A:Af)(s:Mc)(en:Int)(f:Fr)(rest:List Fr)(op a:Int)(m:Nat)(locals n:Int)(hl:Bz op a locals n m=true)(h10:op≠10)(h11:op≠11)(h13:op≠13)(h14:op≠14)
  (hp:At op a<=f.stk.length) (hok:By m s.arr.length f.stk) (hloc:(f.loc.length:Int)=locals) (hh:f.stk.length<=40) (hL:AB w B mb A s en) (hs:s.fr=f::rest) (hB:B<=w.heap.size) (ho:s.out.length<=100000) (hm:s.arr.length<=150000) (hc:AL s.arr<=200) :
  Calls prog 121 #[.pointer (some ⟨mb,0,none⟩),.pointer (some ⟨A.FB rest.length,0,none⟩),.agg #[.int .i64 op,.int .i64 a]] w (Bv w B mb A s en rest (Ak op a f s.arr s.out)):=by
 have hr:=E3 hl;by_cases e:op=0
 ·subst e;exact NN w B mb A s en f rest a hL hs hB (by omega)
 by_cases e:op=1
 ·subst e;exact Nr w B mb A s en f rest a hL hs hB (by omega)
 by_cases e:op=12
 ·subst e;exact Rv w B mb A s en f rest a hL hs hB (by omega)
 by_cases e:op=2
 ·subst e;have hf:0<=a/\a<locals:=by simpa [Bz] using hl
  have h:=Oa w B mb A s en f rest a.toNat (by omega) hL hs hB (by omega);rw[show ((a.toNat:Nat):Int)=a by omega] at h;exact h
 have hp1:1<=f.stk.length:=by
  have:1<=At op a:=by unfold At A6;rw[if_neg h13,if_neg (by omega)];split<;>(try split)<;>omega
  omega
 obtain⟨x,r,hst⟩:∃ x r,f.stk=x::r:=by
  cases hc:f.stk with
  |nil=>rw[hc] at hp1;simp at hp1
  |cons x r=>exact⟨x,r,rfl⟩
 have hlr:r.length+1=f.stk.length:=by rw[hst];rfl
 by_cases e:op=3
 ·subst e;have hf:0<=a/\a<locals:=by simpa [Bz] using hl
  have h:=Rm w B mb A s en f rest a.toNat (by omega) x r hst hL hs hB (by omega);rw[show ((a.toNat:Nat):Int)=a by omega] at h;exact h
 have hxk:x.k=2->0<=x.n/\x.n<s.arr.length:=(hok x (by rw[hst];exact Ti)).1;by_cases e:op=19
 ·subst e;exact M8 w B mb A s en f rest a x r hst hL hs hB (by omega) ho
 by_cases e:op=20
 ·subst e;exact QX w B mb A s en f rest a x r hst hL hs hB (by omega)
 by_cases e:op=21
 ·subst e;exact PN w B mb A s en f rest a x r hst hL hs hB (by omega)
 by_cases e:op=15
 ·subst e;exact O0 w B mb A s en f rest a x r hst hL hs hB (by omega) hm hc
 by_cases e:op=18
 ·subst e;exact Pu w B mb A s en f rest a x r hst hxk hL hs hB (by omega)
 have hp2:2<=f.stk.length:=by
  have:2<=At op a:=by unfold At A6;rw[if_neg h13,if_neg (by omega)];split<;>(try split)<;>omega
  omega
 obtain⟨y,q,hst2⟩:∃ y q,r=y::q:=by
  cases hc:r with
  |nil=>rw[hc] at hlr;simp at hlr;omega
  |cons x r=>exact⟨x,r,rfl⟩
 subst hst2;have hlq:q.length+1=(y::q).length:=rfl;have hyk:y.k=2->0<=y.n/\y.n<s.arr.length:=(hok y (by rw[hst];simp)).1;by_cases e:op=16
 ·subst e;exact M9 w B mb A s en f rest a x y q hst hyk hL hs hB (by omega)
 by_cases e:op=9
 ·subst e;exact PH w B mb A s en f rest a x y q hst hL hs hB (by omega)
 by_cases e:op=17
 ·subst e;have hp3:3<=f.stk.length:=by
   have:3<=At 17 a:=by simp[At,A6]
   omega
  obtain⟨z,p,hst3⟩:∃ z p,q=z::p:=by
   cases hc:q with
   |nil=>rw[hc] at hlq hlr;simp at hlr;omega
   |cons x r=>exact⟨x,r,rfl⟩
  subst hst3;have hzk:z.k=2->0<=z.n/\z.n<s.arr.length:=(hok z (by rw[hst];simp)).1;exact Ra w B mb A s en f rest a x y z p hst hzk hL hs hB (by simp at hlr;omega)
 exact RE w B mb A s en f rest a op (by omega) x y q hst hL hs hB (by omega)
theorem LI(op:Int)(w:World):Calls prog 119 #[.int .i64 op] w fun e w'=>e=.returned (.bool (decide (op=10\/op=11\/op=13\/op=14)))/\w'=w:=by
 by_cases e:op=10
 ·subst e;go_enter func119,ntmps119
  go_wp2;go_ret;exact⟨rfl,rfl⟩
 by_cases e:op=11
 ·subst e;go_enter func119,ntmps119
  go_wp2;go_ret;exact⟨rfl,rfl⟩
 by_cases e:op=13
 ·subst e;go_enter func119,ntmps119
  go_wp2;go_ret;exact⟨rfl,rfl⟩
 by_cases e:op=14
 ·subst e;go_enter func119,ntmps119
  go_wp2;go_ret;exact⟨rfl,rfl⟩
 have h:decide (op=10\/op=11\/op=13\/op=14)=false:=by simp;omega
 rw[h];have o1:(op==10)=false:=by simp;omega
 have o2:(op==11)=false:=by simp;omega
 have o3:(op==13)=false:=by simp;omega
 have o4:(op==14)=false:=by simp;omega
 clear h;go_enter func119,ntmps119
 go_wp2;go_ret;exact⟨rfl,rfl⟩
set_option maxRecDepth 100000
set_option maxHeartbeats 16000000
theorem A8{P:Program}(fn:Func)(R:Ending->World->Prop)(c:_)(a:Act)(d:Option Tmp)(v:Value)(w:World)(h:bodyPost P fn R (.panic c) (Act.put a d v) w):bodyPost P fn R (.panic c) a w:=by
 have h:(Act.put a d v).defers=[]/\R (.panicked c) w:=h;rw[IP] at h;exact h
def Pg(w:World)(B:Nat)(pv:Value)(m:Nat)(F:Nat->PF):Prop :=
 ∃ pb po pc CA CC,∃ w0:World,pv=.slice (some ⟨pb,po,none⟩) m pc/\w0.heap.size=B/\BD w0 pb po m F CA CC/\Below B w0 w
section
variable {A A':Af}{w w':World}{B m mb:Nat}{F:Nat->PF}{en en':Int}{s s':Mc}{MV:Nat->Value}
theorem Pg.below{pv:Value}(h:Pg w B pv m F)(k:Below B w w'):Pg w' B pv m F:=by
 obtain⟨pb,po,pc,CA,CC,w0,h1,h2,h3,h4⟩:=h;exact⟨pb,po,pc,CA,CC,w0,h1,h2,h3,h4.trans k⟩
theorem Pg.at_{pv:Value}(h:Pg w B pv m F):∃ pb po pc CA CC,pv=.slice (some ⟨pb,po,none⟩) m pc/\BD w pb po m F CA CC/\pb<B/\∀ k,k<m->∀ cb co,CA k=some ⟨cb,co,none⟩->1<=(F k).cn->cb<B:=by
 obtain⟨pb,po,pc,CA,CC,w0,h1,h2,h3,h4⟩:=h;refine⟨pb,po,pc,CA,CC,h1,h3.below h4 (by omega),by rw[<-h2];exact h3.lt,fun k hk cb co hc hcn=>?_⟩;obtain⟨cb',co',e,hlt,_⟩:=(h3.fn k hk).code hcn;rw[hc] at e;injection e with e;injection e with e;omega
def Cq(w:World)(v:Value)(al:List V):Prop :=
 (al=[]/\∃ a c,v=.slice a 0 c)\/∃ ab c,v=.slice (some ⟨ab,0,none⟩) al.length c/\ab<w.heap.size/\∀ i,i<al.length * 2->w.cell? ⟨ab,i,none⟩=some (Ar al i)
theorem Tryz.sizeV:(prog.info? 43).map (·.size)=some 2:=by kernel_rfl
theorem I5(l:List V)(i:Nat):(Ar l i).oneCell'=true:=by unfold Ar;split<;>rfl
theorem LN(w:World)(L:Nat)(al:List V)(v:Value)(hv:Cq w v al)(hl:al.length<=L) :
  ∃ (W2:World) (k:Nat),(Builtin.copy_ #[44,44] 3 #[.slice (some ⟨w.heap.size,0,none⟩) L L,v]).run prog (w.alloc (.cells (Bm L) 43))=.ok (goInt k) W2/\Below w.heap.size w W2/\W2.heap.size=w.heap.size+1 /\
   ∃ cur:Array Value,W2.heap[w.heap.size]?=some (.cells cur 43 (0,0))/\cur.size=L * 2/\∀ i,i<L * 2->cur[i]?=some (Ar (al++List.replicate (L-al.length) As) i):=by
 have hA:Below w.heap.size w (w.alloc (.cells (Bm L) 43)):=(Tu _ _).alloc (Te _) _;have Av:(Bm L).size=L * 2:=by simp[Bm,size_madeCells]
 have hz:∀ i,i<L * 2->(Bm L)[i]?=some (.int .i64 0):=fun i hi=>by
  have:i % 2=0\/i % 2=1:=by omega
  rcases this with e|e<;>simp[Bm,madeCells,hi,e]
 have hvn:∀ i,al.length * 2<=i->Ar (al++List.replicate (L-al.length) As) i=.int .i64 0:=fun i hi=>by
  unfold Ar;rw[Tj,List.getElem?_append_right (by omega)];by_cases h:i / 2-al.length<L-al.length
  ·rw[List.getElem?_replicate,if_pos h];split<;>rfl
  ·rw[List.getElem?_replicate,if_neg h];split<;>rfl
 rcases hv with⟨rfl,a,c,rfl⟩|⟨ab,c,rfl,hab,hcells⟩
 ·refine⟨_,0,I7 _ _ _ _ _ _ _ _ _ _ underlying44 2 Tryz.sizeV,hA,by simp,Bm L,Tv _ _,Av,fun i hi=>?_⟩;rw[hz i hi,hvn i (by simp)]
 ·have hrun:=Jc (P:=prog) (w.alloc (.cells (Bm L) 43)) 44 44 3 43 2 w.heap.size L L ⟨ab,0,none⟩ al.length c (Bm L) 43 ((List.range (al.length * 2)).map (Ar al)) underlying44 Tryz.sizeV (Tv _ _) hl (by simp)
   (fun j u hu=>by
    have hj:j<al.length * 2:=by
     have:=(List.getElem?_eq_some_iff.1 hu).1;simpa using this
    have hu':Ar al j=u:=by simpa [hj] using hu
    rw[Addr.add_lit,Nat.zero_add];rw[<-hu'];exact(hA.cell (p:=⟨ab,j,none⟩) hab).trans (hcells j hj)) (by rw[Av];simp;omega) (fun u hu=>by
    obtain⟨j,_,rfl⟩:=List.mem_map.1 hu;exact I5 al j)
  refine⟨_,al.length,hrun,?_,by simp[World.setRow],_,Go.setRow_heap _ _ _ _ 43 (0,0) (Tv _ _),?_,fun i hi=>?_⟩
  ·exact⟨rfl,rfl,rfl,by simp[World.setRow],fun k hk=>by rw[Go.setRow_other _ _ _ _ (by omega)];exact hA.block k hk⟩
  ·simp[Av];omega
  ·by_cases h:i<al.length * 2
   ·rw[List.getElem?_toArray,Tq (by simpa using h)];simp[h];unfold Ar;rw[Tj,Tj,Tq (by omega)]
   ·rw[List.getElem?_toArray,List.getElem?_append_right (by simp;omega),hvn i (by omega)];simp only[List.length_map,List.length_range,List.getElem?_drop,Array.getElem?_toList];rw[show al.length * 2+(i-al.length * 2)=i by omega];exact hz i hi
structure Bw (A A':Af):Prop where
 pv:A'.g.pv=A.g.pv
 ev:A'.g.ev=A.g.ev
 mv:A'.g.mv=A.g.mv
theorem Bw.refl(A:Af):Bw A A:=⟨rfl,rfl,rfl⟩
theorem Bw.trans{B C:Af}(h:Bw A B)(k:Bw B C):Bw A C:=⟨k.pv.trans h.pv,k.ev.trans h.ev,k.mv.trans h.mv⟩
theorem Bw.of(h:A'.g=A.g):Bw A A':=⟨by rw[h],by rw[h],by rw[h]⟩
def CT(v:Value)(b:Bool):Prop:=(b=false/\v=.slice none 0 0)\/(b=true/\∃ a n c,v=.slice (some a) n c)
def AU(l:List Bool)(i:Nat):Bool:=l.reverse.getD i false
theorem Ff(b:Bool)(r:List Bool){k:Nat}(h:k=r.length):AU (b::r) k=b:=by
 subst h;unfold AU;simp[List.getD_eq_getElem?_getD]
theorem EF(b:Bool)(r:List Bool)(i:Nat)(h:i<r.length):AU (b::r) i=AU r i:=by
 unfold AU;rw[Tj,Tj,List.reverse_cons,Tq (by simpa using h)]
structure AH (w:World) (B mb m:Nat) (F:Nat->PF) (MV:Nat->Value) (A:Af) (s:Mc) (en:Int):Prop where
 lay:AB w B mb A s en
 hl:s.high.length=s.fr.length
 cod:∀ i,i<s.fr.length->CT (A.g.CV i) (AU s.high i)
 cnt:A.g.hi=s.cH/\A.g.up=s.cU/\A.g.dn=s.cD
 made:Ae w B A.tag 6 136 1 A.g.mv m MV
 mds:∀ k,k<m->CT (MV k) (s.made k)
 pg:Pg w B A.g.pv m F
 le:B<=w.heap.size
def AQ(w:World)(B mb m:Nat)(F:Nat->PF)(MV:Nat->Value)(n0:Nat)(A:Af)(s':Mc)(en:Int)(w':World):Prop :=
 ∃ A':Af,AH w' B mb m F MV A' s' en/\Bw A A'/\Ch B N5 A.tag A'.tag w w'/\(∀ i,i<s'.fr.length->i<n0->A'.FB i=A.FB i) /\
  ∀ i,i<s'.fr.length->(i<n0->A'.g.CV i=A.g.CV i)/\(n0<=i->A'.g.CV i=MV (Am s'.fr i).fn)
theorem Dc(h:A'.g=A.g)(i:Nat):A'.FB i=A.FB i:=by unfold Af.FB;rw[h]
theorem AH.ch(h:AH w B mb m F MV A s en)(hL:AB w' B mb A' s' en')(hhl:s'.high.length=s'.fr.length)(hcod:∀ i,i<s'.fr.length->CT (A'.g.CV i) (AU s'.high i))(hcnt:A'.g.hi=s'.cH/\A'.g.up=s'.cU/\A'.g.dn=s'.cD)(hmk:s'.made=s.made)(hg:Bw A A')(hc:Ch B N5 A.tag A'.tag w w'):AH w' B mb m F MV A' s' en' :=
 ⟨hL,hhl,hcod,hcnt,by rw[hg.mv];exact h.made.keep hc Kx,by rw[hmk];exact h.mds,by rw[hg.pv];exact h.pg.below (hc.below h.le),Nat.le_trans h.le hc.size⟩
structure Hs (s s':Mc):Prop where
 len:s'.fr.length=s.fr.length
 high:s'.high=s.high
 made:s'.made=s.made
 cH:s'.cH=s.cH
 cU:s'.cU=s.cU
 cD:s'.cD=s.cD
theorem AH.same(h:AH w B mb m F MV A s en)(hL:AB w' B mb A' s' en')(hg:A'.g=A.g)(hc:Ch B N5 A.tag A'.tag w w')(hs:Hs s s'):AH w' B mb m F MV A' s' en' :=
 h.ch hL (by rw[hs.high,hs.len];exact h.hl) (fun i hi=>by rw[hg,hs.high];exact h.cod i (by rw[<-hs.len];exact hi)) (by rw[hg,hs.cH,hs.cU,hs.cD];exact h.cnt) hs.made (Bw.of hg) hc
theorem AH.aft(h:AH w B mb m F MV A s en)(hA:CX N5 w w' B mb A s' en')(hs:Hs s s'):AQ w B mb m F MV s.fr.length A s' en' w':=by
 obtain⟨A',h1,h2,h3⟩:=hA;exact⟨A',h.same h1 h2 h3 hs,Bw.of h2,h3,fun i _ _=>Dc h2 i,fun i hi=>⟨fun _=>by rw[h2],fun h=>absurd h (by rw[hs.len] at hi;omega)⟩⟩
theorem AQ.on{w1:World}{n0:Nat}{A1:Af}(hg:A1.g=A.g)(hc:Ch B N5 A.tag A1.tag w w1)(h:AQ w1 B mb m F MV n0 A1 s' en w'):AQ w B mb m F MV n0 A s' en w':=by
 obtain⟨A',h1,h2,h3,h4,h5⟩:=h;exact⟨A',h1,(Bw.of hg).trans h2,hc.trans h3,fun i hi hn=>(h4 i hi hn).trans (Dc hg i),fun i hi=>⟨fun h=>by rw[(h5 i hi).1 h,hg],(h5 i hi).2⟩⟩
theorem AB.pushed{tag':Nat->Nat}{fv lv sv cv:Value}{q:Nat}{f0:Fr}(h:AB w B mb A s en)(k:Ch B (fun d=>d=0\/d=1) A.tag tag' w w')
  (hmb:w'.heap[mb]?=some (.cells ((D4 A s en).setIfInBounds 3 fv) 130 (0,0))) (hfr:Ae w' B tag' 1 133 1 fv (s.fr.length+1) (CE (Ac A.FB s.fr.length q)))
  (hq:w'.heap[q]?=some (.cells (E2 f0 lv sv cv) 138 (0,0))) (hqB:B<=q) (hqt:tag' q=10+4 * s.fr.length)
  (hlo:Ae w' B tag' (11+4 * s.fr.length) 43 2 lv f0.loc.length (Ar f0.loc)) (hst:Ae w' B tag' (12+4 * s.fr.length) 43 2 sv f0.stk.length (Ar f0.stk.reverse)) :
  AB w' B mb {A with tag:=tag',g:={A.g with FB:=Ac A.FB s.fr.length q,CV:=Ac A.g.CV s.fr.length cv},fv:=fv,LV:=Ac A.LV s.fr.length lv,SV:=Ac A.SV s.fr.length sv} {s with fr:=f0::s.fr} en:=by
 refine⟨hmb,⟨h.own.1,(k.tags mb (Ah h.run)).trans h.own.2⟩,hfr,fun i hi=>?_,h.ar.keep k (by omega),h.out.keep k (by omega),fun i hi=>?_,fun i hi=>?_,fun j hj=>(h.arr j hj).keep k (by omega)⟩
 ·have hi':i<s.fr.length+1:=hi;show w'.heap[Ac A.FB s.fr.length q i]?=some (Obj.cells (E2 (Am (f0::s.fr) i) (Ac A.LV s.fr.length lv i) (Ac A.SV s.fr.length sv i) (Ac A.g.CV s.fr.length cv i)) _ _)/\B<=Ac A.FB s.fr.length q i/\tag' (Ac A.FB s.fr.length q i)=10+4 * i;by_cases e:i=s.fr.length
  ·subst e;rw[Bg,Au,Au,Au,Au];exact⟨hq,hqB,hqt⟩
  ·rw[B9 _ _ _ (by omega),Ao _ _ _ _ e,Ao _ _ _ _ e,Ao _ _ _ _ e,Ao _ _ _ _ e];obtain⟨g1,g2,g3⟩:=h.fb i (by omega);obtain⟨g4,g5⟩:=Bq g1 k (by rw[g3];omega);exact⟨g4,g2,g5.trans g3⟩
 ·have hi':i<s.fr.length+1:=hi;show Ae w' B tag' _ _ 2 (Ac A.LV s.fr.length lv i) (Am (f0::s.fr) i).loc.length (Ar (Am (f0::s.fr) i).loc);by_cases e:i=s.fr.length
  ·subst e;rw[Bg,Au];exact hlo
  ·rw[B9 _ _ _ (by omega),Ao _ _ _ _ e];exact(h.loc i (by omega)).keep k (by omega)
 ·have hi':i<s.fr.length+1:=hi;show Ae w' B tag' _ _ 2 (Ac A.SV s.fr.length sv i) (Am (f0::s.fr) i).stk.length (Ar (Am (f0::s.fr) i).stk.reverse);by_cases e:i=s.fr.length
  ·subst e;rw[Bg,Au];exact hst
  ·rw[B9 _ _ _ (by omega),Ao _ _ _ _ e];exact(h.stk i (by omega)).keep k (by omega)
theorem AB.like(h:AB w B mb A s en)(e1:s'.fr=s.fr)(e2:s'.arr=s.arr)(e3:s'.out=s.out)(e4:s'.gives=s.gives)(e5:s'.steps=s.steps):AB w B mb A s' en:=by
 obtain⟨a1,a2,a3,a4,a5,a6,a7,a8,a9⟩:=h;refine⟨?_,a2,by rw[e1];exact a3,by rw[e1];exact a4,by rw[e2];exact a5,by rw[e3];exact a6,by rw[e1];exact a7,by rw[e1];exact a8,by rw[e2];exact a9⟩;rw[a1];unfold D4;rw[e2,e4,e5]
theorem LY(w:World)(B mb m:Nat)(A:Af)(s:Mc)(en:Int)(F:Nat->PF)(MV:Nat->Value)(fn:Nat)(al:List V)(v:Value)(hM:AH w B mb m F MV A s en)(hfn:fn<m)(hv:Cq w v al)(h0:0<=(F fn).locals)(h8:(F fn).locals<=8)(hal:(al.length:Int)<=(F fn).locals)(hfr:s.fr.length<=60) :
  Calls prog 67 #[.pointer (some ⟨mb,0,none⟩),.int .i64 fn,v] w fun e w'=>e=.returned (.tuple #[]) /\
   AQ w B mb m F MV s.fr.length A {s with fr:=⟨fn,0,al++List.replicate ((F fn).locals.toNat-al.length) As,[]⟩::s.fr,high:=s.made fn::s.high} en w':=by
 have hL:=hM.lay;have hB:=hM.le;obtain⟨pb,po,pc,CA,CC,hpv,hPA,hpb,_⟩:=hM.pg.at_;have c1:=(hPA.fn fn hfn).locals;have hmk:=fun wx=>Fs (F fn).locals h0 (by omega) wx
 obtain⟨W2,kc,hcp,hB2,hz2,cur,hcur,hcsz,hcc⟩:=LN w (F fn).locals.toNat al v hv (by omega);have r0:w.cell? ⟨mb,0,none⟩=some (.slice (some ⟨pb,po,none⟩) m pc):=by rw[Ab hL.run,<-hpv];rfl
 have hmz:=Ah hL.run;have hmd:=hM.made;obtain⟨vb,vcap,hmv,hvb,hvz,hvt,hvc⟩:=hmd.form (by omega);rw[hmv] at hmd;have hvcell:=hmd.cell (i:=fn) (by omega);have hmkf:=hM.mds fn hfn;obtain⟨cp,cl,cc,hcv⟩:∃ cp cl cc,MV fn=.slice cp cl cc:=by
  rcases hmkf with⟨_,h⟩|⟨_,a,n,c,h⟩
  ·exact⟨_,_,_,h⟩
  ·exact⟨_,_,_,h⟩
 rw[hcv] at hvcell;have hX:Below w.heap.size w (W2.drew.alloc (.cells #[.int .i64 fn,.int .i64 0,.slice (some ⟨w.heap.size,0,none⟩) (F fn).locals.toNat (F fn).locals.toNat,.slice none 0 0,.slice cp cl cc] 138)):=hB2.drew.alloc (by show w.heap.size<=W2.heap.size;omega) _;have hch:Ch B (fun _=>False) A.tag (Ac (Ac A.tag w.heap.size (11+4 * s.fr.length)) (w.heap.size+1) (10+4 * s.fr.length)) w (W2.drew.alloc (.cells #[.int .i64 fn,.int .i64 0,.slice (some ⟨w.heap.size,0,none⟩) (F fn).locals.toNat (F fn).locals.toNat,.slice none 0 0,.slice cp cl cc] 138)) :=
  Ch.of_tags hX (fun b hb=>by rw[Ao _ _ _ _ (by omega),Ao _ _ _ _ (by omega)])
 have hL3:=hL.keep hch;have hq3:(W2.drew.alloc (.cells #[.int .i64 fn,.int .i64 0,.slice (some ⟨w.heap.size,0,none⟩) (F fn).locals.toNat (F fn).locals.toNat,.slice none 0 0,.slice cp cl cc] 138)).heap[w.heap.size+1]?=some (.cells #[.int .i64 fn,.int .i64 0,.slice (some ⟨w.heap.size,0,none⟩) (F fn).locals.toNat (F fn).locals.toNat,.slice none 0 0,.slice cp cl cc] 138 (0,0)):=by
  rw[<-hz2];exact Tv W2.drew _
 have hlo3:Ae (W2.drew.alloc (.cells #[.int .i64 fn,.int .i64 0,.slice (some ⟨w.heap.size,0,none⟩) (F fn).locals.toNat (F fn).locals.toNat,.slice none 0 0,.slice cp cl cc] 138)) B (Ac (Ac A.tag w.heap.size (11+4 * s.fr.length)) (w.heap.size+1) (10+4 * s.fr.length)) (11+4 * s.fr.length) 43 2 (.slice (some ⟨w.heap.size,0,none⟩) (F fn).locals.toNat (F fn).locals.toNat) (F fn).locals.toNat (Ar (al++List.replicate ((F fn).locals.toNat-al.length) As)) :=
  Or.inr ⟨w.heap.size,_,cur,rfl,hB,by rw[Ao _ _ _ _ (by omega),Au],(Ty W2.drew _ _ (by show w.heap.size<W2.heap.size;omega)).trans hcur,Te _,by unfold maxLen;omega,hcsz,hcc⟩
 have hlen0:(al++List.replicate ((F fn).locals.toNat-al.length) As).length=(F fn).locals.toNat:=by simp;omega
 have hpush:=O4 _ B mb 3 1 _ _ _ A.fv s.fr.length A.FB (w.heap.size+1) hL3.run rfl hL3.own.1 (by have:=hch.size;omega) (by rw[hL3.own.2];omega) hL3.fr (by omega);have y2:W2.cell? ⟨mb,2,none⟩=some (.slice (some ⟨vb,0,none⟩) m vcap):=by rw[hB2.cell (p:=⟨mb,2,none⟩) hmz,Ab hL.run,<-hmv];rfl
 have y3:W2.cell? ⟨vb,fn,none⟩=some (.slice cp cl cc):=by rw[hB2.cell (p:=⟨vb,fn,none⟩) hvz];exact hvcell
 have HX:=Aa (Tc hL3 (Tc hq3 (Tc hlo3 (Tc hch (Tc hlen0 (Tc hM hvt))))));have HP:=Aa hpush;have HY:=Aa (Tc y2 (Tc y3 (Tc hB2 hz2)));clear hX hch hL3 hq3 hlo3 hlen0 hpush hL hcur hcc hcsz hPA hpv hv hal hM hmd hmv hvcell y2 y3 hB2 hvc;generalize (F fn).locals=lc at *;have i0:(0:Int)<=(fn:Int):=by omega
 have i1:(fn:Int)<(m:Int):=by omega
 have hpz:pb<w.heap.size:=by omega
 go_enter func67,ntmps67
 go_wp2_with fail
 clear hcp hmk c1 r0;refine AG (fun w'=>w'.cell? ⟨mb,2,none⟩=some (.slice (some ⟨vb,0,none⟩) m vcap)/\w'.cell? ⟨vb,fn,none⟩=some (.slice cp cl cc)) [(false,0),(false,1),(false,2),(false,3),(false,4),(false,5),(false,6),(false,7),(false,8),(false,9),(false,10),(false,11),(false,12),(true,13),(true,14)] (by kernel_rfl) (by kernel_rfl) (A8 _ _) ⟨HY.out.1,HY.out.2.1⟩ ?_;simp only[lexL,Tl,Tm];iterate 13 (refine Aw (by rfl) (by intro w' hS';obtain⟨q0,q1⟩:=hS';go_simp;exact rfl) ?_;simp only[Act.put,Td,Th,Tg])
 have hvz2:vb<W2.drew.heap.size:=by show vb<W2.heap.size;have:=HY.out.2.2.1.size;omega
 have hmz2:mb<W2.drew.heap.size:=by show mb<W2.heap.size;have:=HY.out.2.2.1.size;omega
 refine Az (fun K hK=>?_);go_simp;refine hK.out _ _ ⟨BH (w:=W2.drew) HY.out.1 hmz2,BH (w:=W2.drew) HY.out.2.1 hvz2⟩ ?_;clear hK K;have hq1:W2.drew.heap.size=w.heap.size+1:=HY.out.2.2.2;refine Az (fun K hK=>?_);go_simp;refine HP.out.mono ?_;rintro e w' ⟨rfl,tag',sv',h1,h2,h3⟩;obtain⟨hL3,hq3,hlo3,hch,hlen0,hM,hvt⟩:=HX.out;have hmt:Ac (Ac A.tag w.heap.size (11+4 * s.fr.length)) (w.heap.size+1) (10+4 * s.fr.length) mb=0:=hL3.own.2;have h4:=h3.mono (q:=fun d=>d=0\/d=1) (fun d hd=>by rw[hmt] at hd;omega);have htq:Ac (Ac A.tag w.heap.size (11+4 * s.fr.length)) (w.heap.size+1) (10+4 * s.fr.length) (w.heap.size+1)=10+4 * s.fr.length:=Au _ _ _;have htv:Ac (Ac A.tag w.heap.size (11+4 * s.fr.length)) (w.heap.size+1) (10+4 * s.fr.length) vb=6:=by rw[Ao _ _ _ _ (by omega),Ao _ _ _ _ (by omega)];exact hvt
 obtain⟨g1,g2⟩:=Bq hq3 h4 (by rw[htq];omega);have hfin:=hL3.pushed (f0:=⟨fn,0,al++List.replicate (lc.toNat-al.length) As,[]⟩) (lv:=.slice (some ⟨w.heap.size,0,none⟩) lc.toNat lc.toNat) (sv:=.slice none 0 0) (cv:=.slice cp cl cc) h4 h2 h1 g1 (by omega) (g2.trans htq) (by
  show Ae w' B tag' _ _ 2 _ (al++List.replicate (lc.toNat-al.length) As).length _;rw[hlen0];exact hlo3.keep h4 (by omega)) (Ae.nil _ _ _ _ _ _ _)
 have hcN:Ch B N5 A.tag tag' w w':=(hch.mono (q:=N5) (fun _ h=>h.elim)).trans (h4.mono (fun d hd=>by unfold N5;omega));have hgo:AQ w B mb m F MV s.fr.length A {s with fr:=⟨fn,0,al++List.replicate (lc.toNat-al.length) As,[]⟩::s.fr,high:=s.made fn::s.high} en w':=by
  have hfin2:=hfin.like (s':={s with fr:=⟨fn,0,al++List.replicate (lc.toNat-al.length) As,[]⟩::s.fr,high:=s.made fn::s.high}) rfl rfl rfl rfl rfl;refine⟨_,hM.ch hfin2 (by show s.high.length+1=s.fr.length+1;rw[hM.hl]) (fun i hi=>?_) hM.cnt rfl ⟨rfl,rfl,rfl⟩ hcN,⟨rfl,rfl,rfl⟩,hcN,fun i hi hn=>Ao _ _ _ _ (by omega),fun i hi=>?_⟩
  ·show CT (Ac A.g.CV s.fr.length (.slice cp cl cc) i) (AU (s.made fn::s.high) i);have hi':i<s.fr.length+1:=hi;by_cases e:i=s.fr.length
   ·rw[e,Au,Ff _ _ hM.hl.symm,<-hcv];exact hM.mds fn hfn
   ·rw[Ao _ _ _ _ e,EF _ _ _ (by rw[hM.hl];omega)];exact hM.cod i (by omega)
  ·show (i<s.fr.length->Ac A.g.CV s.fr.length (.slice cp cl cc) i=A.g.CV i)/\(s.fr.length<=i->Ac A.g.CV s.fr.length (.slice cp cl cc) i=MV (Am (⟨fn,0,al++List.replicate (lc.toNat-al.length) As,[]⟩::s.fr) i).fn);have hi':i<s.fr.length+1:=hi;refine⟨fun h=>Ao _ _ _ _ (by omega),fun h=>?_⟩;obtain rfl:i=s.fr.length:=by omega
   rw[Au,Bg,<-hcv]
 have z2:w'.cell? ⟨mb,2,none⟩=some (.slice (some ⟨vb,0,none⟩) m vcap):=by
  have e1:=Ab (o:=2) h2;have e2:=Ab (o:=2) hL3.run;have e3:(W2.drew.alloc (.cells #[.int .i64 fn,.int .i64 0,.slice (some ⟨w.heap.size,0,none⟩) lc.toNat lc.toNat,.slice none 0 0,.slice cp cl cc] 138)).cell? ⟨mb,2,none⟩=some (.slice (some ⟨vb,0,none⟩) m vcap):=BH (w:=W2.drew) HY.out.1 hmz2;rw[e1];rw[e2] at e3;exact e3
 have z3:w'.cell? ⟨vb,fn,none⟩=some (.slice cp cl cc):=by
  refine(h4.cell (a:=⟨vb,fn,none⟩) (by show vb<_;simp;omega) (by rw[htv];omega)).trans ?_;exact BH (w:=W2.drew) HY.out.2.1 hvz2
 refine hK.out _ _ ⟨z2,z3⟩ ?_;have HQ:=Aa hgo;clear hK K hgo z2 z3 hcN hfin h1 h2 h3 h4 g1 g2 hL3 hq3 hlo3 hch hlen0 htq htv hM hvt;refine AF ?_;go_wp2;go_end0;exact⟨rfl,HQ.out⟩
end
structure KS (w:World) (B:Nat) (t:Nat->Nat) (c:Nat) (e:TypeId) (sz:Nat) (lv:Value) (nl:Nat) (g:Nat->Value) (vs:List Value):Prop where
 row:Ae w B t c e sz lv nl (fun i=>g (i % sz))
 full:∀ v,v∈vs->Ck w B t (fun d=>d=c) sz v g
theorem KS.app{P:Program}{w:World}{B:Nat}{t:Nat->Nat}{c:Nat}{e:TypeId}{sz:Nat}{lv:Value}{nl:Nat}{g:Nat->Value}{vs:List Value}(h:KS w B t c e sz lv nl g vs)(hB:B<=w.heap.size)(hnl:nl<=200000)(k:Nat)(hk:0<k)(hk3:k<=3)(news:List Value)(hlen:news.length=k * sz)(hn:∀ r,r<k * sz->news[r]?=some (g (r % sz)))(h1:∀ u∈news,u.oneCell'=true)
  (ts ty eT:TypeId) (i:TypeInfo) (z:Value) (bytes:Nat) (ht:P.underlying ts=some (.slice e)) (hi:P.info? e=some i) (hz:i.zero=some z) (hsize:i.size=sz) (hby:i.bytes=bytes) (hzs:z.cells.size=sz) (Av:0<sz) (hbb:bytes<=1000) :
  ∃ gg cap w',(Builtin.append_ #[ts,ts] ty #[lv,.slice (some ⟨w.heap.size,0,none⟩) k k]).run P (w.alloc (.cells news.toArray eT))=.ok (.slice (some ⟨gg,0,none⟩) (nl+k) cap) w'/\gg<w'.heap.size /\
   ∃ t',KS w' B t' c e sz lv nl g (.slice (some ⟨gg,0,none⟩) (nl+k) cap::vs)/\Ch B (fun d=>d=c) t t' w w'/\B<=w'.heap.size:=by
 have hX:Below w.heap.size w (w.alloc (.cells news.toArray eT)):=(Tu _ _).alloc (Te _) _;have c0:Ch B (fun _=>False) t t w (w.alloc (.cells news.toArray eT)):=Ch.of_below hX;have hbk:(nl+k) * bytes<=140737488355328:=by
  have:(nl+k) * bytes<=200003 * 1000:=Nat.mul_le_mul (by omega) hbb;omega
 have hBX:B<=(w.alloc (.cells news.toArray eT)).heap.size:=Nat.le_trans hB hX.size;obtain⟨gg,cap,w',hr,hlt,hnew,hold,hch,hst⟩:=Nw (P:=P) (h.row.keep c0 (fun h=>h)) hBX ts ty i z bytes ht hi hz hsize hby hzs Av ⟨w.heap.size,0,none⟩ k k news hlen (World.news_of_block (Tv w _)) h1 hk (by unfold maxLen;omega) hbk;refine⟨gg,cap,w',hr,hlt,_,⟨hold,fun v hv=>?_⟩,(c0.mono (fun _ h=>h.elim)).trans hch,by have:=hch.size;omega⟩;have hmod:∀ j,nl * sz<=j->(j-nl * sz) % sz=j % sz:=fun j hj=>by
  rw[<-Nat.add_mul_mod_self_right (j-nl * sz) nl sz];congr 1;omega
 rcases List.mem_cons.1 hv with rfl|hv
 ·refine hnew.full (by omega) rfl (fun j hj=>?_);by_cases hlt2:j<nl * sz
  ·rw[if_pos hlt2]
  ·rw[if_neg hlt2];have hj2:j-nl * sz<k * sz:=by rw[Nat.add_mul] at hj;omega
   rw[Tj,hn _ hj2,hmod j (by omega)];rfl
 ·exact((h.full v hv).keep (Kd':=fun d=>d=c) c0 (fun _ _ h=>h) (fun _ h=>h)).grown (n:=nl) (k:=k) (c:=c) (news:=news) hch.size hch.tags hst hn Av
def hS:Nat->TypeId
 |0=>51
 |1=>90
 |2=>91
 |_=>92
theorem RA(k:Nat)(hk:k<4):prog.underlying (hS k)=some (.slice (hT k)):=by
 have:k=0\/k=1\/k=2\/k=3:=by omega
 rcases this with rfl|rfl|rfl|rfl
 ·exact underlying51
 ·exact underlying90
 ·exact underlying91
 ·exact underlying92
theorem Tryz.infoH0:(prog.info? 44).map (fun i=>(i.zero,i.size,i.bytes))=some (some (.slice none 0 0),1,24):=by kernel_rfl
theorem Tryz.infoH1:(prog.info? 50).map (fun i=>(i.zero,i.size,i.bytes))=some (some (.slice none 0 0),1,24):=by kernel_rfl
theorem Tryz.infoH2:(prog.info? 51).map (fun i=>(i.zero,i.size,i.bytes))=some (some (.slice none 0 0),1,24):=by kernel_rfl
theorem Tryz.infoH3:(prog.info? 66).map (fun i=>(i.zero,i.size,i.bytes))=some (some (.slice none 0 0),1,24):=by kernel_rfl
theorem KC(k:Nat)(hk:k<4):∃ i,prog.info? (hT k)=some i/\i.zero=some (.slice none 0 0)/\i.size=1/\i.bytes=24:=by
 have:k=0\/k=1\/k=2\/k=3:=by omega
 rcases this with rfl|rfl|rfl|rfl
 ·obtain⟨i,hi,hzz⟩:=Tp.1 Tryz.infoH0;simp only[Prod.mk.injEq] at hzz;exact⟨i,hi,hzz.1,hzz.2.1,hzz.2.2⟩
 ·obtain⟨i,hi,hzz⟩:=Tp.1 Tryz.infoH1;simp only[Prod.mk.injEq] at hzz;exact⟨i,hi,hzz.1,hzz.2.1,hzz.2.2⟩
 ·obtain⟨i,hi,hzz⟩:=Tp.1 Tryz.infoH2;simp only[Prod.mk.injEq] at hzz;exact⟨i,hi,hzz.1,hzz.2.1,hzz.2.2⟩
 ·obtain⟨i,hi,hzz⟩:=Tp.1 Tryz.infoH3;simp only[Prod.mk.injEq] at hzz;exact⟨i,hi,hzz.1,hzz.2.1,hzz.2.2⟩
theorem NH(x:Value)(h:∃ p n c,x=.slice p n c):x.oneCell'=true:=by
 obtain⟨p,n,c,rfl⟩:=h;rfl
theorem AZ.more{w:World}{B wb:Nat}{A:AN}{Kd:Nat->Prop}{n:Nat->Nat}(h:AZ w B wb A Kd n)(k:Nat)(hk:k<4)(hn:n k<=5000000000000)(x:Value)(hx:Ck w B A.tag Kd (Av k) x (Dz A.XB k (n k / 4)))
  (hX:k=2->A.XB (n 2 / 4)<w.heap.size/\B<=A.XB (n 2 / 4)/\Kd (A.tag (A.XB (n 2 / 4)))/\w.cell? ⟨A.XB (n 2 / 4),0,none⟩=some (.int .i64 (Cs (n 2 / 4)))/\w.cell? ⟨A.XB (n 2 / 4),1,none⟩=some (.int .i64 0)) (eT ty:TypeId) :
  ∃ g cap w1,(Builtin.append_ #[hS k,hS k] ty #[A.hv k,.slice (some ⟨w.heap.size,0,none⟩) 1 1]).run prog (w.alloc (.cells #[x] eT))=.ok (.slice (some ⟨g,0,none⟩) (n k+1) cap) w1 /\
   w1.cell? ⟨wb,2+k,none⟩=some (A.hv k)/\w1.frozen? ⟨wb,2+k,none⟩=false/\g<w1.heap.size/\(∀ b,b<w.heap.size->A.tag b≠5+k->w1.heap[b]?=w.heap[b]?) /\
   ∃ A':AN,AZ (w1.setCell ⟨wb,2+k,none⟩ (.slice (some ⟨g,0,none⟩) (n k+1) cap)) B wb A' Kd (Ac n k (n k+1))/\A'.cv=A.cv/\A'.pv=A.pv/\A'.XB=A.XB/\A'.hv k=.slice (some ⟨g,0,none⟩) (n k+1) cap /\
    Ch B (fun d=>d=0\/d=5+k) A.tag A'.tag w (w1.setCell ⟨wb,2+k,none⟩ (.slice (some ⟨g,0,none⟩) (n k+1) cap)):=by
 obtain⟨i,hi,hz,hsi,hby⟩:=KC k hk;have hV:Below w.heap.size w (w.alloc (.cells #[x] eT)):=(Tu _ _).alloc (Te _) _;have hxs:∃ p m c,x=.slice p m c:=by obtain⟨p,m,c,e,_⟩:=hx;exact⟨p,m,c,e⟩
 obtain⟨g,cap,w1,hr,hown,hgrow,hat,hlt⟩:=run_append_lies (P:=prog) (w.alloc (.cells #[x] eT)) (hS k) ty B (hT k) i (.slice none 0 0) 1 24 (RA k hk) hi hz hsi hby rfl (by decide) (A.hv k) (n k) _ (((h.row k hk).below hV).owns) ⟨w.heap.size,0,none⟩ 1 1 [x] rfl (World.news_of_block (Tv w _)) (by intro u hu;simp at hu;rw[hu];exact NH x hxs) (by omega) (by unfold maxLen;omega) (by omega) (Nat.le_trans h.le hV.size) (w.alloc (.cells #[x] eT)).heap.size rfl;have hlt0:=(Array.getElem?_eq_some_iff.1 h.blk).1;have hb1:w1.heap[wb]?=some (.cells (Ep A) 96 (0,0)):=by
  refine(hgrow.block wb (Ts hlt0 hV.size) ?_).trans ((hV.block wb hlt0).trans h.blk);exact(h.row k hk).other (by rw[h.own.2];omega)
 obtain⟨tag',hh,hc⟩:=h.add k hk x hx hX hV hown hgrow hat;have hcell:w1.cell? ⟨wb,2+k,none⟩=some (A.hv k):=by
  rw[Ab hb1];have:k=0\/k=1\/k=2\/k=3:=by omega
  rcases this with rfl|rfl|rfl|rfl<;>rfl
 exact⟨g,cap,w1,hr,hcell,Ax hb1,hlt,fun b hb ht=>(hgrow.block b (Ts hb hV.size) ((h.row k hk).other ht)).trans (hV.block b hb),_,hh,rfl,rfl,rfl,Au _ _ _,hc⟩
end Go.Proofs.YtkafkipjedpohaaGreatDoor

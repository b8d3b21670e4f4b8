import Derived.Test.YtkafkipjedpohaaGreatDoorM28
import Derived.Deep.CutRange
namespace Go.Proofs.YtkafkipjedpohaaGreatDoor
set_option maxRecDepth 100000
set_option maxHeartbeats 16000000
open Go.RowKit _root_.Go.Proofs.Tryz
def Kt(i j:Nat)(d:Nat):Prop:=d=9\/(∃ k,k<i/\(d=11+4 * k\/d=12+4 * k))\/(∃ k,k<j/\d=13+4 * k)
section
variable {i j B wb sb nf na:Nat}{A A1:AN}{n:Nat->Nat}{wr w1:World}{fv av:Value}{LV SV AV:Nat->Value}{fr:Nat->Fr}{arr:List (List V)}
theorem GQ{d:Nat}(h:Kt i j d):¬Wt d:=by
 unfold Wt;rcases h with h|⟨k,_,h⟩|⟨k,_,h⟩<;>omega
theorem IR{d:Nat}(h:Kt i j d):d≠1/\d≠2:=by
 rcases h with h|⟨k,_,h⟩|⟨k,_,h⟩<;>omega
structure EW (wr:World) (B wb sb:Nat) (A:AN) (fv av:Value) (LV SV AV:Nat->Value) (fr:Nat->Fr) (nf na:Nat) (arr:List (List V)) (n:Nat->Nat) (i j:Nat):Prop where
 hold:AZ wr B wb A (Kt i j) n
 box:wr.heap[sb]?=some (.cells #[fv,av] 53 (0,0))
 t9:A.tag sb=9
 rf:Ae wr B A.tag 1 73 4 fv nf (Cx fr LV SV)
 ra:Ae wr B A.tag 2 44 1 av na AV
 loc:∀ k,i<=k->k<nf->Ae wr B A.tag (11+4 * k) 43 2 (LV k) (fr k).loc.length (Ar (fr k).loc)
 stk:∀ k,i<=k->k<nf->Ae wr B A.tag (12+4 * k) 43 2 (SV k) (fr k).stk.length (Ar (fr k).stk.reverse)
 arr:∀ k,j<=k->k<na->Ae wr B A.tag (13+4 * k) 43 2 (AV k) (arr.getD k []).length (Ar (arr.getD k []))
theorem Ae.slc{w:World}{tag:Nat->Nat}{c:Nat}{e:TypeId}{sz:Nat}{v:Value}{n:Nat}{f:Nat->Value}(h:Ae w B tag c e sz v n f):∃ p cap,v=.slice p n cap:=by
 rcases h with⟨h1,h2⟩|⟨b,cap,cur,h1,_⟩
 ·exact⟨none,0,by rw[h1,h2]⟩
 ·exact⟨_,_,h1⟩
def DX(d:Nat):Prop:=d=0\/d=5\/10<=d
theorem JH{α:Type}(f:Nat->α)(k:Nat)(a b:α):Ac (Ac f k a) k b=Ac f k b:=by
 funext i;unfold Ac;split<;>rfl
theorem EW.loc1{n1:Nat->Nat}(h:EW wr B wb sb A fv av LV SV AV fr nf na arr n i j)
  (_h1:AZ w1 B wb A1 (fun d=>Kt i j d\/d=11+4 * i) n1) (k:Ch B (fun d=>d=0\/d=5\/d=11+4 * i) A.tag A1.tag wr w1) (hi:i<nf) :
  w1.heap[sb]?=some (.cells #[fv,av] 53 (0,0))/\A1.tag sb=9/\Ae w1 B A1.tag 1 73 4 fv nf (Cx fr LV SV)/\Ae w1 B A1.tag (12+4 * i) 43 2 (SV i) (fr i).stk.length (Ar (fr i).stk.reverse):=by
 have hz:=Ah h.box;exact⟨(k.block sb hz (Or.inr (by rw[h.t9];omega))).trans h.box,(k.tags sb hz).trans h.t9,h.rf.keep k (by omega),(h.stk i (Te _) hi).keep k (by omega)⟩
theorem EW.stk1{w2:World}{A2:AN}{n2:Nat->Nat}(h:EW wr B wb sb A fv av LV SV AV fr nf na arr n i j)
  (k:Ch B (fun d=>d=0\/d=5\/d=11+4 * i) A.tag A1.tag wr w1) (h2:AZ w2 B wb A2 (fun d=>(Kt i j d\/d=11+4 * i)\/d=12+4 * i) n2) (k2:Ch B (fun d=>d=0\/d=5\/d=12+4 * i) A1.tag A2.tag w1 w2) :
  EW w2 B wb sb A2 fv av LV SV AV fr nf na arr n2 (i+1) j/\Ch B DX A.tag A2.tag wr w2:=by
 have hz:=Ah h.box;have kk:Ch B (fun d=>d=0\/d=5\/d=11+4 * i\/d=12+4 * i) A.tag A2.tag wr w2:=(k.mono (fun d hd=>by omega)).trans (k2.mono (fun d hd=>by omega));refine⟨⟨?_,(kk.block sb hz (Or.inr (by rw[h.t9];omega))).trans h.box,(kk.tags sb hz).trans h.t9,h.rf.keep kk (by omega),h.ra.keep kk (by omega),fun m hm hmn=>(h.loc m (by omega) hmn).keep kk (by omega),fun m hm hmn=>(h.stk m (by omega) hmn).keep kk (by omega),fun m hm hmn=>(h.arr m hm hmn).keep kk (by omega)⟩,kk.mono (fun d hd=>by unfold DX;omega)⟩;refine h2.retag (tag':=A2.tag) (fun b _ _=>rfl) (fun b _ hb=>?_) (fun d hd=>GQ hd);rcases hb with (hb|hb)|hb
 ·rcases hb with hb|⟨m,hm,hb⟩|hb
  ·exact Or.inl hb
  ·exact Or.inr (Or.inl ⟨m,by omega,hb⟩)
  ·exact Or.inr (Or.inr hb)
 ·exact Or.inr (Or.inl ⟨i,by omega,Or.inl hb⟩)
 ·exact Or.inr (Or.inl ⟨i,by omega,Or.inr hb⟩)
theorem EW.arr1{n1:Nat->Nat}(h:EW wr B wb sb A fv av LV SV AV fr nf na arr n i j)
  (h1:AZ w1 B wb A1 (fun d=>Kt i j d\/d=13+4 * j) n1) (k:Ch B (fun d=>d=0\/d=5\/d=13+4 * j) A.tag A1.tag wr w1) :
  EW w1 B wb sb A1 fv av LV SV AV fr nf na arr n1 i (j+1)/\Ch B DX A.tag A1.tag wr w1:=by
 have hz:=Ah h.box;refine⟨⟨?_,(k.block sb hz (Or.inr (by rw[h.t9];omega))).trans h.box,(k.tags sb hz).trans h.t9,h.rf.keep k (by omega),h.ra.keep k (by omega),fun m hm hmn=>(h.loc m hm hmn).keep k (by omega),fun m hm hmn=>(h.stk m hm hmn).keep k (by omega),fun m hm hmn=>(h.arr m (by omega) hmn).keep k (by omega)⟩,k.mono (fun d hd=>by unfold DX;omega)⟩;refine h1.retag (tag':=A1.tag) (fun b _ _=>rfl) (fun b _ hb=>?_) (fun d hd=>GQ hd);rcases hb with hb|hb
 ·rcases hb with hb|hb|⟨m,hm,hb⟩
  ·exact Or.inl hb
  ·exact Or.inr (Or.inl hb)
  ·exact Or.inr (Or.inr ⟨m,by omega,hb⟩)
 ·exact Or.inr (Or.inr ⟨j,by omega,hb⟩)
theorem Q8(i j:Nat):¬Kt i j (11+4 * i):=by
 rintro (h|⟨k,hk,h⟩|⟨k,hk,h⟩)<;>omega
theorem Sl(i j:Nat):¬(Kt i j (12+4 * i)\/12+4 * i=11+4 * i):=by
 rintro ((h|⟨k,hk,h⟩|⟨k,hk,h⟩)|h)<;>omega
theorem Rw(i j:Nat):¬Kt i j (13+4 * j):=by
 rintro (h|⟨k,hk,h⟩|⟨k,hk,h⟩)<;>omega
def Dt(q j:Nat)(f:Nat->Value)(i:Nat):Value:=if i<j * 4 then CI q (i % 4) else f i
theorem Pz(q j:Nat)(f:Nat->Value)(i:Nat):Ac (Ac (Ac (Ac (Dt q j f) (j * 4) (.int .i64 (Cs q))) (j * 4+1) (.int .i64 0)) (j * 4+2) (.slice none 0 0)) (j * 4+3) (.slice none 0 0) i=Dt q (j+1) f i:=by
 by_cases h3:i=j * 4+3
 ·subst h3;rw[Au];unfold Dt CI;rw[if_pos (by omega),if_neg (by omega),if_neg (by omega)]
 rw[Ao _ _ _ _ h3];by_cases h2:i=j * 4+2
 ·subst h2;rw[Au];unfold Dt CI;rw[if_pos (by omega),if_neg (by omega),if_neg (by omega)]
 rw[Ao _ _ _ _ h2];by_cases h1:i=j * 4+1
 ·subst h1;rw[Au];unfold Dt CI;rw[if_pos (by omega),if_neg (by omega),if_pos (by omega)]
 rw[Ao _ _ _ _ h1];by_cases h0:i=j * 4
 ·subst h0;rw[Au];unfold Dt CI;rw[if_pos (by omega),if_pos (by omega)]
 rw[Ao _ _ _ _ h0];unfold Dt;by_cases h:i<j * 4
 ·rw[if_pos h,if_pos (by omega)]
 ·rw[if_neg h,if_neg (by omega)]
theorem JV(q:Nat)(mv:Int)(hm:Cs q=mv)(k:Nat)(hk:k=1\/k=2\/k=3):∃ news:List Value,news=(if k=1 then [.int .i64 mv,.int .i64 0,.slice none 0 0,.slice none 0 0] else if k=2 then [.int .i64 mv,.int .i64 0,.slice none 0 0,.slice none 0 0,.int .i64 mv,.int .i64 0,.slice none 0 0,.slice none 0 0] else [.int .i64 mv,.int .i64 0,.slice none 0 0,.slice none 0 0,.int .i64 mv,.int .i64 0,.slice none 0 0,.slice none 0 0,.int .i64 mv,.int .i64 0,.slice none 0 0,.slice none 0 0])/\news.length=k * 4/\(∀ r,r<k * 4->news[r]?=some (CI q (r % 4)))/\∀ u,u∈news->u.oneCell'=true:=by
 have v0:CI q 0=.int .i64 mv:=by unfold CI;rw[if_pos rfl,hm]
 have v1:CI q 1=.int .i64 0:=rfl;have v2:CI q 2=.slice none 0 0:=rfl;have v3:CI q 3=.slice none 0 0:=rfl;rcases hk with rfl|rfl|rfl
 ·refine⟨_,rfl,rfl,fun r hr=>?_,fun u hu=>?_⟩
  ·have:r=0\/r=1\/r=2\/r=3:=by omega
   rcases this with rfl|rfl|rfl|rfl
   ·exact congrArg some v0.symm
   ·exact congrArg some v1.symm
   ·exact congrArg some v2.symm
   ·exact congrArg some v3.symm
  ·simp at hu;rcases hu with rfl|rfl|rfl<;>rfl
 ·refine⟨_,rfl,rfl,fun r hr=>?_,fun u hu=>?_⟩
  ·have:r=0\/r=1\/r=2\/r=3\/r=4\/r=5\/r=6\/r=7:=by omega
   rcases this with rfl|rfl|rfl|rfl|rfl|rfl|rfl|rfl
   ·exact congrArg some v0.symm
   ·exact congrArg some v1.symm
   ·exact congrArg some v2.symm
   ·exact congrArg some v3.symm
   ·exact congrArg some v0.symm
   ·exact congrArg some v1.symm
   ·exact congrArg some v2.symm
   ·exact congrArg some v3.symm
  ·simp at hu;rcases hu with rfl|rfl|rfl|rfl|rfl|rfl<;>rfl
 ·refine⟨_,rfl,rfl,fun r hr=>?_,fun u hu=>?_⟩
  ·have:r=0\/r=1\/r=2\/r=3\/r=4\/r=5\/r=6\/r=7\/r=8\/r=9\/r=10\/r=11:=by omega
   rcases this with rfl|rfl|rfl|rfl|rfl|rfl|rfl|rfl|rfl|rfl|rfl|rfl
   ·exact congrArg some v0.symm
   ·exact congrArg some v1.symm
   ·exact congrArg some v2.symm
   ·exact congrArg some v3.symm
   ·exact congrArg some v0.symm
   ·exact congrArg some v1.symm
   ·exact congrArg some v2.symm
   ·exact congrArg some v3.symm
   ·exact congrArg some v0.symm
   ·exact congrArg some v1.symm
   ·exact congrArg some v2.symm
   ·exact congrArg some v3.symm
  ·simp at hu;rcases hu with rfl|rfl|rfl|rfl|rfl|rfl|rfl|rfl|rfl<;>rfl
theorem K8{P:Program}(w:World){ops:Array Oper}{o:Oper}{a:Act}{K:Act->World->Prop}{Q:Exit->Act->World->Prop}{E:Prop}
  (hg:o.guard=none) (x y:Operand) (t:TypeId) (hop:o.op=Op.call {callee:=Callee.builtin Builtin.append,args:=#[x,y],argTypes:=#[t,t]})
  (vx vy v:Value) (w':World) (hx:a.eval x=vx) (hy:a.eval y=vy) (hrun:(Builtin.append_ #[t,t] o.type #[vx,vy]).run P w=.ok v w')
  (hK:K (a.put o.dst v) w'):if Region.wanted o (yielded ops a.tmps)=true then Oper.wp P o a w K Q else E:=by
 have hw:Region.wanted o (yielded ops a.tmps)=true:=by simp[Region.wanted,hg]
 rw[if_pos hw];unfold Oper.wp;simp[execOp,hop,resolve,invoke,builtin,hx,hy,hrun,Result.andThen];exact hK
theorem Tryz.infoFrameU:(prog.info? 73).map (fun i=>(i.zero,i.size,i.bytes))=some (some (.agg #[.int .i64 0,.int .i64 0,.slice none 0 0,.slice none 0 0]),4,64):=by kernel_rfl
def Kn(W1:World)(B:Nat)(t:Nat->Nat)(lv:Value)(nl q j:Nat)(f:Nat->Value)(wr:World):Prop :=
 Ae wr B t 1 73 4 lv nl (Dt q j f)/\Ch B (fun d=>d=1) t t W1 wr
def FM(W:World)(t0:Nat->Nat)(B wb sb:Nat)(A:AN)(fv av:Value)(LV SV AV:Nat->Value)(fr:Nat->Fr)(nf na:Nat)(arr:List (List V))(n:Nat->Nat)(q i j:Nat)(wr:World):Prop :=
 ∃ A1:AN,EW wr B wb sb A1 fv av LV SV AV fr nf na arr (Ac n 0 (4 * (q+2 * i+j))) i j/\A1.cv=A.cv/\A1.pv=A.pv/\A1.XB=A.XB/\Ch B DX t0 A1.tag W wr
theorem AZ.setX{w:World}{Kd:Nat->Prop}(h:AZ w B wb A Kd n)(q x:Nat)(hq:n 2=4 * q):AZ w B wb {A with XB:=Ac A.XB q x} Kd n:=by
 refine⟨h.blk,h.own,h.le,h.kd,h.row,fun k hk i hi=>?_,fun i hi=>?_⟩
 ·have he:=h.ent k hk i hi;by_cases e:k=2
  ·subst e;show Ck w B A.tag Kd 1 (A.HV 2 i) (fun _=>.slice (some ⟨Ac A.XB q x (i / 4),0,none⟩) 1 1);rw[Ao _ _ _ _ (by omega)];exact he
  ·have:k=0\/k=1\/k=3:=by omega
   rcases this with rfl|rfl|rfl<;>exact he
 ·have he:=h.ex i hi;rw[show ({A with XB:=Ac A.XB q x}:AN).XB (i / 4)=A.XB (i / 4) from Ao _ _ _ _ (by omega)];exact he
def E5(x:Value)(k:Nat)(f:Nat->Value)(i:Nat):Value:=if i<k then x else f i
theorem Qy(x:Value)(k:Nat)(f:Nat->Value)(i:Nat):Ac (E5 x k f) k x i=E5 x (k+1) f i:=by
 by_cases h1:i=k
 ·subst h1;rw[Au];unfold E5;rw[if_pos (by omega)]
 ·rw[Ao _ _ _ _ h1];unfold E5;by_cases h3:i<k
  ·rw[if_pos h3,if_pos (by omega)]
  ·rw[if_neg h3,if_neg (by omega)]
def Kg(V1:World)(B:Nat)(t:Nat->Nat)(lv:Value)(nl:Nat)(x:Value)(k:Nat)(f:Nat->Value)(wr:World):Prop :=
 Ae wr B t 2 44 1 lv nl (E5 x k f)/\Ch B (fun d=>d=2) t t V1 wr
theorem Jn(x:Value)(hx:x.oneCell'=true)(k:Nat)(hk:k=1\/k=2\/k=3):∃ news:List Value,news=(if k=1 then [x] else if k=2 then [x,x] else [x,x,x])/\news.length=k * 1/\(∀ r,r<k * 1->news[r]?=some ((fun _:Nat=>x) (r % 1)))/\∀ u,u∈news->u.oneCell'=true:=by
 rcases hk with rfl|rfl|rfl
 ·refine⟨_,rfl,rfl,fun r hr=>?_,fun u hu=>?_⟩
  ·obtain rfl:r=0:=by omega
   rfl
  ·simp at hu;rw[hu];exact hx
 ·refine⟨_,rfl,rfl,fun r hr=>?_,fun u hu=>?_⟩
  ·have:r=0\/r=1:=by omega
   rcases this with rfl|rfl<;>rfl
  ·simp at hu;rw[hu];exact hx
 ·refine⟨_,rfl,rfl,fun r hr=>?_,fun u hu=>?_⟩
  ·have:r=0\/r=1\/r=2:=by omega
   rcases this with rfl|rfl|rfl<;>rfl
  ·simp at hu;rw[hu];exact hx
def Hx(w:World)(B wb:Nat)(A:AN)(n:Nat->Nat)(q q1 q2 nf na:Nat)(e:Ending)(w':World):Prop :=
 e=.returned (.tuple #[]) /\
   ∃ (A':AN) (n':Nat->Nat),AZ w' B wb A' (fun d=>d=9) n'/\n' 0=4 * (q+2 * nf+na)/\n' 1=4 * (q1+1)/\n' 2=4 * (q2+1)/\n' 3=n 3/\A'.cv=A.cv/\A'.pv=A.pv /\
    (∀ b,b<w.heap.size->(b<B\/A.tag b=3\/A.tag b=4\/A.tag b=9)->w'.heap[b]?=w.heap[b]?)/\(∀ b,b<w.heap.size->(A.tag b=3\/A.tag b=4\/A.tag b=9)->A'.tag b=A.tag b)/\Below B w w'
theorem KJ(w:World)(B wb:Nat)(A:AN)(fp ap:Option Addr)(fc ac:Nat)(LV SV AV:Nat->Value)(fr:Nat->Fr)(nf na:Nat)(arr:List (List V))(n:Nat->Nat)(q q1 q2:Nat)
  (h:AZ w B wb A (fun d=>d=9) n) (hf:Cc w B A.tag (.slice fp nf fc) LV SV fr nf) (ha:Cd w B A.tag (.slice ap na ac) AV arr na) (hq:n 0=4 * q) (hq1:n 1=4 * q1) (hq2:n 2=4 * q2) (hqb:q+2 * nf+na<=1000000000000) (hqb1:q1<=1000000000000) (hqb2:q2<=1000000000000) (hnf:nf<=24) (hna:na<=100000) (hls:∀ k,k<nf->(fr k).loc.length<=200000/\(fr k).stk.length<=200000) (hal:∀ k,k<na->(arr.getD k []).length<=200000) :
  Calls prog 60 #[.pointer (some ⟨wb,2,none⟩),.agg #[.slice fp nf fc,.slice ap na ac]] w (Hx w B wb A n q q1 q2 nf na):=by
 have hst:FM (w.alloc (.cells #[.slice fp nf fc,.slice ap na ac] 53)) (Ac A.tag w.heap.size 9) B wb w.heap.size A (.slice fp nf fc) (.slice ap na ac) LV SV AV fr nf na arr n q 0 0 (w.alloc (.cells #[.slice fp nf fc,.slice ap na ac] 53)):=by
  have c0:Ch B (fun _=>False) A.tag (Ac A.tag w.heap.size 9) w (w.alloc (.cells #[.slice fp nf fc,.slice ap na ac] 53)):=Ch.of_tags ((Tu _ _).alloc (Te _) _) (fun b hb=>Ao _ _ _ _ (by omega));have e0:Ac n 0 (4 * (q+2 * 0+0))=n:=by
   funext i;unfold Ac;split
   ·rename_i e;rw[e,hq];omega
   ·rfl
  refine⟨{A with tag:=Ac A.tag w.heap.size 9},⟨?_,Tv _ _,Au _ _ _,hf.row.keep c0 (fun h=>h),ha.row.keep c0 (fun h=>h),fun k _ hk=>(hf.loc k hk).keep c0 (fun h=>h),fun k _ hk=>(hf.stk k hk).keep c0 (fun h=>h),fun k _ hk=>(ha.arr k hk).keep c0 (fun h=>h)⟩,rfl,rfl,rfl,Ch.refl _ _ _ _⟩;rw[e0];exact(h.keep c0 (fun _ _ h=>h)).retag (tag':=Ac A.tag w.heap.size 9) (fun b _ _=>rfl) (fun b _ hb=>Or.inl hb) (fun d hd=>GQ hd)
 have HX:=Aa (Tc h (Tc hf (Tc ha (Tc hq (Tc hq1 (Tc hq2 (Tc hls hal)))))));have HS:=Aa hst;clear h hf ha hst hq hq1 hq2 hls hal;go_enter func60,ntmps60
 go_wp2;generalize hW:w.alloc (.cells #[.slice fp nf fc,.slice ap na ac] 53)=W at *;generalize hsb:w.heap.size=sb at *;have HW:=Aa (Tc hW hsb);clear hW hsb;go_loopw [4] (fun v wr=>∃ i:Nat,i<=nf/\v=.int .i64 i/\FM W (Ac A.tag sb 9) B wb sb A (.slice fp nf fc) (.slice ap na ac) LV SV AV fr nf na arr n q i 0 wr) (fun v _=>nf-(intOf v).toNat)
 case atStart=>exact⟨0,Tt _,rfl,HS.out⟩
 case round =>
  clear HS;obtain⟨i,hi,rfl,A1,k1,cv1,pv1,xb1,ch1⟩:=hrel;have s0:wr.cell? ⟨sb,0,none⟩=some (.slice fp nf fc):=(Ab k1.box).trans rfl;have s1:wr.cell? ⟨sb,1,none⟩=some (.slice ap na ac):=(Ab k1.box).trans rfl;by_cases hlt:i<nf
  ·have hd:decide ((i:Int)<(nf:Int))=true:=by simp;omega
   obtain⟨fb,fcap,e1,_,_,_,_⟩:=k1.rf.form (by omega);have hrf:=k1.rf;injection e1 with e1 _ e3;subst e1;subst e3;have f2:=hrf.cell (i:=i * 4+2) (by omega);have e2:Cx fr LV SV (i * 4+2)=LV i:=by unfold Cx;rw[if_neg (by omega),if_neg (by omega),if_pos (by omega),show (i * 4+2) / 4=i by omega]
   have e3:Cx fr LV SV (i * 4+3)=SV i:=by unfold Cx;rw[if_neg (by omega),if_neg (by omega),if_neg (by omega),show (i * 4+3) / 4=i by omega]
   rw[e2] at f2;obtain⟨lp,lc,hlv⟩:=(k1.loc i (Te _) hlt).slc;obtain⟨sp,sc,hsv⟩:=(k1.stk i (Te _) hlt).slc;rw[hlv] at f2;have hl1:=k1.loc i (Te _) hlt;rw[hlv] at hl1;have HK:=Aa (Gk wr B wb A1 (Kt i 0) _ (q+2 * i+0) (11+4 * i) lp lc _ _ k1.hold (Au _ _ _) (by omega) hl1 (HX.out.2.2.2.2.2.2.1 i hlt).1 (Q8 i 0) (by unfold Wt;omega) (by omega));have H1:=Aa (Tc k1 (Tc cv1 (Tc pv1 (Tc xb1 (Tc ch1 (Tc hsv e3))))));generalize hll:(fr i).loc.length=ll at *;have hll2:ll<=200000:=by have:=(HX.out.2.2.2.2.2.2.1 i hlt).1;omega
   clear k1 cv1 pv1 xb1 ch1 hl1 hlv hsv e2 e3 hrf hll;go_wp2_with fail
   refine HK.out.mono ?_;rintro e w2 ⟨rfl,A2,h2,cv2,pv2,xb2,ch2⟩;obtain⟨k1,cv1,pv1,xb1,ch1,hsv,e3⟩:=H1.out;obtain⟨bx2,t92,rf2,rs2⟩:=k1.loc1 h2 ch2 hlt;have s02:w2.cell? ⟨sb,0,none⟩=some (.slice (some ⟨fb,0,none⟩) nf fc):=(Ab bx2).trans rfl;have f3:=rf2.cell (i:=i * 4+3) (by omega);rw[e3,hsv] at f3;rw[hsv] at rs2;have HK2:=Aa (Gk w2 B wb A2 _ _ (q+2 * i+0+1) (12+4 * i) sp sc _ _ h2 (Au _ _ _) (by omega) rs2 (HX.out.2.2.2.2.2.2.1 i hlt).2 (Sl i 0) (by unfold Wt;omega) (by omega));have H2:=Aa (Tc ch2 (Tc cv2 (Tc pv2 xb2)));generalize hll:(fr i).stk.length=ls at *;have hls2:ls<=200000:=by have:=(HX.out.2.2.2.2.2.2.1 i hlt).2;omega
   clear k1 cv1 pv1 xb1 ch1 hsv e3 bx2 t92 rf2 rs2 h2 cv2 pv2 xb2 ch2 HK s0 s1 f2 hll;go_wp2_with fail
   refine HK2.out.mono ?_;rintro e w3 ⟨rfl,A3,h3,cv3,pv3,xb3,ch3⟩;have HN:=Aa (show FM W (Ac A.tag sb 9) B wb sb A (.slice (some ⟨fb,0,none⟩) nf fc) (.slice ap na ac) LV SV AV fr nf na arr n q (i+1) 0 w3 from by
    obtain⟨k1,cv1,pv1,xb1,ch1,hsv,e3⟩:=H1.out;obtain⟨ch2,cv2,pv2,xb2⟩:=H2.out;obtain⟨k3,c3⟩:=k1.stk1 ch2 h3 ch3;refine⟨A3,?_,by rw[cv3,cv2,cv1],by rw[pv3,pv2,pv1],by rw[xb3,xb2,xb1],ch1.trans c3⟩;rw[JH,JH,show q+2 * i+0+1+1=q+2 * (i+1)+0 by omega] at k3;exact k3)
   clear h3 cv3 pv3 xb3 ch3 HK2 H1 H2 s02 f3;go_wp2;exact⟨⟨i+1,by omega,by go_num,HN.out⟩,by simp[intOf];omega⟩
  ·have hd:decide ((i:Int)<(nf:Int))=false:=by simp;omega
   obtain rfl:i=nf:=by omega
   have HT:=Aa (show FM W (Ac A.tag sb 9) B wb sb A (.slice fp i fc) (.slice ap na ac) LV SV AV fr i na arr n q i 0 wr from ⟨A1,k1,cv1,pv1,xb1,ch1⟩);clear k1 cv1 pv1 xb1 ch1;go_wp2;clear s0 s1;go_loopw [5] (fun v wz=>∃ j:Nat,j<=na/\v=.int .i64 j/\FM W (Ac A.tag sb 9) B wb sb A (.slice fp i fc) (.slice ap na ac) LV SV AV fr i na arr n q i j wz) (fun v _=>na-(intOf v).toNat)
   case atStart=>exact⟨0,Tt _,rfl,HT.out⟩
   case round =>
    clear HT;obtain⟨j,hj,rfl,A1,k1,cv1,pv1,xb1,ch1⟩:=hrel;have s0:wr.cell? ⟨sb,0,none⟩=some (.slice fp i fc):=(Ab k1.box).trans rfl;have s1:wr.cell? ⟨sb,1,none⟩=some (.slice ap na ac):=(Ab k1.box).trans rfl;by_cases hlt:j<na
    ·have hd:decide ((j:Int)<(na:Int))=true:=by simp;omega
     obtain⟨ab,acap,e1,_,_,_,_⟩:=k1.ra.form (by omega);have hra:=k1.ra;injection e1 with e1 _ e3;subst e1;subst e3;have f2:=hra.cell (i:=j) (by omega);obtain⟨lp,lc,hlv⟩:=(k1.arr j (Te _) hlt).slc;rw[hlv] at f2;have hl1:=k1.arr j (Te _) hlt;rw[hlv] at hl1;have HK:=Aa (Gk wr B wb A1 (Kt i j) _ (q+2 * i+j) (13+4 * j) lp lc _ _ k1.hold (Au _ _ _) (by omega) hl1 (HX.out.2.2.2.2.2.2.2 j hlt) (Rw i j) (by unfold Wt;omega) (by omega));have H1:=Aa (Tc k1 (Tc cv1 (Tc pv1 (Tc xb1 ch1))));generalize hll:(arr.getD j []).length=ll at *;have hll2:ll<=200000:=by have:=HX.out.2.2.2.2.2.2.2 j hlt;omega
     clear k1 cv1 pv1 xb1 ch1 hl1 hlv hra hll;go_wp2_with fail
     refine HK.out.mono ?_;rintro e w2 ⟨rfl,A2,h2,cv2,pv2,xb2,ch2⟩;have HN:=Aa (show FM W (Ac A.tag sb 9) B wb sb A (.slice fp i fc) (.slice (some ⟨ab,0,none⟩) na ac) LV SV AV fr i na arr n q i (j+1) w2 from by
      obtain⟨k1,cv1,pv1,xb1,ch1⟩:=H1.out;obtain⟨k3,c3⟩:=k1.arr1 h2 ch2;refine⟨A2,?_,by rw[cv2,cv1],by rw[pv2,pv1],by rw[xb2,xb1],ch1.trans c3⟩;rw[JH,show q+2 * i+j+1=q+2 * i+(j+1) by omega] at k3;exact k3)
     clear h2 cv2 pv2 xb2 ch2 HK H1 s0 s1 f2;go_wp2;exact⟨⟨j+1,by omega,by go_num,HN.out⟩,by simp[intOf];omega⟩
    ·have hd:decide ((j:Int)<(na:Int))=false:=by simp;omega
     obtain rfl:j=na:=by omega
     have hrv:=k1.hold.row 1 (by omega);have hq1:Ac n 0 (4 * (q+2 * i+j)) 1=4 * q1:=by rw[Ao _ _ _ _ (by omega)];exact HX.out.2.2.2.2.1
     rw[hq1] at hrv;obtain⟨vp,vc,hvv⟩:=hrv.slc;have x3:wr.cell? ⟨wb,3,none⟩=some (.slice vp (4 * q1) vc):=by rw[Ab k1.hold.blk,<-hvv];rfl
     have hwbz:=Ah k1.hold.blk;have hsbz:=Ah k1.box;have e1:Int.tdiv (4 * (q1:Int)) 4=(q1:Int):=by rw[Int.mul_comm];exact Int.mul_tdiv_cancel _ (by omega)
     have e2:wrap64 (-1000-(q1:Int))=-1000-(q1:Int):=by unfold wrap64;omega
     have HT:=Aa (Tc k1 (Tc cv1 (Tc pv1 (Tc xb1 (Tc ch1 (Tc hq1 hvv))))));clear k1 cv1 pv1 xb1 ch1 hrv hq1 hvv;go_wp2;clear e1 e2 s1 x3;generalize hmv:(-1000-(q1:Int))=mv at *;have HMV:=Aa hmv;clear hmv;obtain⟨W1,hW1⟩:∃ W1,W1=wr.alloc (.cells #[.int .i64 mv,.int .i64 0,.slice none 0 0,.slice none 0 0] 73):=⟨_,rfl⟩
     have hbm:W1.heap[wr.heap.size]?=some (.cells #[.int .i64 mv,.int .i64 0,.slice none 0 0,.slice none 0 0] 73 (0,0)):=by rw[hW1];exact Tv _ _
     obtain⟨t1,ht1⟩:∃ t1,t1=Ac A1.tag wr.heap.size 9:=⟨_,rfl⟩
     have c1:Ch B (fun _=>False) A1.tag t1 wr W1:=by rw[ht1,hW1];exact Ch.of_tags ((Tu _ _).alloc (Te _) _) (fun b hb=>Ao _ _ _ _ (by omega))
     have t9:t1 wr.heap.size=9:=by rw[ht1];exact Au _ _ _
     have HC1:=Aa (Tc c1 (Tc t9 hbm));rw[<-hW1];clear c1 t9 ht1 hbm hW1;generalize hmb:wr.heap.size=mb at *;have HMB:=Aa hmb;clear hmb s0;go_loopw [7] (fun v wz=>∃ k:Nat,k<=i/\v=.int .i64 k/\Kn W1 B t1 (.slice fp i fc) i q1 k (Cx fr LV SV) wz) (fun v _=>i-(intOf v).toNat)
     case atStart =>
      refine⟨0,Tt _,rfl,(HT.out.1.rf.keep HC1.out.1 (fun h=>h)).congr (fun x _=>?_),Ch.refl _ _ _ _⟩;unfold Dt;rw[if_neg (by omega)]
     case round =>
      obtain⟨k,hk,rfl,hrow,hch⟩:=hrel;have hmb1:=Ah HC1.out.2.2;have hsb1:W1.heap[sb]?=some (.cells #[.slice fp i fc,.slice ap j ac] 53 (0,0))/\t1 sb=9:=by
       have hz:=Ah HT.out.1.box;exact⟨(HC1.out.1.block sb hz (Or.inr (fun h=>h))).trans HT.out.1.box,(HC1.out.1.tags sb hz).trans HT.out.1.t9⟩
      have hbr:=(hch.block _ hmb1 (Or.inr (by rw[HC1.out.2.1];omega))).trans HC1.out.2.2;have hsr:=(hch.block _ (Ah hsb1.1) (Or.inr (by rw[hsb1.2];omega))).trans hsb1.1;have m0:wr.cell? ⟨mb,0,none⟩=some (.int .i64 mv):=(Ab hbr).trans rfl;have m1:wr.cell? ⟨mb,1,none⟩=some (.int .i64 0):=(Ab hbr).trans rfl;have m2:wr.cell? ⟨mb,2,none⟩=some (.slice none 0 0):=(Ab hbr).trans rfl;have m3:wr.cell? ⟨mb,3,none⟩=some (.slice none 0 0):=(Ab hbr).trans rfl;have s0:wr.cell? ⟨sb,0,none⟩=some (.slice fp i fc):=(Ab hsr).trans rfl;have s1:wr.cell? ⟨sb,1,none⟩=some (.slice ap j ac):=(Ab hsr).trans rfl;have hmz:mb<wr.heap.size:=Ah hbr;have Av:sb<wr.heap.size:=Ah hsr;by_cases hlt:k<i
      ·have hd:decide ((k:Int)<(i:Int))=true:=by simp;omega
       obtain⟨b,cap,e1,hb,hbz,hbt,hcap⟩:=hrow.form (by omega);injection e1 with e1 _ e3;subst e1;subst e3;have y0:=hrow.cell (i:=k * 4) (by omega);have y1:=hrow.cell (i:=k * 4+1) (by omega);have y2:=hrow.cell (i:=k * 4+2) (by omega);have y3:=hrow.cell (i:=k * 4+3) (by omega);have z0:=hrow.frozen (k * 4);have z1:=hrow.frozen (k * 4+1);have z2:=hrow.frozen (k * 4+2);have z3:=hrow.frozen (k * 4+3);have HN:=Aa (show Kn W1 B t1 (.slice (some ⟨b,0,none⟩) i fc) i q1 (k+1) (Cx fr LV SV) ((((wr.setCell ⟨b,k * 4,none⟩ (.int .i64 mv)).setCell ⟨b,k * 4+1,none⟩ (.int .i64 0)).setCell ⟨b,k * 4+2,none⟩ (.slice none 0 0)).setCell ⟨b,k * 4+3,none⟩ (.slice none 0 0)) from by
        refine⟨((((hrow.set (k * 4) (.int .i64 mv)).set (k * 4+1) (.int .i64 0)).set (k * 4+2) (.slice none 0 0)).set (k * 4+3) (.slice none 0 0)).congr (fun x _=>?_),(((hch.trans (Ch.set wr _ _ _ hb hbt)).trans (Ch.set _ _ _ _ hb hbt)).trans (Ch.set _ _ _ _ hb hbt)).trans (Ch.set _ _ _ _ hb hbt)⟩;rw[<-Pz];unfold Cs;rw[HMV.out])
       generalize Dt q1 k (Cx fr LV SV) (k * 4)=u0 at y0;generalize Dt q1 k (Cx fr LV SV) (k * 4+1)=u1 at y1;generalize Dt q1 k (Cx fr LV SV) (k * 4+2)=u2 at y2;generalize Dt q1 k (Cx fr LV SV) (k * 4+3)=u3 at y3;have hne:¬mb=b:=by intro e;have h9:=HC1.out.2.1;rw[e,hbt] at h9;omega
       have hne2:¬sb=b:=by intro e;have h9:=hsb1.2;rw[e,hbt] at h9;omega
       clear hrow hch hbr hsr hb hbt s1 hsb1;go_wp2;exact⟨⟨k+1,by omega,by go_num,HN.out⟩,by simp[intOf];omega⟩
      ·have hd:decide ((k:Int)<(i:Int))=false:=by simp;omega
       obtain rfl:k=i:=by omega
       obtain⟨inf,hi1,hz0,hz1,hz2⟩:∃ i,prog.info? 73=some i/\i.zero=some (.agg #[.int .i64 0,.int .i64 0,.slice none 0 0,.slice none 0 0])/\i.size=4/\i.bytes=64:=by
        obtain⟨i,hi,hzz⟩:=Tp.1 Tryz.infoFrameU;simp only[Prod.mk.injEq] at hzz;exact⟨i,hi,hzz.1,hzz.2.1,hzz.2.2⟩
       obtain⟨k1,cv1,pv1,xb1,ch0,hq1,hvv⟩:=HT.out;have hrow2:Ae wr B t1 1 73 4 (.slice fp k fc) k (fun x=>CI q1 (x % 4)):=hrow.congr (fun x hx=>by unfold Dt;rw[if_pos hx]);have ks0:KS wr B t1 1 73 4 (.slice fp k fc) k (CI q1) [.slice fp k fc]:=⟨hrow2,fun v hv=>by
        obtain rfl:v=.slice fp k fc:=by simpa using hv
        exact hrow2.full (by omega) rfl (fun _ _=>rfl)⟩
       have hBW:B<=W1.heap.size:=Nat.le_trans k1.hold.le HC1.out.1.size;have hBr:B<=wr.heap.size:=Nat.le_trans hBW hch.size;have hmq:Cs q1=mv:=HMV.out;obtain⟨nw1,en1,hl1,hr1,ho1⟩:=JV q1 mv hmq 1 (Or.inl rfl);rw[if_pos rfl] at en1;obtain⟨g1,c1,w1,r1,_,t2,ks1,ch1,hB1⟩:=ks0.app (P:=prog) hBr (by omega) 1 (by omega) (by omega) nw1 hl1 hr1 ho1 50 50 73 inf _ 64 underlying50 hi1 hz0 hz1 hz2 rfl (by decide) (by omega);obtain⟨nw2,en2,hl2,hr2,ho2⟩:=JV q1 mv hmq 2 (Or.inr (Or.inl rfl));rw[if_neg (by omega),if_pos rfl] at en2;obtain⟨g2,c2,w2,r2,_,t3,ks2,ch2,hB2⟩:=ks1.app (P:=prog) hB1 (by omega) 2 (by omega) (by omega) nw2 hl2 hr2 ho2 50 50 73 inf _ 64 underlying50 hi1 hz0 hz1 hz2 rfl (by decide) (by omega);obtain⟨nw3,en3,hl3,hr3,ho3⟩:=JV q1 mv hmq 3 (Or.inr (Or.inr rfl));rw[if_neg (by omega),if_neg (by omega)] at en3;obtain⟨g3,c3,w3,r3,_,t4,ks3,ch3,hB3⟩:=ks2.app (P:=prog) hB2 (by omega) 3 (by omega) (by omega) nw3 hl3 hr3 ho3 50 50 73 inf _ 64 underlying50 hi1 hz0 hz1 hz2 rfl (by decide) (by omega);rw[en1] at r1;rw[en2] at r2;rw[en3] at r3;have tm1:t1 mb≠1:=by rw[HC1.out.2.1];omega
       have ts1:t1 sb≠1:=by rw[hsb1.2];omega
       have hb1:=(ch1.block _ hmz (Or.inr tm1)).trans hbr;have hx1:=(ch1.block _ Av (Or.inr ts1)).trans hsr;have tm2:t2 mb≠1:=by rw[ch1.tags _ hmz];exact tm1
       have ts2:t2 sb≠1:=by rw[ch1.tags _ Av];exact ts1
       have hb2:=(ch2.block _ (Ah hb1) (Or.inr tm2)).trans hb1;have hx2:=(ch2.block _ (Ah hx1) (Or.inr ts2)).trans hx1;have tm3:t3 mb≠1:=by rw[ch2.tags _ (Ah hb1)];exact tm2
       have ts3:t3 sb≠1:=by rw[ch2.tags _ (Ah hx1)];exact ts2
       have hx3:=(ch3.block _ (Ah hx2) (Or.inr ts3)).trans hx2;have ts4:t4 sb=9:=by rw[ch3.tags _ (Ah hx2),ch2.tags _ (Ah hx1),ch1.tags _ Av];exact hsb1.2
       have m01:w1.cell? ⟨mb,0,none⟩=some (.int .i64 mv):=(Ab hb1).trans rfl;have m11:w1.cell? ⟨mb,1,none⟩=some (.int .i64 0):=(Ab hb1).trans rfl;have m21:w1.cell? ⟨mb,2,none⟩=some (.slice none 0 0):=(Ab hb1).trans rfl;have m31:w1.cell? ⟨mb,3,none⟩=some (.slice none 0 0):=(Ab hb1).trans rfl;have m02:w2.cell? ⟨mb,0,none⟩=some (.int .i64 mv):=(Ab hb2).trans rfl;have m12:w2.cell? ⟨mb,1,none⟩=some (.int .i64 0):=(Ab hb2).trans rfl;have m22:w2.cell? ⟨mb,2,none⟩=some (.slice none 0 0):=(Ab hb2).trans rfl;have m32:w2.cell? ⟨mb,3,none⟩=some (.slice none 0 0):=(Ab hb2).trans rfl;have s01:w1.cell? ⟨sb,0,none⟩=some (.slice fp k fc):=(Ab hx1).trans rfl;have s02:w2.cell? ⟨sb,0,none⟩=some (.slice fp k fc):=(Ab hx2).trans rfl;have s03:w3.cell? ⟨sb,0,none⟩=some (.slice fp k fc):=(Ab hx3).trans rfl;have hmz1:mb<w1.heap.size:=Ah hb1;have hmz2:mb<w2.heap.size:=Ah hb2;have hsz1:sb<w1.heap.size:=Ah hx1;have hsz2:sb<w2.heap.size:=Ah hx2;have hsz3:sb<w3.heap.size:=Ah hx3;have hkc:∀ d,Kt k j d\/Wt d->¬d=1:=fun d hd=>by rcases hd with hd|hd;exact(IR hd).1;unfold Wt at hd;omega
       have hH3:=((((k1.hold.keep HC1.out.1 (fun _ _ h=>h)).keep hch hkc).keep ch1 hkc).keep ch2 hkc).keep ch3 hkc;have hH4:=hH3.retag (Kd':=fun d=>Kt k j d\/d=1) (tag':=t4) (fun b _ _=>rfl) (fun b _ h=>Or.inl h) (fun d hd=>by rcases hd with hd|hd;exact GQ hd;rw[hd];unfold Wt;omega);have hra4:Ae w3 B t4 2 44 1 (.slice ap j ac) j AV:=((((k1.ra.keep HC1.out.1 (fun h=>h)).keep hch (by omega)).keep ch1 (by omega)).keep ch2 (by omega)).keep ch3 (by omega);have hfull:∀ v,v∈[Value.slice (some ⟨g3,0,none⟩) (k+3) c3,.slice (some ⟨g2,0,none⟩) (k+2) c2,.slice (some ⟨g1,0,none⟩) (k+1) c1,.slice fp k fc]->Ck w3.drew B t4 (fun d=>Kt k j d\/d=1) 4 v (CI q1):=fun v hv=>((ks3.full v hv).retag (Kd':=fun d=>Kt k j d\/d=1) (tag':=t4) (fun b _ h=>Or.inr h)).keep (Ch.of_below (p:=fun _=>False) (B:=B) (Tu _ _).drew) (fun _ _ h=>h) (fun _ h=>h)
       have x3:w3.cell? ⟨wb,3,none⟩=some (.slice vp (4 * q1) vc):=by rw[Ab hH4.blk,<-hvv];rfl
       have hwz3:wb<w3.heap.size:=Ah hH4.blk;have hHd:=hH4.below (Tu w3.heap.size w3).drew;obtain⟨ga,ca,wa,ra,xa,za,bla,WA,eA,yA,lA,gb,cb,wb2,rb,xb,zb,WB,eB,yB,lB,gc,cc,wc2,rc,xc,zc,WC,eC,yC,lC,gd,cd,wd,rd,xd,zd,A',hA',cvA,pvA,xbA,chA⟩:=hHd.four 1 (by omega) q1 (fun e=>by omega) hq1 hqb1 vp vc hvv _ _ _ _ 50 90 (hfull (.slice fp k fc) (by simp)) (hfull (.slice (some ⟨g1,0,none⟩) (k+1) c1) (by simp)) (hfull (.slice (some ⟨g2,0,none⟩) (k+2) c2) (by simp)) (hfull (.slice (some ⟨g3,0,none⟩) (k+3) c3) (by simp));have xa':wa.cell? ⟨wb,3,none⟩=some (.slice vp (4 * q1) vc):=xa;have za':wa.frozen? ⟨wb,3,none⟩=false:=za;have sa':wa.cell? ⟨sb,0,none⟩=some (.slice fp k fc):=(Tw (a:=⟨sb,0,none⟩) (bla sb hsz3 (by show t4 sb≠6;rw[ts4];omega))).trans s03;have xb':wb2.cell? ⟨wb,3,none⟩=some (.slice (some ⟨ga,0,none⟩) (4 * q1+1) ca):=xb;have zb':wb2.frozen? ⟨wb,3,none⟩=false:=zb;have xc':wc2.cell? ⟨wb,3,none⟩=some (.slice (some ⟨gb,0,none⟩) (4 * q1+1+1) cb):=xc;have zc':wc2.frozen? ⟨wb,3,none⟩=false:=zc;have xd':wd.cell? ⟨wb,3,none⟩=some (.slice (some ⟨gc,0,none⟩) (4 * q1+1+1+1) cc):=xd;have zd':wd.frozen? ⟨wb,3,none⟩=false:=zd;have eA':WA=wa.setCell ⟨wb,3,none⟩ (.slice (some ⟨ga,0,none⟩) (4 * q1+1) ca):=eA;have eB':WB=wb2.setCell ⟨wb,3,none⟩ (.slice (some ⟨gb,0,none⟩) (4 * q1+1+1) cb):=eB;have eC':WC=wc2.setCell ⟨wb,3,none⟩ (.slice (some ⟨gc,0,none⟩) (4 * q1+1+1+1) cc):=eC;have lA':wb<wa.heap.size:=by have:=lA;rw[eA'] at this;simpa using this
       have lB':wb<wb2.heap.size:=by have:=lB;rw[eB'] at this;simpa using this
       have lC':wb<wc2.heap.size:=by have:=lC;rw[eC'] at this;simpa using this
       rw[eA',show (wa.setCell ⟨wb,3,none⟩ (.slice (some ⟨ga,0,none⟩) (4 * q1+1) ca)).heap.size=wa.heap.size by simp] at rb;rw[eB',show (wb2.setCell ⟨wb,3,none⟩ (.slice (some ⟨gb,0,none⟩) (4 * q1+1+1) cb)).heap.size=wb2.heap.size by simp] at rc;rw[eC',show (wc2.setCell ⟨wb,3,none⟩ (.slice (some ⟨gc,0,none⟩) (4 * q1+1+1+1) cc)).heap.size=wc2.heap.size by simp] at rd;have hcall:Ch B (fun d=>DX d\/d=1\/d=6) (Ac A.tag sb 9) A'.tag W _:=((((((ch0.mono (q:=fun d=>DX d\/d=1\/d=6) (fun d hd=>Or.inl hd)).trans (HC1.out.1.mono (fun _ h=>h.elim))).trans (hch.mono (fun d hd=>Or.inr (Or.inl hd)))).trans (ch1.mono (fun d hd=>Or.inr (Or.inl hd)))).trans (ch2.mono (fun d hd=>Or.inr (Or.inl hd)))).trans ((ch3.mono (fun d hd=>Or.inr (Or.inl hd))).trans' (Tu _ _).drew)).trans (chA.mono (fun d hd=>by unfold DX;omega));have hbx5:=(chA.block sb hsz3 (Or.inr (by show ¬(t4 sb=0\/t4 sb=5+1);rw[ts4];omega))).trans hx3;have hra5:=(hra4.below (Tu w3.heap.size w3).drew).keep chA (by omega);have ts5:A'.tag sb=9:=(chA.tags sb hsz3).trans ts4;have HQ:=Aa (Tc hA' (Tc (cvA.trans cv1) (Tc (pvA.trans pv1) (Tc (xbA.trans xb1) (Tc hcall (Tc hbx5 (Tc hra5 ts5)))))));have HR:=Aa (Tc r1 (Tc r2 (Tc r3 (Tc ra (Tc rb (Tc rc rd))))));clear xa za xb zb xc zc xd zd eA eB eC yA yB yC lA lB lC eA' eB' eC' bla hHd;clear ks0 ks1 ks2 ks3 ch0 ch1 ch2 ch3 chA hA' hcall hfull hH3 hH4 hra4 k1 hrow hrow2 hch hb1 hb2 hbr hsr hx1 hx2 hx3 r1 r2 r3 ra rb rc rd en1 en2 en3 hl1 hl2 hl3 hr1 hr2 hr3 ho1 ho2 ho3 hkc cvA pvA xbA cv1 pv1 xb1 hq1 hvv HMV hi1 hz0 hz1 hz2 tm1 tm2 tm3 ts1 ts2 ts3 ts4 ts5 hbx5 hra5 HT HC1 hsb1;go_wp2_with (at_builtin;refine B5 rfl _ _ 50 rfl ?_)
       refine⟨?_,trivial⟩;refine BV _ rfl _ _ 50 rfl _ _ _ _ rfl rfl HR.out.1 ?_;clear m0 m1 m2 m3 s0 s1;go_wp2_with (at_builtin;refine B5 rfl _ _ 50 rfl ?_)
       refine⟨?_,trivial⟩;refine BV _ rfl _ _ 50 rfl _ _ _ _ rfl rfl HR.out.2.1 ?_;clear m01 m11 m21 m31 s01;go_wp2_with (at_builtin;refine B5 rfl _ _ 50 rfl ?_)
       refine⟨?_,trivial⟩;refine BV _ rfl _ _ 50 rfl _ _ _ _ rfl rfl HR.out.2.2.1 ?_;clear m02 m12 m22 m32 s02;go_wp2_with fail
       refine GH (fun w'=>w'.cell? ⟨wb,3,none⟩=some (.slice vp (4 * q1) vc)/\w'.cell? ⟨sb,0,none⟩=some (.slice fp k fc)) 11 TJ (by kernel_rfl) (by kernel_rfl) (fun c0 a0 d0 v0 y0 h0=>A8 (P:=prog) f60 (fun e w'=>Hx w B wb A n q q1 q2 k j e w') c0 a0 d0 v0 y0 h0) ⟨x3,s03⟩ ?_;simp only[TJ,lexL,Tl,Tm];iterate 7 (refine EG (by rfl) (by intro w' hS';obtain⟨q0,q1⟩:=hS';go_simp;exact rfl) ?_;simp only[Act.put,Td,Th,Tg])
       refine EZ (fun K hK=>?_);go_simp;refine hK.out _ _ ⟨BH (w:=w3.drew) x3 hwz3,BH (w:=w3.drew) s03 hsz3⟩ ?_;clear hK K;refine EZ (fun K hK=>?_);refine K8 _ rfl _ _ 90 rfl _ _ _ _ rfl rfl HR.out.2.2.2.1 ?_;refine hK.out _ _ ⟨xa',sa'⟩ ?_;clear hK K x3 s03;simp only[Act.put,Td,Th,Tg];iterate 2 (refine EG (by rfl) (by intro w' hS';go_simp;exact rfl) ?_;simp only[Act.put,Td,Th,Tg])
       refine Gt (fun K hK=>?_);go_simp;refine hK.out _ _ ?_;clear hK K;go_wp2_with (at_builtin;refine B5 rfl _ _ 90 rfl ?_)
       refine⟨?_,trivial⟩;refine BV _ rfl _ _ 90 rfl _ _ _ _ rfl rfl HR.out.2.2.2.2.1 ?_;clear xa' za' lA' sa';go_wp2_with (at_builtin;refine B5 rfl _ _ 90 rfl ?_)
       refine⟨?_,trivial⟩;refine BV _ rfl _ _ 90 rfl _ _ _ _ rfl rfl HR.out.2.2.2.2.2.1 ?_;clear xb' zb' lB';go_wp2_with (at_builtin;refine B5 rfl _ _ 90 rfl ?_)
       refine⟨?_,trivial⟩;refine BV _ rfl _ _ 90 rfl _ _ _ _ rfl rfl HR.out.2.2.2.2.2.2 ?_;clear xc' zc' lC' HR;go_upto_region 22 with fail
       obtain⟨hA',cvA,pvA,xbA,hcall,hbx5,hra5,ts5⟩:=HQ.out;change AZ (wd.setCell ⟨wb,3,none⟩ (.slice (some ⟨gd,0,none⟩) (4 * q1+1+1+1+1) cd)) _ _ _ _ _ at hA';change Ch _ _ _ _ _ (wd.setCell ⟨wb,3,none⟩ (.slice (some ⟨gd,0,none⟩) (4 * q1+1+1+1+1) cd)) at hcall;change (wd.setCell ⟨wb,3,none⟩ (.slice (some ⟨gd,0,none⟩) (4 * q1+1+1+1+1) cd)).heap[sb]?=_ at hbx5;change Ae (wd.setCell ⟨wb,3,none⟩ (.slice (some ⟨gd,0,none⟩) (4 * q1+1+1+1+1) cd)) _ _ _ _ _ _ _ _ at hra5;clear HQ xd' zd';generalize wd.setCell ⟨wb,3,none⟩ (.slice (some ⟨gd,0,none⟩) (4 * q1+1+1+1+1) cd)=V at *;have hn2:(Ac (Ac n 0 (4 * (q+2 * k+j))) 1 (4 * (q1+1))) 2=4 * q2:=by rw[Ao _ _ _ _ (by omega),Ao _ _ _ _ (by omega)];exact HX.out.2.2.2.2.2.1
       have hrv:=hA'.row 2 (by omega);rw[hn2] at hrv;obtain⟨yp,yc,hyv⟩:=hrv.slc;have x4:V.cell? ⟨wb,4,none⟩=some (.slice yp (4 * q2) yc):=by rw[Ab hA'.blk,<-hyv];rfl
       have e1:Int.tdiv (4 * (q2:Int)) 4=(q2:Int):=by rw[Int.mul_comm];exact Int.mul_tdiv_cancel _ (by omega)
       have e2:wrap64 (-1000-(q2:Int))=-1000-(q2:Int):=by unfold wrap64;omega
       have hwbV:=Ah hA'.blk;have hsbV:=Ah hbx5;have HV:=Aa (Tc hA' (Tc cvA (Tc pvA (Tc hcall (Tc hbx5 (Tc hra5 (Tc ts5 (Tc hn2 hyv))))))));clear hA' cvA pvA xbA hcall hbx5 hra5 ts5 hn2 hrv hyv;go_wp2;clear e1 e2 x4;generalize hmv2:(-1000-(q2:Int))=mv2 at *;have HMV2:=Aa hmv2;clear hmv2;obtain⟨V1,hV1⟩:∃ V1,V1=V.alloc (.cells #[.int .i64 mv2,.int .i64 0] 43):=⟨_,rfl⟩
       have hbm:V1.heap[V.heap.size]?=some (.cells #[.int .i64 mv2,.int .i64 0] 43 (0,0)):=by rw[hV1];exact Tv _ _
       obtain⟨t5,ht5⟩:∃ t5,t5=Ac A'.tag V.heap.size 9:=⟨_,rfl⟩
       have c5:Ch B (fun _=>False) A'.tag t5 V V1:=by rw[ht5,hV1];exact Ch.of_tags ((Tu _ _).alloc (Te _) _) (fun b hb=>Ao _ _ _ _ (by omega))
       have t95:t5 V.heap.size=9:=by rw[ht5];exact Au _ _ _
       have HC5:=Aa (Tc c5 (Tc t95 hbm));rw[<-hV1];clear c5 t95 ht5 hbm hV1;generalize hxb:V.heap.size=xb at *;have HXB:=Aa hxb;clear hxb;go_loopw [12] (fun v wz=>∃ m:Nat,m<=j/\v=.int .i64 m/\Kg V1 B t5 (.slice ap j ac) j (.slice (some ⟨xb,0,none⟩) 1 1) m AV wz) (fun v _=>j-(intOf v).toNat)
       case atStart =>
        refine⟨0,Tt _,rfl,(HV.out.2.2.2.2.2.1.keep HC5.out.1 (fun h=>h)).congr (fun x _=>?_),Ch.refl _ _ _ _⟩;unfold E5;rw[if_neg (by omega)]
       case round =>
        obtain⟨m,hm,rfl,hrow,hch⟩:=hrel;have hsb1:V1.heap[sb]?=some (.cells #[.slice fp k fc,.slice ap j ac] 53 (0,0))/\t5 sb=9:=by
         have hz:=Ah HV.out.2.2.2.2.1;exact⟨(HC5.out.1.block sb hz (Or.inr (fun h=>h))).trans HV.out.2.2.2.2.1,(HC5.out.1.tags sb hz).trans HV.out.2.2.2.2.2.2.1⟩
        have hsr:=(hch.block _ (Ah hsb1.1) (Or.inr (by rw[hsb1.2];omega))).trans hsb1.1;have s1:wr.cell? ⟨sb,1,none⟩=some (.slice ap j ac):=(Ab hsr).trans rfl;have Av:sb<wr.heap.size:=Ah hsr;by_cases hlt:m<j
        ·have hd:decide ((m:Int)<(j:Int))=true:=by simp;omega
         obtain⟨b,cap,e1,hb,hbz,hbt,hcap⟩:=hrow.form (by omega);injection e1 with e1 _ e3;subst e1;subst e3;have y0:=hrow.cell (i:=m) (by omega);have z0:=hrow.frozen m;have HN:=Aa (show Kg V1 B t5 (.slice (some ⟨b,0,none⟩) j ac) j (.slice (some ⟨xb,0,none⟩) 1 1) (m+1) AV (wr.setCell ⟨b,m,none⟩ (.slice (some ⟨xb,0,none⟩) 1 1)) from by
          refine⟨(hrow.set m _).congr (fun x _=>?_),hch.trans (Ch.set wr _ _ _ hb hbt)⟩;rw[<-Qy])
         generalize E5 (.slice (some ⟨xb,0,none⟩) 1 1) m AV m=u0 at y0;have hne2:¬sb=b:=by intro e;have h9:=hsb1.2;rw[e,hbt] at h9;omega
         clear hrow hch hsr hb hbt hsb1;go_wp2;exact⟨⟨m+1,by omega,by go_num,HN.out⟩,by simp[intOf];omega⟩
        ·have hd:decide ((m:Int)<(j:Int))=false:=by simp;omega
         obtain rfl:m=j:=by omega
         obtain⟨inf,hi1,hz0,hz1,hz2⟩:=KC 0 (by omega);change prog.info? 44=some inf at hi1;obtain⟨kA,cvA,pvA,hcall,hbx5,hra5,ts5,hn2,hyv⟩:=HV.out;obtain⟨xv,hxv⟩:∃ xv:Value,xv=.slice (some ⟨xb,0,none⟩) 1 1:=⟨_,rfl⟩
         have hx1c:xv.oneCell'=true:=by rw[hxv];rfl
         have hrow2:Ae wr B t5 2 44 1 (.slice ap m ac) m (fun x=>(fun _:Nat=>xv) (x % 1)):=hrow.congr (fun x hx=>by unfold E5;rw[if_pos (by omega),hxv]);have ks0:KS wr B t5 2 44 1 (.slice ap m ac) m (fun _:Nat=>xv) [.slice ap m ac]:=⟨hrow2,fun v hv=>by
          obtain rfl:v=.slice ap m ac:=by simpa using hv
          exact hrow2.full (by omega) rfl (fun _ _=>rfl)⟩
         have hBW:B<=V1.heap.size:=Nat.le_trans kA.le HC5.out.1.size;have hBr:B<=wr.heap.size:=Nat.le_trans hBW hch.size;obtain⟨nw1,en1,hl1,hr1,ho1⟩:=Jn xv hx1c 1 (Or.inl rfl);rw[if_pos rfl] at en1;obtain⟨g1,c1,w1,r1,_,t2,ks1,ch1,hB1⟩:=ks0.app (P:=prog) hBr (by omega) 1 (by omega) (by omega) nw1 hl1 hr1 ho1 51 51 44 inf _ 24 underlying51 hi1 hz0 hz1 hz2 rfl (by decide) (by omega);obtain⟨nw2,en2,hl2,hr2,ho2⟩:=Jn xv hx1c 2 (Or.inr (Or.inl rfl));rw[if_neg (by omega),if_pos rfl] at en2;obtain⟨g2,c2,w2,r2,_,t3,ks2,ch2,hB2⟩:=ks1.app (P:=prog) hB1 (by omega) 2 (by omega) (by omega) nw2 hl2 hr2 ho2 51 51 44 inf _ 24 underlying51 hi1 hz0 hz1 hz2 rfl (by decide) (by omega);obtain⟨nw3,en3,hl3,hr3,ho3⟩:=Jn xv hx1c 3 (Or.inr (Or.inr rfl));rw[if_neg (by omega),if_neg (by omega)] at en3;obtain⟨g3,c3,w3,r3,_,t4,ks3,ch3,hB3⟩:=ks2.app (P:=prog) hB2 (by omega) 3 (by omega) (by omega) nw3 hl3 hr3 ho3 51 51 44 inf _ 24 underlying51 hi1 hz0 hz1 hz2 rfl (by decide) (by omega);rw[en1,hxv] at r1;rw[en2,hxv] at r2;rw[en3,hxv] at r3;have ts1:t5 sb≠2:=by rw[hsb1.2];omega
         have hx1:=(ch1.block _ Av (Or.inr ts1)).trans hsr;have ts2:t2 sb≠2:=by rw[ch1.tags _ Av];exact ts1
         have hx2:=(ch2.block _ (Ah hx1) (Or.inr ts2)).trans hx1;have ts3:t3 sb≠2:=by rw[ch2.tags _ (Ah hx1)];exact ts2
         have hx3:=(ch3.block _ (Ah hx2) (Or.inr ts3)).trans hx2;have ts4:t4 sb=9:=by rw[ch3.tags _ (Ah hx2),ch2.tags _ (Ah hx1),ch1.tags _ Av];exact hsb1.2
         have s11:w1.cell? ⟨sb,1,none⟩=some (.slice ap m ac):=(Ab hx1).trans rfl;have s12:w2.cell? ⟨sb,1,none⟩=some (.slice ap m ac):=(Ab hx2).trans rfl;have s13:w3.cell? ⟨sb,1,none⟩=some (.slice ap m ac):=(Ab hx3).trans rfl;have hsz1:sb<w1.heap.size:=Ah hx1;have hsz2:sb<w2.heap.size:=Ah hx2;have hsz3:sb<w3.heap.size:=Ah hx3;have hxl:=Ah HC5.out.2.2;have kx0:=(hch.block _ hxl (Or.inr (by rw[HC5.out.2.1];omega))).trans HC5.out.2.2;have kx1:=(ch1.block _ (Ah kx0) (Or.inr (by rw[HC5.out.2.1];omega))).trans kx0;have tx1:t2 xb=9:=(ch1.tags _ (Ah kx0)).trans HC5.out.2.1;have kx2:=(ch2.block _ (Ah kx1) (Or.inr (by rw[tx1];omega))).trans kx1;have tx2:t3 xb=9:=(ch2.tags _ (Ah kx1)).trans tx1;have kx3:=(ch3.block _ (Ah kx2) (Or.inr (by rw[tx2];omega))).trans kx2;have tx3:t4 xb=9:=(ch3.tags _ (Ah kx2)).trans tx2;have hkc:∀ d,(Kt k m d\/d=1)\/Wt d->¬d=2:=fun d hd=>by
          rcases hd with (hd|hd)|hd
          ·exact(IR hd).2
          ·omega
          ·unfold Wt at hd;omega
         have hH3:=((((kA.keep HC5.out.1 (fun _ _ h=>h)).keep hch hkc).keep ch1 hkc).keep ch2 hkc).keep ch3 hkc;have hH4:=(hH3.retag (Kd':=fun d=>(Kt k m d\/d=1)\/d=2) (tag':=t4) (fun b _ _=>rfl) (fun b _ h=>Or.inl h) (fun d hd=>by
          rcases hd with (hd|hd)|hd
          ·exact GQ hd
          ·rw[hd];unfold Wt;omega
          ·rw[hd];unfold Wt;omega)).setX q2 xb hn2
         have hfull:∀ v,v∈[Value.slice (some ⟨g3,0,none⟩) (m+3) c3,.slice (some ⟨g2,0,none⟩) (m+2) c2,.slice (some ⟨g1,0,none⟩) (m+1) c1,.slice ap m ac]->Ck w3.drew B t4 (fun d=>(Kt k m d\/d=1)\/d=2) 1 v (fun _=>.slice (some ⟨Ac A'.XB q2 xb q2,0,none⟩) 1 1):=fun v hv=>by
          rw[Au,<-hxv];exact((ks3.full v hv).retag (Kd':=fun d=>(Kt k m d\/d=1)\/d=2) (tag':=t4) (fun b _ h=>Or.inr h)).keep (Ch.of_below (p:=fun _=>False) (B:=B) (Tu _ _).drew) (fun _ _ h=>h) (fun _ h=>h)
         have x4:w3.cell? ⟨wb,4,none⟩=some (.slice yp (4 * q2) yc):=by rw[Ab hH4.blk,<-hyv];rfl
         have hwz3:wb<w3.heap.size:=Ah hH4.blk;have hHd:=hH4.below (Tu w3.heap.size w3).drew;have hxok:EB w3.drew B {A' with tag:=t4,XB:=Ac A'.XB q2 xb} (fun d=>(Kt k m d\/d=1)\/d=2) q2:=by
          unfold EB;rw[show ({A' with tag:=t4,XB:=Ac A'.XB q2 xb}:AN).XB q2=xb from Au _ _ _];refine⟨Ah kx3,by rw[<-HXB.out];exact kA.le,Or.inl (Or.inl (Or.inl tx3)),?_,?_⟩
          ·show w3.cell? ⟨xb,0,none⟩=_;rw[Ab kx3];have:Cs q2=mv2:=HMV2.out;rw[this];rfl
          ·show w3.cell? ⟨xb,1,none⟩=_;rw[Ab kx3];rfl
         obtain⟨ga,ca,wa,ra,xa,za,bla,WA,eA,yA,lA,gb,cb,wb2,rb,xbb,zb,WB,eB,yB,lB,gc,cc,wc2,rc,xc,zc,WC,eC,yC,lC,gdd,cdd,wdd,rd,xd,zd,A'',hA'',cvB,pvB,xbB,chB⟩:=hHd.four 2 (by omega) q2 (fun _=>hxok) hn2 hqb2 yp yc hyv _ _ _ _ 51 91 (hfull (.slice ap m ac) (by simp)) (hfull (.slice (some ⟨g1,0,none⟩) (m+1) c1) (by simp)) (hfull (.slice (some ⟨g2,0,none⟩) (m+2) c2) (by simp)) (hfull (.slice (some ⟨g3,0,none⟩) (m+3) c3) (by simp));have xa':wa.cell? ⟨wb,4,none⟩=some (.slice yp (4 * q2) yc):=xa;have za':wa.frozen? ⟨wb,4,none⟩=false:=za;have sa':wa.cell? ⟨sb,1,none⟩=some (.slice ap m ac):=(Tw (a:=⟨sb,1,none⟩) (bla sb hsz3 (by show t4 sb≠7;rw[ts4];omega))).trans s13;have xb':wb2.cell? ⟨wb,4,none⟩=some (.slice (some ⟨ga,0,none⟩) (4 * q2+1) ca):=xbb;have zb':wb2.frozen? ⟨wb,4,none⟩=false:=zb;have xc':wc2.cell? ⟨wb,4,none⟩=some (.slice (some ⟨gb,0,none⟩) (4 * q2+1+1) cb):=xc;have zc':wc2.frozen? ⟨wb,4,none⟩=false:=zc;have xd':wdd.cell? ⟨wb,4,none⟩=some (.slice (some ⟨gc,0,none⟩) (4 * q2+1+1+1) cc):=xd;have zd':wdd.frozen? ⟨wb,4,none⟩=false:=zd;have eA':WA=wa.setCell ⟨wb,4,none⟩ (.slice (some ⟨ga,0,none⟩) (4 * q2+1) ca):=eA;have eB':WB=wb2.setCell ⟨wb,4,none⟩ (.slice (some ⟨gb,0,none⟩) (4 * q2+1+1) cb):=eB;have eC':WC=wc2.setCell ⟨wb,4,none⟩ (.slice (some ⟨gc,0,none⟩) (4 * q2+1+1+1) cc):=eC;have lA':wb<wa.heap.size:=by have:=lA;rw[eA'] at this;simpa using this
         have lB':wb<wb2.heap.size:=by have:=lB;rw[eB'] at this;simpa using this
         have lC':wb<wc2.heap.size:=by have:=lC;rw[eC'] at this;simpa using this
         rw[eA',show (wa.setCell ⟨wb,4,none⟩ (.slice (some ⟨ga,0,none⟩) (4 * q2+1) ca)).heap.size=wa.heap.size by simp] at rb;rw[eB',show (wb2.setCell ⟨wb,4,none⟩ (.slice (some ⟨gb,0,none⟩) (4 * q2+1+1) cb)).heap.size=wb2.heap.size by simp] at rc;rw[eC',show (wc2.setCell ⟨wb,4,none⟩ (.slice (some ⟨gc,0,none⟩) (4 * q2+1+1+1) cc)).heap.size=wc2.heap.size by simp] at rd;have HQ:=Aa (show Hx w B wb A n q q1 q2 k m (.returned (.tuple #[])) (wdd.setCell ⟨wb,4,none⟩ (.slice (some ⟨gdd,0,none⟩) (4 * q2+1+1+1+1) cdd)) from by
          have hf:∀ d,d=2->((DX d\/d=1\/d=6)\/d=2\/d=7):=fun d hd=>Or.inr (Or.inl hd)
          have hc2:Ch B (fun d=>(DX d\/d=1\/d=6)\/d=2\/d=7) (Ac A.tag sb 9) A''.tag W (wdd.setCell ⟨wb,4,none⟩ (.slice (some ⟨gdd,0,none⟩) (4 * q2+1+1+1+1) cdd)) :=
           ((((((hcall.mono (fun d hd=>Or.inl hd)).trans (HC5.out.1.mono (fun _ h=>h.elim))).trans (hch.mono hf)).trans (ch1.mono hf)).trans (ch2.mono hf)).trans ((ch3.mono hf).trans' (Tu _ _).drew)).trans (chB.mono (fun d hd=>by unfold DX;omega))
          have hw0:Below sb w W/\w.heap.size=sb:=by
           obtain⟨e1,e2⟩:=HW.out;rw[<-e1,<-e2];exact⟨(Tu _ _).alloc (Te _) _,rfl⟩
          have hBs:B<=sb:=by rw[<-hw0.2];exact HX.out.1.le
          have hblk:∀ b,b<sb->(b<B\/A.tag b=3\/A.tag b=4\/A.tag b=9)->(wdd.setCell ⟨wb,4,none⟩ (.slice (some ⟨gdd,0,none⟩) (4 * q2+1+1+1+1) cdd)).heap[b]?=w.heap[b]?:=fun b hb hp=>by
           refine(hc2.block b (Ts hb (by have:=hw0.1.size;have:=hw0.2;omega)) ?_).trans (hw0.1.block b hb);rcases hp with hp|hp
           ·exact Or.inl hp
           ·right;rw[Ao _ _ _ _ (by omega)];unfold DX;omega
          have htag:∀ b,b<sb->A''.tag b=A.tag b:=fun b hb=>(hc2.tags b (Ts hb (by have:=hw0.1.size;have:=hw0.2;omega))).trans (Ao _ _ _ _ (by omega))
          have hA3:=hA''.retag (Kd':=fun d=>d=9) (tag':=fun b=>if A''.tag b<=8/\A''.tag b≠1/\A''.tag b≠2 then A''.tag b else 9) (fun b _ hb=>by
           show (if _ then _ else _)=_;rw[if_pos (by unfold Wt at hb;omega)]) (fun b _ hb=>by
           show (if _ then _ else _)=_;rw[if_neg];rcases hb with (hb|hb)|hb
           ·have h1:=IR hb;rcases hb with hb|⟨x,_,hb⟩|⟨x,_,hb⟩<;>omega
           ·omega
           ·omega) (fun d hd=>by rw[hd];unfold Wt;omega)
          refine⟨rfl,_,_,hA3,?_,?_,Au _ _ _,?_,cvB.trans cvA,pvB.trans pvA,fun b hb hp=>hblk b (by rw[<-hw0.2];exact hb) hp,fun b hb hp=>?_,?_⟩
          ·rw[Ao _ _ _ _ (by omega),Ao _ _ _ _ (by omega),Au]
          ·rw[Ao _ _ _ _ (by omega),Au]
          ·rw[Ao _ _ _ _ (by omega),Ao _ _ _ _ (by omega),Ao _ _ _ _ (by omega)]
          ·show (if A''.tag b<=8/\A''.tag b≠1/\A''.tag b≠2 then A''.tag b else 9)=A.tag b;rw[htag b (by rw[<-hw0.2];exact hb)];rcases hp with hp|hp|hp
           ·rw[if_pos (by omega)]
           ·rw[if_pos (by omega)]
           ·rw[if_neg (by omega)];exact hp.symm
          ·exact(hw0.1.mono hBs).trans (hc2.below (Nat.le_trans hBs (by have:=hw0.1.size;have:=hw0.2;omega))))
         have HR:=Aa (Tc r1 (Tc r2 (Tc r3 (Tc ra (Tc rb (Tc rc rd))))));clear xa za xbb zb xc zc xd zd eA eB eC yA yB yC lA lB lC eA' eB' eC' bla hHd;clear ks0 ks1 ks2 ks3 ch1 ch2 ch3 chB hA'' hcall hfull hH3 hH4 kA hrow hrow2 hch hsr hx1 hx2 hx3 r1 r2 r3 ra rb rc rd en1 en2 en3 hl1 hl2 hl3 hr1 hr2 hr3 ho1 ho2 ho3 hkc cvA pvA cvB pvB xbB hn2 hyv HMV2 hi1 hz0 hz1 hz2 ts1 ts2 ts3 ts4 ts5 hbx5 hra5 HV HC5 hsb1 hxl kx0 kx1 kx2 kx3 tx1 tx2 tx3 hxok hx1c HX;go_wp2_with (at_builtin;refine B5 rfl _ _ 51 rfl ?_)
         refine⟨?_,trivial⟩;refine BV _ rfl _ _ 51 rfl _ _ _ _ rfl rfl HR.out.1 ?_;clear s1;go_wp2_with (at_builtin;refine B5 rfl _ _ 51 rfl ?_)
         refine⟨?_,trivial⟩;refine BV _ rfl _ _ 51 rfl _ _ _ _ rfl rfl HR.out.2.1 ?_;clear s11;go_wp2_with (at_builtin;refine B5 rfl _ _ 51 rfl ?_)
         refine⟨?_,trivial⟩;refine BV _ rfl _ _ 51 rfl _ _ _ _ rfl rfl HR.out.2.2.1 ?_;clear s12;go_wp2_with fail
         refine GH (fun w'=>w'.cell? ⟨wb,4,none⟩=some (.slice yp (4 * q2) yc)/\w'.cell? ⟨sb,1,none⟩=some (.slice ap m ac)) 11 TJ (by kernel_rfl) (by kernel_rfl) (fun c0 a0 d0 v0 y0 h0=>A8 (P:=prog) f60 (fun e w'=>Hx w B wb A n q q1 q2 k m e w') c0 a0 d0 v0 y0 h0) ⟨x4,s13⟩ ?_;simp only[TJ,lexL,Tl,Tm];iterate 7 (refine EG (by rfl) (by intro w' hS';obtain⟨q0,q1⟩:=hS';go_simp;exact rfl) ?_;simp only[Act.put,Td,Th,Tg])
         refine EZ (fun K hK=>?_);go_simp;refine hK.out _ _ ⟨BH (w:=w3.drew) x4 hwz3,BH (w:=w3.drew) s13 hsz3⟩ ?_;clear hK K;refine EZ (fun K hK=>?_);refine K8 _ rfl _ _ 91 rfl _ _ _ _ rfl rfl HR.out.2.2.2.1 ?_;refine hK.out _ _ ⟨xa',sa'⟩ ?_;clear hK K x4 s13;simp only[Act.put,Td,Th,Tg];iterate 2 (refine EG (by rfl) (by intro w' hS';go_simp;exact rfl) ?_;simp only[Act.put,Td,Th,Tg])
         refine Gt (fun K hK=>?_);go_simp;refine hK.out _ _ ?_;clear hK K;go_wp2_with (at_builtin;refine B5 rfl _ _ 91 rfl ?_)
         refine⟨?_,trivial⟩;refine BV _ rfl _ _ 91 rfl _ _ _ _ rfl rfl HR.out.2.2.2.2.1 ?_;clear xa' za' lA' sa';go_wp2_with (at_builtin;refine B5 rfl _ _ 91 rfl ?_)
         refine⟨?_,trivial⟩;refine BV _ rfl _ _ 91 rfl _ _ _ _ rfl rfl HR.out.2.2.2.2.2.1 ?_;clear xb' zb' lB';go_wp2_with (at_builtin;refine B5 rfl _ _ 91 rfl ?_)
         refine⟨?_,trivial⟩;refine BV _ rfl _ _ 91 rfl _ _ _ _ rfl rfl HR.out.2.2.2.2.2.2 ?_;clear xc' zc' lC' HR;go_wp2;go_end0;exact HQ.out
end
end Go.Proofs.YtkafkipjedpohaaGreatDoor

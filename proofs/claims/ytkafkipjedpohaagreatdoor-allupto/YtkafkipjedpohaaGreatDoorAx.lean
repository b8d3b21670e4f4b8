import Derived.Deep.RegionHeld3
import Derived.Deep.QuietTactic
import Derived.Below
import Derived.Deep.OwnRows
namespace Go.Proofs.YtkafkipjedpohaaGreatDoor
open Go Go.RowKit
theorem Tc:∀{a b:Prop},a→b→a∧b:=@And.intro
theorem Td:∀{α:Type}(l:List α)(i:Nat)(a:α),l.toArray.setIfInBounds i a=(l.set i a).toArray:=@List.setIfInBounds_toArray
theorem Te:∀(n:Nat),n≤n:=@Nat.le_refl
theorem Tf:∀{α:Type}(y:α){a:α}{l:List α},a∈l→a∈y::l:=@List.mem_cons_of_mem
theorem Tg:∀{α:Type}{x:α}{xs:List α}{i:Nat}{a:α},(x::xs).set (i+1) a=x::xs.set i a:=@List.set_cons_succ
theorem Th:∀{α:Type}{x:α}{xs:List α}{a:α},(x::xs).set 0 a=a::xs:=@List.set_cons_zero
theorem Ti:∀{α:Type}{a:α}{l:List α},a∈a::l:=@List.mem_cons_self
theorem Tj:∀{α:Type}{l:List α}{i:Nat}{a:α},l.getD i a=l[i]?.getD a:=@List.getD_eq_getElem?_getD
theorem Tl:∀{α:Type}{a:α}{l:List α},(a::l)[0]?=some a:=@List.getElem?_cons_zero
theorem Tm:∀{α:Type}{a:α}{i:Nat}{l:List α},(a::l)[i+1]?=l[i]?:=@List.getElem?_cons_succ
theorem Tn:∀{α:Type}{a:α}{as:List α},(a::as).length=as.length+1:=@List.length_cons
theorem To:∀(w:World)(p a:Addr)(v:Value),p.block≠a.block→(w.setCell p v).cell? a=w.cell? a:=@World.cell?_setCell_far
theorem Tp:∀{α:Type}{b:α}{β:Type}{x:Option β}{f:β→α},x.map f=some b↔∃ a,x=some a∧f a=b:=@Option.map_eq_some_iff
theorem Tq:∀{α:Type}{k l:List α}{i:Nat},i<k.length→(k++l)[i]?=k[i]?:=@List.getElem?_append_left
theorem Tr:∀(w:World)(a:Addr){u:Value},w.cell? a=some u→a.block<w.heap.size:=@World.block_lt_of_cell?
theorem Ts:∀{n m k:Nat},n<m→m≤k→n<k:=@Nat.lt_of_lt_of_le
theorem Tt:∀(n:Nat),0≤n:=@Nat.zero_le
theorem Tu:∀(B:Nat)(w:World),Below B w w:=@Below.refl
theorem Tv:∀(w:World)(o:Obj),(w.alloc o).heap[w.heap.size]?=some o:=@Go.Deep.blk_alloc_new
theorem Tw:∀{w w':World}{a:Addr},w'.heap[a.block]?=w.heap[a.block]?→w'.cell? a=w.cell? a:=@World.cell?_of_block
theorem Tx:∀(w:World)(a:Addr)(u:Value)(k:Nat),k≠a.block→(w.setCell a u).heap[k]?=w.heap[k]?:=@Below.heap_setCell
theorem Ty:∀(w:World)(o:Obj)(k:Nat),k<w.heap.size→(w.alloc o).heap[k]?=w.heap[k]?:=@Below.heap_alloc
set_option maxRecDepth 100000
set_option maxHeartbeats 16000000
structure PF where
 args:Int
 locals:Int
 cn:Nat
 op:Nat->Int
 ar:Nat->Int
structure St where
 K:Nat->Bool
 L:Nat->Bool
 H:Nat->Int
def Ac{α:Type}(f:Nat->α)(i:Nat)(v:α):Nat->α:=fun j=>if j=i then v else f j
theorem Au{α:Type}(f:Nat->α)(i:Nat)(v:α):Ac f i v i=v:=by simp[Ac]
theorem Ao{α:Type}(f:Nat->α)(i j:Nat)(v:α)(h:j≠i):Ac f i v j=f j:=by simp[Ac,h]
def Bz(op a locals n funcs:Int):Bool :=
 if op=2\/op=3 then decide (0<=a/\a<locals)
 else if op=10\/op=11 then decide (0<=a/\a<n)
 else if op=12 then decide (0<=a/\a<funcs)
 else if op=13 then decide (0<=a/\a<=8)
 else decide (0<=op/\op<=21)
def Gf(op a locals n funcs:Int):Bool :=
 if op=2\/op=3 then decide (0<=a/\a<locals)
 else if op=10\/op=11 then decide (0<=a/\a<n)
 else if op=12 then decide (0<=a/\a<funcs)
 else if op=13 then decide (0<=a/\a<9)
 else true
theorem MA(op a locals n funcs:Int):Bz op a locals n funcs=(decide (0<=op/\op<22)&&Gf op a locals n funcs):=by
 unfold Bz Gf;rw[Bool.eq_iff_iff];by_cases h1:op=2\/op=3
 ·have:0<=op/\op<22:=by omega
  simp[h1,this]
 ·by_cases h2:op=10\/op=11
  ·have:0<=op/\op<22:=by omega
   simp[h1,h2,this]
  ·by_cases h3:op=12
   ·subst h3;simp
   ·by_cases h4:op=13
    ·subst h4;simp;omega
    ·simp[h1,h2,h3,h4];omega
theorem E3{op a locals n funcs:Int}(h:Bz op a locals n funcs=true):0<=op/\op<22:=by
 rw[MA] at h;simp at h;omega
theorem DF{op a locals n funcs:Int}(h:Bz op a locals n funcs=true)(hj:op=10\/op=11):0<=a/\a<n:=by
 unfold Bz at h;rw[if_neg (by omega),if_pos hj] at h;simpa using h
theorem Fz{op a locals n funcs:Int}(h:Bz op a locals n funcs=true)(hj:op=13):0<=a/\a<=8:=by
 subst hj;simpa [Bz] using h
def A6(op:Int):Int :=
 if op=0\/op=1\/op=2\/op=12\/op=10 then 0
 else if op=4\/op=5\/op=6\/op=7\/op=8\/op=9\/op=16 then 2
 else if op=17 then 3
 else 1
def At(op a:Int):Int:=if op=13 then 1+a else A6 op
def Bc(op:Int):Int :=
 if op=3\/op=10\/op=11\/op=14\/op=17\/op=19\/op=20 then 0
 else if op=21 then 2
 else 1
theorem PR(op:Int):0<=A6 op/\A6 op<=3:=by unfold A6;split<;>(try split)<;>(try split)<;>omega
theorem IJ(op:Int):0<=Bc op/\Bc op<=2:=by unfold Bc;split<;>(try split)<;>omega
theorem Mq{op a:Int}(h:op=13->0<=a/\a<=8):0<=At op a/\At op a<=9:=by
 unfold At;have:=PR op;split
 ·have:=h (by assumption);omega
 ·omega
def Bj(op a:Int)(i:Nat):List Int :=
 if op=14 then [] else if op=10 then [a] else if op=11 then [(i:Int)+1,a] else [(i:Int)+1]
def Cg(n:Nat)(s:St)(to h:Int):Int × St :=
 if (n:Int)<=to then (3,s)
 else if s.K to.toNat=true/\s.H to.toNat≠h then (4,s)
 else (0,{K:=Ac s.K to.toNat true,L:=s.L,H:=Ac s.H to.toNat h})
def BU(n:Nat)(h:Int):List Int->St->Int × St
 |[],s=>(0,s)
 |t::r,s=>if (Cg n s t h).1=0 then BU n h r (Cg n s t h).2 else Cg n s t h
def BM(n:Nat)(op ar:Nat->Int)(s:St)(i:Nat):Int × St :=
 if s.H i<At (op i) (ar i) then (4,{s with L:=Ac s.L i true})
 else if 16<s.H i-At (op i) (ar i)+Bc (op i) then (4,{s with L:=Ac s.L i true})
 else BU n (s.H i-At (op i) (ar i)+Bc (op i)) (Bj (op i) (ar i) i) {s with L:=Ac s.L i true}
def Bi(p:Nat->Bool):Nat->Nat
 |0=>0
 |n+1=>if Bi p n<n then Bi p n else if p n=true then n else n+1
theorem Gc(p:Nat->Bool)(n:Nat)(h:∀ j,j<n->p j=false):Bi p n=n:=by
 induction n with
 |zero=>rfl
 |succ n ih =>
  unfold Bi;rw[ih (fun j hj=>h j (by omega)),if_neg (by omega),h n (by omega)];simp
theorem GL(p:Nat->Bool)(n i:Nat)(hi:i<n)(hp:p i=true)(h:∀ j,j<i->p j=false):Bi p n=i:=by
 induction n with
 |zero=>omega
 |succ n ih =>
  unfold Bi;by_cases e:i=n
  ·subst e;rw[Gc p i h,if_neg (by omega),if_pos hp]
  ·rw[ih (by omega),if_pos (by omega)]
theorem FR(p:Nat->Bool)(n:Nat):(Bi p n<n/\p (Bi p n)=true/\∀ j,j<Bi p n->p j=false)\/(Bi p n=n/\∀ j,j<n->p j=false):=by
 induction n with
 |zero=>right;exact⟨rfl,fun j hj=>by omega⟩
 |succ n ih =>
  unfold Bi;rcases ih with⟨h1,h2,h3⟩|⟨h1,h2⟩
  ·rw[if_pos h1];left;exact⟨by omega,h2,h3⟩
  ·rw[h1,if_neg (by omega)];cases hn:p n
   ·right;simp;intro j hj;by_cases e:j=n
    ·rw[e];exact hn
    ·exact h2 j (by omega)
   ·left;simp;exact⟨hn,h2⟩
def Ba(s:St):Nat->Bool:=fun j=>s.K j&&!s.L j
def Cl(n:Nat)(op ar:Nat->Int):Nat->St->Int × Int
 |0,_=>(0,0)
 |f+1,s =>
  if Bi (Ba s) n<n then
   if (BM n op ar s (Bi (Ba s) n)).1=0 then Cl n op ar f (BM n op ar s (Bi (Ba s) n)).2
   else ((BM n op ar s (Bi (Ba s) n)).1,(Bi (Ba s) n:Int))
  else (0,0)
def Cf(L:Nat->Bool):Nat->Nat
 |0=>0
 |n+1=>Cf L n+if L n=true then 0 else 1
theorem I1(L:Nat->Bool)(n:Nat):Cf L n<=n:=by
 induction n with
 |zero=>simp[Cf]
 |succ n ih=>unfold Cf;split<;>omega
theorem Pq(L:Nat->Bool)(n i:Nat)(h:n<=i):Cf (Ac L i true) n=Cf L n:=by
 induction n with
 |zero=>rfl
 |succ n ih=>unfold Cf;rw[ih (by omega),Ao _ _ _ _ (by omega)]
theorem JW(L:Nat->Bool)(n i:Nat)(hi:i<n)(h:L i=false):Cf (Ac L i true) n+1=Cf L n:=by
 induction n with
 |zero=>omega
 |succ n ih =>
  unfold Cf;by_cases e:i=n
  ·subst e;rw[Pq _ _ _ (Te _),Au,h];simp
  ·have:=ih (by omega);rw[Ao _ _ _ _ (by omega)];omega
theorem My(n:Nat)(s:St)(to h:Int):(Cg n s to h).2.L=s.L:=by unfold Cg;split<;>(try split)<;>rfl
theorem Mr(n:Nat)(h:Int)(l:List Int)(s:St):(BU n h l s).2.L=s.L:=by
 induction l generalizing s with
 |nil=>rfl
 |cons t r ih=>unfold BU;split;rw[ih,My];exact My _ _ _ _
theorem JQ(n:Nat)(op ar:Nat->Int)(s:St)(i:Nat):(BM n op ar s i).2.L=Ac s.L i true:=by
 unfold BM;split;rfl;split;rfl;rw[Mr]
def HB(s:St):Prop:=∀ j,0<=s.H j/\s.H j<=16
theorem Kf{n:Nat}{s:St}{to h:Int}(hs:HB s)(h0:0<=h/\h<=16):HB (Cg n s to h).2:=by
 unfold Cg;split
 ·exact hs
 ·split
  ·exact hs
  ·intro j;simp only[Ac];split
   ·exact h0
   ·exact hs j
theorem Qx{n:Nat}{h:Int}(h0:0<=h/\h<=16)(l:List Int){s:St}(hs:HB s):HB (BU n h l s).2:=by
 induction l generalizing s with
 |nil=>exact hs
 |cons t r ih =>
  unfold BU;split
  ·exact ih (Kf hs h0)
  ·exact Kf hs h0
theorem KX{n:Nat}{op ar:Nat->Int}{s:St}{i:Nat}(hs:HB s):HB (BM n op ar s i).2:=by
 unfold BM;split
 ·exact hs
 ·split
  ·exact hs
  ·refine Qx ⟨?_,by omega⟩ _ hs;have:=IJ (op i);omega
def s0:St:={K:=Ac (fun _=>false) 0 true,L:=fun _=>false,H:=fun _=>0}
theorem Lt:HB s0:=fun _=>⟨by simp[s0],by simp[s0]⟩
def B6(f:PF):Bool:=decide (0<=f.locals/\f.locals<=8)&&decide (0<=f.args/\f.args<=f.locals)&&decide (1<=f.cn/\f.cn<=64)
def CF(m:Nat)(f:PF):Nat->Bool:=fun j=>!Bz (f.op j) (f.ar j) f.locals f.cn m
def BW(m k:Nat)(f:PF):Int × Int :=
 if B6 f=false\/(k=0/\f.args≠0) then (1,0)
 else if Bi (CF m f) f.cn<f.cn then (2,(Bi (CF m f) f.cn:Int))
 else Cl f.cn f.op f.ar (f.cn+1) s0
def B8(m:Nat)(F:Nat->PF):Nat->Bool:=fun k=>decide ((BW m k (F k)).1≠0)
def AW(m:Nat)(F:Nat->PF):Int × Int × Int :=
 if m<1\/8<m then (1,0,0)
 else if Bi (B8 m F) m<m then ((BW m (Bi (B8 m F) m) (F (Bi (B8 m F) m))).1,(Bi (B8 m F) m:Int),(BW m (Bi (B8 m F) m) (F (Bi (B8 m F) m))).2)
 else (0,0,0)
end Go.Proofs.YtkafkipjedpohaaGreatDoor
namespace Go.Proofs.YtkafkipjedpohaaGreatDoor
structure Mp (n:Nat) (op ar:Nat->Int) (K:Nat->Bool) (H:Nat->Int):Prop where
 first:K 0=true/\H 0=0
 low:∀ i,i<n->K i=true->At (op i) (ar i)<=H i
 high:∀ i,i<n->K i=true->H i-At (op i) (ar i)+Bc (op i)<=16
 next:∀ i,i<n->K i=true->∀ t,t∈Bj (op i) (ar i) i->t<n/\K t.toNat=true/\H t.toNat=H i-At (op i) (ar i)+Bc (op i)
theorem Pi{n:Nat}{s:St}{to h:Int}(e:(Cg n s to h).1=0) :
  to<n/\(∀ j,s.K j=true->(Cg n s to h).2.K j=true/\(Cg n s to h).2.H j=s.H j)/\(Cg n s to h).2.K to.toNat=true/\(Cg n s to h).2.H to.toNat=h:=by
 unfold Cg at e ⊢;by_cases h1:(n:Int)<=to
 ·rw[if_pos h1] at e;simp at e
 ·rw[if_neg h1] at e ⊢;by_cases h2:s.K to.toNat=true/\s.H to.toNat≠h
  ·rw[if_pos h2] at e;simp at e
  ·rw[if_neg h2];refine⟨by omega,fun j hj=>?_,Au _ _ _,Au _ _ _⟩;by_cases e2:j=to.toNat
   ·subst e2;refine⟨Au _ _ _,?_⟩;show Ac s.H to.toNat h to.toNat=_;rw[Au];by_cases e3:s.H to.toNat=h
    ·exact e3.symm
    ·exact absurd ⟨hj,e3⟩ h2
   ·exact⟨(Ao _ _ _ _ e2).trans hj,Ao _ _ _ _ e2⟩
theorem Pd{n:Nat}{h:Int}:∀ {l:List Int} {s:St},(BU n h l s).1=0 ->
  (∀ j,s.K j=true->(BU n h l s).2.K j=true/\(BU n h l s).2.H j=s.H j)/\(∀ t,t∈l->t<n/\(BU n h l s).2.K t.toNat=true/\(BU n h l s).2.H t.toNat=h):=by
 intro l;induction l with
 |nil=>intro s _;exact⟨fun j hj=>⟨hj,rfl⟩,fun t ht=>by cases ht⟩
 |cons t r ih =>
  intro s e;unfold BU at e ⊢;by_cases h0:(Cg n s t h).1=0
  ·rw[if_pos h0] at e ⊢;obtain⟨a1,a2,a3,a4⟩:=Pi h0;obtain⟨b1,b2⟩:=ih e;refine⟨fun j hj=>?_,fun u hu=>?_⟩
   ·obtain⟨c1,c2⟩:=a2 j hj;obtain⟨d1,d2⟩:=b1 j c1;exact⟨d1,d2.trans c2⟩
   ·rcases List.mem_cons.1 hu with rfl|hu
    ·obtain⟨d1,d2⟩:=b1 _ a3;exact⟨a1,d1,d2.trans a4⟩
    ·exact b2 u hu
  ·rw[if_neg h0] at e;exact absurd e h0
structure GR (n:Nat) (op ar:Nat->Int) (s:St):Prop where
 first:s.K 0=true/\s.H 0=0
 good:∀ i,i<n->s.L i=true->At (op i) (ar i)<=s.H i/\s.H i-At (op i) (ar i)+Bc (op i)<=16/\s.K i=true /\
  ∀ t,t∈Bj (op i) (ar i) i->t<n/\s.K t.toNat=true/\s.H t.toNat=s.H i-At (op i) (ar i)+Bc (op i)
theorem Qn(n:Nat)(op ar:Nat->Int):GR n op ar s0:=⟨⟨by simp[s0,Ac],by simp[s0]⟩,fun i _ h=>by simp[s0] at h⟩
theorem GR.look{n:Nat}{op ar:Nat->Int}{s:St}(h:GR n op ar s){i:Nat}(hk:s.K i=true)(e:(BM n op ar s i).1=0):GR n op ar (BM n op ar s i).2:=by
 unfold BM at e ⊢;by_cases h1:s.H i<At (op i) (ar i)
 ·rw[if_pos h1] at e;simp at e
 ·rw[if_neg h1] at e ⊢;by_cases h2:16<s.H i-At (op i) (ar i)+Bc (op i)
  ·rw[if_pos h2] at e;simp at e
  ·rw[if_neg h2] at e ⊢;obtain⟨b1,b2⟩:=Pd e;have bL:=Mr n (s.H i-At (op i) (ar i)+Bc (op i)) (Bj (op i) (ar i) i) {s with L:=Ac s.L i true};generalize (BU n (s.H i-At (op i) (ar i)+Bc (op i)) (Bj (op i) (ar i) i) {s with L:=Ac s.L i true}).2=s' at *;refine⟨⟨(b1 0 h.first.1).1,(b1 0 h.first.1).2.trans h.first.2⟩,fun j hj hL=>?_⟩;rw[bL] at hL;by_cases e2:j=i
   ·subst e2;obtain⟨c1,c2⟩:=b1 j hk;rw[c2];exact⟨by show At (op j) (ar j)<=s.H j;omega,by show s.H j-At (op j) (ar j)+Bc (op j)<=16;omega,c1,b2⟩
   ·have hL':s.L j=true:=by rw[<-Ao s.L i j true e2];exact hL
    obtain⟨g1,g2,g3,g4⟩:=h.good j hj hL';obtain⟨c1,c2⟩:=b1 j g3;rw[c2];refine⟨g1,g2,c1,fun t ht=>?_⟩;obtain⟨k1,k2,k3⟩:=g4 t ht;obtain⟨d1,d2⟩:=b1 _ k2;exact⟨k1,d1,d2.trans k3⟩
theorem NL{n:Nat}{op ar:Nat->Int}:∀ {f:Nat} {s:St},Cf s.L n<f->GR n op ar s->(Cl n op ar f s).1=0->∃ K H,Mp n op ar K H:=by
 intro f;induction f with
 |zero=>intro s h;omega
 |succ f ih =>
  intro s hu ha e;unfold Cl at e;rcases FR (Ba s) n with⟨h1,h2,h3⟩|⟨h1,h2⟩
  ·rw[if_pos h1] at e;have hw:s.K (Bi (Ba s) n)=true/\s.L (Bi (Ba s) n)=false:=by simpa [Ba] using h2
   by_cases h0:(BM n op ar s (Bi (Ba s) n)).1=0
   ·rw[if_pos h0] at e;refine ih ?_ (ha.look hw.1 h0) e;rw[JQ];have:=JW s.L n _ h1 hw.2;omega
   ·rw[if_neg h0] at e;exact absurd e h0
  ·have hall:∀ i,i<n->s.K i=true->s.L i=true:=fun i hi hk=>by
    have:=h2 i hi;simpa [Ba,hk] using this
   exact⟨s.K,s.H,ha.first,fun i hi hk=>(ha.good i hi (hall i hi hk)).1,fun i hi hk=>(ha.good i hi (hall i hi hk)).2.1,fun i hi hk=>(ha.good i hi (hall i hi hk)).2.2.2⟩
structure Iw (m k:Nat) (f:PF) (K:Nat->Bool) (H:Nat->Int):Prop where
 locals:0<=f.locals/\f.locals<=8
 args:0<=f.args/\f.args<=f.locals/\(k=0->f.args=0)
 cn:1<=f.cn/\f.cn<=64
 legal:∀ i,i<f.cn->Bz (f.op i) (f.ar i) f.locals f.cn m=true
 closed:Mp f.cn f.op f.ar K H
theorem Qu{m k:Nat}{f:PF}(h:(BW m k f).1=0):∃ K H,Iw m k f K H:=by
 unfold BW at h;by_cases h1:B6 f=false\/(k=0/\f.args≠0)
 ·rw[if_pos h1] at h;simp at h
 ·rw[if_neg h1] at h;have hs:B6 f=true:=by
   cases e:B6 f
   ·exact absurd (Or.inl e) h1
   ·rfl
  unfold B6 at hs;simp only[Bool.and_eq_true,decide_eq_true_eq] at hs;obtain⟨⟨⟨l0,l8⟩,a0,al⟩,n1,n64⟩:=hs;rcases FR (CF m f) f.cn with⟨h2,h3,h4⟩|⟨h2,h3⟩
  ·rw[if_pos h2] at h;simp at h
  ·rw[if_neg (by omega)] at h;obtain⟨K,H,hc⟩:=NL (by have:=I1 s0.L f.cn;omega) (Qn f.cn f.op f.ar) h;refine⟨K,H,⟨l0,l8⟩,⟨a0,al,fun e=>?_⟩,⟨n1,n64⟩,fun i hi=>?_,hc⟩
   ·by_cases e2:f.args=0
    ·exact e2
    ·exact absurd (Or.inr ⟨e,e2⟩) h1
   ·have:=h3 i hi;simpa [CF] using this
end Go.Proofs.YtkafkipjedpohaaGreatDoor
namespace Go.Proofs.YtkafkipjedpohaaGreatDoor
structure V where
 k:Int
 n:Int
def As:V:=⟨0,0⟩
def Bn(n:Int):V:=⟨1,n⟩
def Dn(n:Int):Int:=(n+9223372036854775808) % 18446744073709551616-9223372036854775808
structure Fr where
 fn:Nat
 pc:Nat
 loc:List V
 stk:List V
structure Mc where
 fr:List Fr
 arr:List (List V)
 out:List V
 gives:V
 steps:Nat
 fin:Int
 high:List Bool
 made:Nat->Bool
 cH:Nat
 cU:Nat
 cD:Nat
def AE(op:Int)(a b:V):V × Int :=
 if op=9 then ((if a.k=b.k/\a.n=b.n then Bn 1 else Bn 0),0)
 else if a.k≠1\/b.k≠1 then (As,3)
 else if op=4 then (Bn (Dn (a.n+b.n)),0)
 else if op=5 then (Bn (Dn (a.n-b.n)),0)
 else if op=6 then (Bn (Dn (a.n * b.n)),0)
 else if op=8 then ((if a.n<b.n then Bn 1 else Bn 0),0)
 else if b.n=0 then (As,4)
 else (Bn (Dn (a.n.tdiv b.n)),0)
def AL(arr:List (List V)):Int:=(arr.map fun l=>(l.length:Int)).sum
def AS(arr:List (List V))(a i:V):Int :=
 if a.k≠2\/i.k≠1 then 3
 else if i.n<0\/((arr.getD a.n.toNat []).length:Int)<=i.n then 5
 else 0
def Ak(op a:Int)(f:Fr)(arr:List (List V))(out:List V):Fr × List (List V) × List V × Int :=
 if op=0 then ({f with stk:=Bn a::f.stk},arr,out,0)
 else if op=1 then ({f with stk:=As::f.stk},arr,out,0)
 else if op=12 then ({f with stk:=⟨3,a⟩::f.stk},arr,out,0)
 else if op=2 then ({f with stk:=f.loc.getD a.toNat As::f.stk},arr,out,0)
 else match f.stk with
 |[]=>(f,arr,out,0)
 |x::r =>
  if op=3 then ({f with stk:=r,loc:=f.loc.set a.toNat x},arr,out,0)
  else if op=19 then ({f with stk:=r},arr,out++[x],0)
  else if op=20 then ({f with stk:=r},arr,out,0)
  else if op=21 then ({f with stk:=x::x::r},arr,out,0)
  else if op=15 then
   if x.k≠1 then ({f with stk:=r},arr,out,3)
   else if x.n<0 then ({f with stk:=r},arr,out,5)
   else if 200-AL arr<x.n then ({f with stk:=r},arr,out,8)
   else ({f with stk:=⟨2,(arr.length:Int)⟩::r},arr++[List.replicate x.n.toNat As],out,0)
  else if op=18 then
   if x.k≠2 then ({f with stk:=r},arr,out,3)
   else ({f with stk:=Bn ((arr.getD x.n.toNat []).length:Int)::r},arr,out,0)
  else match r with
  |[]=>(f,arr,out,0)
  |y::q =>
   if op=16 then
    if AS arr y x=0 then ({f with stk:=(arr.getD y.n.toNat []).getD x.n.toNat As::q},arr,out,0)
    else ({f with stk:=q},arr,out,AS arr y x)
   else if op=17 then match q with
    |[]=>(f,arr,out,0)
    |z::p =>
     if AS arr z y=0 then ({f with stk:=p},arr.set z.n.toNat ((arr.getD z.n.toNat []).set y.n.toNat x),out,0)
     else ({f with stk:=p},arr,out,AS arr z y)
   else if (AE op y x).2=0 then ({f with stk:=(AE op y x).1::q},arr,out,0)
   else ({f with stk:=q},arr,out,(AE op y x).2)
def Ce(v:V):Bool:=decide (v.k=0\/(v.k=1/\v.n=0))
def AJ(F:Nat->PF)(A:Nat)(f:Fr)(rest:List Fr)(s:Mc):Mc :=
 match f.stk.drop A with
 |[]=>s
 |g::r =>
  if g.k≠3\/(F g.n.toNat).args≠A then {s with fr:={f with stk:=r}::rest,fin:=6}
  else if 24<=rest.length+1 then {s with fr:={f with stk:=r}::rest,fin:=7}
  else {s with
   fr:={fn:=g.n.toNat,pc:=0,loc:=(f.stk.take A).reverse++List.replicate ((F g.n.toNat).locals.toNat-A) As,stk:=[]}::{f with pc:=f.pc+1,stk:=r}::rest,
   high:=s.made g.n.toNat::s.high}
def AT(f:Fr)(rest:List Fr)(s:Mc):Mc :=
 match f.stk with
 |[]=>s
 |v::_=>match rest with
  |[]=>{s with fr:=[],high:=s.high.drop 1,gives:=v,fin:=1}
  |g::r=>{s with fr:={g with stk:=v::g.stk}::r,high:=s.high.drop 1}
def AA(F:Nat->PF)(s0:Mc):Mc :=
 match s0.fr with
 |[]=>s0
 |f::rest =>
  let s:={s0 with steps:=s0.steps+1,cH:=s0.cH+(if s0.high.headD false=true then 1 else 0)}
  let op:=(F f.fn).op f.pc
  let a:=(F f.fn).ar f.pc
  if op=10 then {s with fr:={f with pc:=a.toNat}::rest}
  else if op=11 then match f.stk with
   |[]=>s
   |v::r=>{s with fr:={f with pc:=(if Ce v=true then a.toNat else f.pc+1),stk:=r}::rest}
  else if op=13 then AJ F a.toNat f rest s
  else if op=14 then AT f rest s
  else
   let x:=Ak op a f s.arr s.out
   {s with fr:=(if x.2.2.2=0 then {x.1 with pc:=f.pc+1} else x.1)::rest,arr:=x.2.1,out:=x.2.2.1,fin:=x.2.2.2}
def CB(f:PF)(i:Nat):Bool:=(List.range f.cn).any fun k=>decide (i<=k/\(f.op k=10\/f.op k=11)/\f.ar k=(i:Int))
def D2(all:Bool)(n:Int):List Fr->List Bool->List Bool × Nat
 |f::fr,h::hs =>
  let r:=D2 all n fr hs
  if h=true/\(all=true\/(f.fn:Int)=n) then (false::r.1,r.2+1) else (h::r.1,r.2)
 |_,hs=>(hs,0)
def Bu(F:Nat->PF)(kind n:Int)(s:Mc):Mc :=
 if kind=1 then {s with made:=Ac s.made n.toNat true}
 else if kind=3 then match s.fr with
  |[]=>s
  |f::_=>if s.high.headD false=false/\s.made f.fn=true/\CB (F f.fn) f.pc=true then {s with high:=true::s.high.drop 1,cU:=s.cU+1} else s
 else
  let d:=D2 (decide (kind=4)) n s.fr s.high
  {s with high:=d.1,cD:=s.cD+d.2,made:=if kind=2 then Ac s.made n.toNat false else s.made}
def D5(m na:Nat)(v:V):Prop:=(v.k=2->0<=v.n/\v.n<na)/\(v.k=3->0<=v.n/\v.n<m)/\(v.k=0->v.n=0)
theorem D5.mono{m na na':Nat}{v:V}(h:D5 m na v)(hn:na<=na'):D5 m na' v:=⟨fun e=>⟨(h.1 e).1,by have:=(h.1 e).2;omega⟩,h.2⟩
theorem F5(m na:Nat):D5 m na As:=⟨fun e=>by simp[As] at e,fun e=>by simp[As] at e,fun _=>rfl⟩
theorem Jr(m na:Nat)(n:Int):D5 m na (Bn n):=⟨fun e=>by simp[Bn] at e,fun e=>by simp[Bn] at e,fun e=>by simp[Bn] at e⟩
def By(m na:Nat)(l:List V):Prop:=∀ v,v∈l->D5 m na v
theorem By.mono{m na na':Nat}{l:List V}(h:By m na l)(hn:na<=na'):By m na' l:=fun v hv=>(h v hv).mono hn
theorem By.cons{m na:Nat}{v:V}{l:List V}(hv:D5 m na v)(h:By m na l):By m na (v::l):=fun u hu=>by
 rcases List.mem_cons.1 hu with rfl|hu
 ·exact hv
 ·exact h u hu
structure AP (m:Nat) (F:Nat->PF) (K:Nat->Nat->Bool) (H:Nat->Nat->Int):Prop where
 size:1<=m/\m<=8
 fn:∀ k,k<m->Iw m k (F k) (K k) (H k)
structure CS (m na:Nat) (F:Nat->PF) (K:Nat->Nat->Bool) (H:Nat->Nat->Int) (d:Int) (f:Fr):Prop where
 fn:f.fn<m
 pc:f.pc<(F f.fn).cn
 known:K f.fn f.pc=true
 locs:(f.loc.length:Int)=(F f.fn).locals
 height:(f.stk.length:Int)+d=H f.fn f.pc
 loc:By m na f.loc
 stk:By m na f.stk
theorem CS.mono{m na na':Nat}{F:Nat->PF}{K:Nat->Nat->Bool}{H:Nat->Nat->Int}{d:Int}{f:Fr}(h:CS m na F K H d f)(hn:na<=na'):CS m na' F K H d f :=
 ⟨h.fn,h.pc,h.known,h.locs,h.height,h.loc.mono hn,h.stk.mono hn⟩
structure BS (m:Nat) (F:Nat->PF) (K:Nat->Nat->Bool) (H:Nat->Nat->Int) (s:Mc):Prop where
 top:∃ f rest,s.fr=f::rest/\CS m s.arr.length F K H 0 f/\(∀ g,g∈rest->CS m s.arr.length F K H 1 g)/\rest.length+1<=24
 highs:s.high.length=s.fr.length
 arrs:∀ l,l∈s.arr->By m s.arr.length l
 cells:AL s.arr<=200
end Go.Proofs.YtkafkipjedpohaaGreatDoor
namespace Go.Proofs.YtkafkipjedpohaaGreatDoor
theorem By.getD{m na:Nat}{l:List V}(h:By m na l)(i:Nat):D5 m na (l.getD i As):=by
 by_cases hi:i<l.length
 ·rw[Tj,List.getElem?_eq_getElem hi];exact h _ (List.getElem_mem _)
 ·rw[Tj,List.getElem?_eq_none (by omega)];exact F5 _ _
theorem By.set{m na:Nat}{l:List V}(h:By m na l)(i:Nat){v:V}(hv:D5 m na v):By m na (l.set i v):=fun u hu=>by
 rcases List.mem_or_eq_of_mem_set hu with hu|rfl
 ·exact h u hu
 ·exact hv
theorem By.tail{m na:Nat}{v:V}{l:List V}(h:By m na (v::l)):By m na l:=fun u hu=>h u (Tf _ hu)
theorem By.head{m na:Nat}{v:V}{l:List V}(h:By m na (v::l)):D5 m na v:=h v Ti
theorem Qe(m na:Nat)(op:Int)(a b:V):D5 m na (AE op a b).1:=by
 unfold AE;repeat' split
 all_goals first|exact Jr _ _ _|exact F5 _ _
theorem JD(arr:List (List V))(l:List V):AL (arr++[l])=AL arr+l.length:=by
 simp[AL]
theorem Me(arr:List (List V))(i:Nat)(l:List V)(h:l.length=(arr.getD i []).length):AL (arr.set i l)=AL arr:=by
 unfold AL;induction arr generalizing i with
 |nil=>simp
 |cons a r ih =>
  cases i with
  |zero=>simp at h;simp[h]
  |succ i=>simp only[Tg,List.map_cons,List.sum_cons];rw[ih i (by simpa using h)]
structure PS (m:Nat) (op a:Int) (f:Fr) (arr:List (List V)) (x:Fr × List (List V) × List V × Int):Prop where
 fn:x.1.fn=f.fn
 pc:x.1.pc=f.pc
 locs:x.1.loc.length=f.loc.length
 height:x.2.2.2=0->(x.1.stk.length:Int)=f.stk.length-At op a+Bc op
 more:arr.length<=x.2.1.length
 loc:By m x.2.1.length x.1.loc
 stk:By m x.2.1.length x.1.stk
 arrs:∀ l,l∈x.2.1->By m x.2.1.length l
 cells:AL x.2.1<=200
theorem GS{arr:List (List V)}{a i:V}(h:AS arr a i=0):a.k=2/\i.k=1/\0<=i.n/\i.n<(arr.getD a.n.toNat []).length:=by
 unfold AS at h;by_cases h1:a.k≠2\/i.k≠1
 ·rw[if_pos h1] at h;simp at h
 ·rw[if_neg h1] at h;by_cases h2:i.n<0\/((arr.getD a.n.toNat []).length:Int)<=i.n
  ·rw[if_pos h2] at h;simp at h
  ·omega
theorem LQ{m:Nat}{arr:List (List V)}(h:∀ l,l∈arr->By m arr.length l)(i:Nat):By m arr.length (arr.getD i []):=by
 by_cases hi:i<arr.length
 ·rw[Tj,List.getElem?_eq_getElem hi];exact h _ (List.getElem_mem _)
 ·rw[Tj,List.getElem?_eq_none (by omega)];intro v hv;cases hv
theorem E9{m:Nat}{op a:Int}{f:Fr}{arr:List (List V)}{out:List V}{locals n:Int}(hl:Bz op a locals n m=true)(h10:op≠10)(h11:op≠11)(h13:op≠13)(h14:op≠14)
  (hp:At op a<=f.stk.length) (ho:By m arr.length f.loc) (hs:By m arr.length f.stk) (ha:∀ l,l∈arr->By m arr.length l) (hc:AL arr<=200) :
  PS m op a f arr (Ak op a f arr out):=by
 have hr:=E3 hl;obtain⟨fn,pc,loc,stk⟩:=f;simp only at hp ho hs;by_cases e0:op=0
 ·subst e0;simp only[Ak,if_pos];exact⟨rfl,rfl,rfl,fun _=>by simp[At,A6,Bc],Te _,ho,hs.cons (Jr _ _ _),ha,hc⟩
 by_cases e1:op=1
 ·subst e1;simp only[Ak,if_pos,if_neg e0];exact⟨rfl,rfl,rfl,fun _=>by simp[At,A6,Bc],Te _,ho,hs.cons (F5 _ _),ha,hc⟩
 by_cases e12:op=12
 ·subst e12;have hf:0<=a/\a<m:=by simpa [Bz] using hl
  simp only[Ak,if_pos,if_neg e0,if_neg e1];exact⟨rfl,rfl,rfl,fun _=>by simp[At,A6,Bc],Te _,ho,hs.cons ⟨fun e=>by simp at e,fun _=>hf,fun e=>by simp at e⟩,ha,hc⟩
 by_cases e2:op=2
 ·subst e2;simp only[Ak,if_pos,if_neg e0,if_neg e1,if_neg e12];exact⟨rfl,rfl,rfl,fun _=>by simp[At,A6,Bc],Te _,ho,hs.cons (ho.getD _),ha,hc⟩
 have hp1:1<=At op a:=by
  unfold At A6;rw[if_neg h13,if_neg (by omega)];split
  ·omega
  ·split<;>omega
 cases stk with
 |nil=>simp at hp;omega
 |cons x r =>
  simp only[Ak,if_neg e0,if_neg e1,if_neg e12,if_neg e2];by_cases e3:op=3
  ·subst e3;simp only[if_pos];exact⟨rfl,rfl,by simp,fun _=>by simp[At,A6,Bc],Te _,ho.set _ hs.head,hs.tail,ha,hc⟩
  by_cases e19:op=19
  ·subst e19;simp only[if_pos,if_neg e3];exact⟨rfl,rfl,rfl,fun _=>by simp[At,A6,Bc],Te _,ho,hs.tail,ha,hc⟩
  by_cases e20:op=20
  ·subst e20;simp only[if_pos,if_neg e3,if_neg e19];exact⟨rfl,rfl,rfl,fun _=>by simp[At,A6,Bc],Te _,ho,hs.tail,ha,hc⟩
  by_cases e21:op=21
  ·subst e21;simp only[if_pos,if_neg e3,if_neg e19,if_neg e20];exact⟨rfl,rfl,rfl,fun _=>by simp[At,A6,Bc];omega,Te _,ho,hs.cons hs.head,ha,hc⟩
  by_cases e15:op=15
  ·subst e15;simp only[if_pos,if_neg e3,if_neg e19,if_neg e20,if_neg e21];split
   ·exact⟨rfl,rfl,rfl,fun e=>by simp at e,Te _,ho,hs.tail,ha,hc⟩
   ·split
    ·exact⟨rfl,rfl,rfl,fun e=>by simp at e,Te _,ho,hs.tail,ha,hc⟩
    ·split
     ·exact⟨rfl,rfl,rfl,fun e=>by simp at e,Te _,ho,hs.tail,ha,hc⟩
     ·have hle:arr.length<=(arr++[List.replicate x.n.toNat As]).length:=by simp
      refine⟨rfl,rfl,rfl,fun _=>by simp[At,A6,Bc],hle,ho.mono hle,(hs.tail.mono hle).cons ⟨fun _=>by simp;omega,fun e=>by simp at e,fun e=>by simp at e⟩,fun l hm=>?_,?_⟩
      ·rcases List.mem_append.1 hm with hm|hm
       ·exact(ha l hm).mono hle
       ·rw[List.mem_singleton] at hm;subst hm;intro v hv;rw[List.mem_replicate] at hv;rw[hv.2];exact F5 _ _
      ·show AL (arr++[List.replicate x.n.toNat As])<=200;rw[JD,List.length_replicate];omega
  by_cases e18:op=18
  ·subst e18;simp only[if_pos,if_neg e3,if_neg e19,if_neg e20,if_neg e21,if_neg e15];split
   ·exact⟨rfl,rfl,rfl,fun e=>by simp at e,Te _,ho,hs.tail,ha,hc⟩
   ·exact⟨rfl,rfl,rfl,fun _=>by simp[At,A6,Bc],Te _,ho,hs.tail.cons (Jr _ _ _),ha,hc⟩
  simp only[if_neg e3,if_neg e19,if_neg e20,if_neg e21,if_neg e15,if_neg e18];have hp2:2<=At op a:=by
   unfold At A6;rw[if_neg h13,if_neg (by omega)];split
   ·omega
   ·split<;>omega
  cases r with
  |nil=>simp at hp;omega
  |cons y q =>
   simp only;by_cases e16:op=16
   ·subst e16;simp only[if_pos];split
    ·exact⟨rfl,rfl,rfl,fun _=>by simp[At,A6,Bc];omega,Te _,ho,hs.tail.tail.cons ((LQ ha _).getD _),ha,hc⟩
    ·exact⟨rfl,rfl,rfl,fun e=>absurd e (by assumption),Te _,ho,hs.tail.tail,ha,hc⟩
   by_cases e17:op=17
   ·subst e17;simp only[if_pos,if_neg e16];cases q with
    |nil=>simp[At,A6] at hp
    |cons z p =>
     simp only;split
     ·rename_i hw;obtain⟨w1,w2,w3,w4⟩:=GS hw;refine⟨rfl,rfl,rfl,fun _=>by simp[At,A6,Bc];omega,by simp,by simpa using ho,by simpa using hs.tail.tail.tail,fun l hm=>?_,?_⟩
      ·simp only[List.length_set];rcases List.mem_or_eq_of_mem_set hm with hm|rfl
       ·exact ha l hm
       ·exact(LQ ha _).set _ hs.head
      ·show AL (arr.set z.n.toNat _)<=200;rw[Me _ _ _ (by simp)];exact hc
     ·exact⟨rfl,rfl,rfl,fun e=>absurd e (by assumption),Te _,ho,hs.tail.tail.tail,ha,hc⟩
   have hpp:At op a=2:=by
    unfold At A6;rw[if_neg h13,if_neg (by omega),if_pos (by omega)]
   have hqq:Bc op=1:=by
    unfold Bc;rw[if_neg (by omega),if_neg (by omega)]
   simp only[if_neg e16,if_neg e17];split
   ·exact⟨rfl,rfl,rfl,fun _=>by rw[hpp,hqq];simp;omega,Te _,ho,hs.tail.tail.cons (Qe _ _ _ _ _),ha,hc⟩
   ·exact⟨rfl,rfl,rfl,fun e=>absurd e (by assumption),Te _,ho,hs.tail.tail,ha,hc⟩
end Go.Proofs.YtkafkipjedpohaaGreatDoor
namespace Go.Proofs.YtkafkipjedpohaaGreatDoor
section
variable {m:Nat} {F:Nat->PF} {K:Nat->Nat->Bool} {H:Nat->Nat->Int}
theorem CS.goes{na:Nat}{f f':Fr}(hF:AP m F K H)(hf:CS m na F K H 0 f){t:Int}(ht:t∈Bj ((F f.fn).op f.pc) ((F f.fn).ar f.pc) f.pc){d:Int}
  (h1:f'.fn=f.fn) (h2:f'.pc=t.toNat) (h3:f'.loc.length=f.loc.length) (h4:(f'.stk.length:Int)+d=f.stk.length-At ((F f.fn).op f.pc) ((F f.fn).ar f.pc)+Bc ((F f.fn).op f.pc)) {na':Nat} (h5:By m na' f'.loc) (h6:By m na' f'.stk) (h7:0<=t) :
  CS m na' F K H d f':=by
 obtain⟨c1,c2,c3⟩:=(hF.fn f.fn hf.fn).closed.next f.pc hf.pc hf.known t ht;refine⟨by rw[h1];exact hf.fn,by rw[h1,h2];omega,by rw[h1,h2];exact c2,by rw[h1,h3];exact hf.locs,?_,h5,h6⟩;rw[h1,h2,c3,h4,<-hf.height];omega
theorem CS.low{na:Nat}{f:Fr}(hF:AP m F K H)(hf:CS m na F K H 0 f):At ((F f.fn).op f.pc) ((F f.fn).ar f.pc)<=f.stk.length:=by
 have:=(hF.fn f.fn hf.fn).closed.low f.pc hf.pc hf.known;have:=hf.height;omega
theorem CS.legal{na:Nat}{d:Int}{f:Fr}(hF:AP m F K H)(hf:CS m na F K H d f):Bz ((F f.fn).op f.pc) ((F f.fn).ar f.pc) (F f.fn).locals (F f.fn).cn m=true :=
 (hF.fn f.fn hf.fn).legal f.pc hf.pc
theorem OO(hF:AP m F K H){s:Mc}{f:Fr}{rest:List Fr}(hf:CS m s.arr.length F K H 0 f)(hr:∀ g,g∈rest->CS m s.arr.length F K H 1 g)(hh:s.high.length=rest.length+1)
  (ha:∀ l,l∈s.arr->By m s.arr.length l) (hc:AL s.arr<=200) (hop:(F f.fn).op f.pc=13) (_hs:s.fr=f::rest) (h0:(AJ F ((F f.fn).ar f.pc).toNat f rest s).fin=0) :
  BS m F K H (AJ F ((F f.fn).ar f.pc).toNat f rest s):=by
 have hl:=Fz (hf.legal hF) hop;have hp:=hf.low hF;rw[hop,show At 13 ((F f.fn).ar f.pc)=1+(F f.fn).ar f.pc by simp[At]] at hp;unfold AJ at h0 ⊢;cases hd:f.stk.drop ((F f.fn).ar f.pc).toNat with
 |nil =>
  have:=congrArg List.length hd;simp at this;omega
 |cons g r =>
  have hlen:=congrArg List.length hd;simp only[List.length_drop,Tn] at hlen;have hg:g∈f.stk:=List.mem_of_mem_drop (by rw[hd];exact Ti);have hrs:By m s.arr.length r:=fun v hv=>hf.stk v (List.mem_of_mem_drop (by rw[hd];exact Tf _ hv))
  rw[hd] at h0;simp only at h0 ⊢;by_cases h1:g.k≠3\/(F g.n.toNat).args≠(((F f.fn).ar f.pc).toNat:Int)
  ·rw[if_pos h1] at h0;simp at h0
  ·rw[if_neg h1] at h0 ⊢;by_cases h2:24<=rest.length+1
   ·rw[if_pos h2] at h0;simp at h0
   ·rw[if_neg h2];have hk:g.k=3:=by omega
    have hgv:=(hf.stk g hg).2.1 hk;have hfn:g.n.toNat<m:=by omega
    have hff:=hF.fn g.n.toNat hfn;refine⟨⟨_,_,rfl,⟨hfn,?_,hff.closed.first.1,?_,?_,?_,fun v hv=>by cases hv⟩,fun q hq=>?_,by simp;omega⟩,by simp[hh],ha,hc⟩
    ·have:=hff.cn;simp only;omega
    ·have:=hff.args;have:=hff.locals;simp only[List.length_append,List.length_reverse,List.length_take,List.length_replicate];omega
    ·simp only[List.length_nil];rw[hff.closed.first.2];simp
    ·intro v hv;rcases List.mem_append.1 hv with hv|hv
     ·exact hf.stk v (List.mem_of_mem_take (List.mem_reverse.1 hv))
     ·rw[(List.mem_replicate.1 hv).2];exact F5 _ _
    ·rcases List.mem_cons.1 hq with rfl|hq
     ·refine hf.goes hF (t:=(f.pc:Int)+1) ?_ ?_ ?_ ?_ ?_ ?_ ?_ ?_
      ·rw[hop];simp[Bj]
      ·rfl
      ·show f.pc+1=((f.pc:Int)+1).toNat;omega
      ·rfl
      ·rw[hop];simp only[At,Bc,if_true];simp;omega
      ·exact hf.loc
      ·exact hrs
      ·omega
     ·exact hr q hq
theorem EH(hF:AP m F K H){s:Mc}(hI:BS m F K H s)(h0:(AA F s).fin=0):BS m F K H (AA F s):=by
 obtain⟨⟨f,rest,hfr,hf,hr,hn⟩,hh,ha,hc⟩:=hI;have hlow:=hf.low hF;have hleg:=hf.legal hF;rw[hfr,Tn] at hh;unfold AA at h0 ⊢;rw[hfr] at h0 ⊢;simp only at h0 ⊢;by_cases e10:(F f.fn).op f.pc=10
 ·rw[if_pos e10];have hj:=DF hleg (Or.inl e10);refine⟨⟨_,_,rfl,?_,hr,hn⟩,by simpa using hh,ha,hc⟩;refine hf.goes hF (t:=(F f.fn).ar f.pc) ?_ ?_ ?_ ?_ ?_ ?_ ?_ ?_
  ·rw[e10];simp[Bj]
  ·rfl
  ·rfl
  ·rfl
  ·rw[e10];simp[At,A6,Bc]
  ·exact hf.loc
  ·exact hf.stk
  ·exact hj.1
 rw[if_neg e10] at h0 ⊢;by_cases e11:(F f.fn).op f.pc=11
 ·rw[if_pos e11] at h0 ⊢;have hj:=DF hleg (Or.inr e11);rw[e11,show At 11 ((F f.fn).ar f.pc)=1 by simp[At,A6]] at hlow;cases hst:f.stk with
  |nil=>rw[hst] at hlow;simp at hlow
  |cons v r =>
   have hsv:=hf.stk;rw[hst] at hsv;simp only;refine⟨⟨_,_,rfl,?_,hr,hn⟩,by simpa using hh,ha,hc⟩;by_cases hz:Ce v=true
   ·rw[if_pos hz];refine hf.goes hF (t:=(F f.fn).ar f.pc) ?_ ?_ ?_ ?_ ?_ ?_ ?_ ?_
    ·rw[e11];simp[Bj]
    ·rfl
    ·rfl
    ·rfl
    ·rw[e11,hst];simp[At,A6,Bc]
    ·exact hf.loc
    ·exact hsv.tail
    ·exact hj.1
   ·rw[if_neg hz];refine hf.goes hF (t:=(f.pc:Int)+1) ?_ ?_ ?_ ?_ ?_ ?_ ?_ ?_
    ·rw[e11];simp[Bj]
    ·rfl
    ·show f.pc+1=((f.pc:Int)+1).toNat;omega
    ·rfl
    ·rw[e11,hst];simp[At,A6,Bc]
    ·exact hf.loc
    ·exact hsv.tail
    ·omega
 rw[if_neg e11] at h0 ⊢;by_cases e13:(F f.fn).op f.pc=13
 ·rw[if_pos e13] at h0 ⊢;exact OO hF (s:={s with fr:=f::rest,steps:=s.steps+1,cH:=s.cH+(if s.high.headD false=true then 1 else 0)}) hf hr (by simpa using hh) ha hc e13 rfl (by simpa [hfr] using h0)
 rw[if_neg e13] at h0 ⊢;by_cases e14:(F f.fn).op f.pc=14
 ·rw[if_pos e14] at h0 ⊢;unfold AT at h0 ⊢;rw[e14,show At 14 ((F f.fn).ar f.pc)=1 by simp[At,A6]] at hlow;cases hst:f.stk with
  |nil=>rw[hst] at hlow;simp at hlow
  |cons v r =>
   have hsv:=hf.stk;rw[hst] at hsv h0;cases rest with
   |nil=>simp at h0
   |cons g q =>
    have hg:=hr g Ti;simp only;refine⟨⟨_,_,rfl,⟨hg.fn,hg.pc,hg.known,hg.locs,?_,hg.loc,hg.stk.cons hsv.head⟩,fun u hu=>hr u (Tf _ hu),by simp at hn;omega⟩,by simp at hh;simp[hh],ha,hc⟩;have:=hg.height;simp;omega
 rw[if_neg e14] at h0 ⊢;have hw:=E9 (out:=s.out) hleg e10 e11 e13 e14 hlow hf.loc hf.stk ha hc;simp only at h0;rw[if_pos h0];have haft:(f.pc:Int)+1∈Bj ((F f.fn).op f.pc) ((F f.fn).ar f.pc) f.pc:=by
  unfold Bj;rw[if_neg e14,if_neg e10,if_neg e11];simp
 refine⟨⟨_,_,rfl,?_,fun g hg=>(hr g hg).mono hw.more,hn⟩,by simpa using hh,hw.arrs,hw.cells⟩;refine hf.goes hF (t:=(f.pc:Int)+1) haft ?_ ?_ ?_ ?_ ?_ ?_ ?_
 ·exact hw.fn
 ·show f.pc+1=((f.pc:Int)+1).toNat;omega
 ·exact hw.locs
 ·have:=hw.height h0;show ((Ak _ _ f s.arr s.out).1.stk.length:Int)+0=_;rw[this];omega
 ·exact hw.loc
 ·exact hw.stk
 ·omega
end
end Go.Proofs.YtkafkipjedpohaaGreatDoor

import Derived.Test.YtkafkipjedpohaaGreatDoorPureC
namespace Go.Proofs.YtkafkipjedpohaaGreatDoor
theorem J8(l:List V)(arr:List (List V)):AL (l::arr)=(l.length:Int)+AL arr:=by unfold AL;rw[List.map_cons,List.sum_cons]
theorem KV:∀ arr:List (List V),0<=AL arr
 |[]=>by unfold AL;simp
 |l::arr=>by rw[J8];have:=KV arr;omega
theorem Mw{l:List V}:∀ {arr:List (List V)},l∈arr->(l.length:Int)<=AL arr
 |[],h=>by cases h
 |k::arr,h=>by
  rw[J8];have:=KV arr;rcases List.mem_cons.1 h with rfl|h
  ·omega
  ·have:=Mw h;omega
def O7(f:Fr)(arr:List (List V))(x:Fr × List (List V) × List V × Int):Prop:=x.2.2.2≠0->x.2.1=arr/\x.1.loc=f.loc/\x.1.stk.length<=f.stk.length
theorem PD(op a:Int)(f:Fr)(arr:List (List V))(out:List V):O7 f arr (Ak op a f arr out):=by
 unfold Ak;by_cases e:op=0
 ·rw[if_pos e];first|exact fun h=>absurd rfl h|exact fun _=>⟨rfl,rfl,by simp only[Tn];omega⟩|exact fun _=>⟨rfl,rfl,Te _⟩
 rw[if_neg e];clear e;by_cases e:op=1
 ·rw[if_pos e];first|exact fun h=>absurd rfl h|exact fun _=>⟨rfl,rfl,by simp only[Tn];omega⟩|exact fun _=>⟨rfl,rfl,Te _⟩
 rw[if_neg e];clear e;by_cases e:op=12
 ·rw[if_pos e];first|exact fun h=>absurd rfl h|exact fun _=>⟨rfl,rfl,by simp only[Tn];omega⟩|exact fun _=>⟨rfl,rfl,Te _⟩
 rw[if_neg e];clear e;by_cases e:op=2
 ·rw[if_pos e];first|exact fun h=>absurd rfl h|exact fun _=>⟨rfl,rfl,by simp only[Tn];omega⟩|exact fun _=>⟨rfl,rfl,Te _⟩
 rw[if_neg e];clear e;cases f with
 |mk fn pc loc stk =>
 cases stk with
 |nil=>first|exact fun h=>absurd rfl h|exact fun _=>⟨rfl,rfl,by simp only[Tn];omega⟩|exact fun _=>⟨rfl,rfl,Te _⟩
 |cons x r =>
 dsimp only;by_cases e:op=3
 ·rw[if_pos e];first|exact fun h=>absurd rfl h|exact fun _=>⟨rfl,rfl,by simp only[Tn];omega⟩|exact fun _=>⟨rfl,rfl,Te _⟩
 rw[if_neg e];clear e;by_cases e:op=19
 ·rw[if_pos e];first|exact fun h=>absurd rfl h|exact fun _=>⟨rfl,rfl,by simp only[Tn];omega⟩|exact fun _=>⟨rfl,rfl,Te _⟩
 rw[if_neg e];clear e;by_cases e:op=20
 ·rw[if_pos e];first|exact fun h=>absurd rfl h|exact fun _=>⟨rfl,rfl,by simp only[Tn];omega⟩|exact fun _=>⟨rfl,rfl,Te _⟩
 rw[if_neg e];clear e;by_cases e:op=21
 ·rw[if_pos e];first|exact fun h=>absurd rfl h|exact fun _=>⟨rfl,rfl,by simp only[Tn];omega⟩|exact fun _=>⟨rfl,rfl,Te _⟩
 rw[if_neg e];clear e;by_cases e:op=15
 ·rw[if_pos e];by_cases e:x.k≠1
  ·rw[if_pos e];first|exact fun h=>absurd rfl h|exact fun _=>⟨rfl,rfl,by simp only[Tn];omega⟩|exact fun _=>⟨rfl,rfl,Te _⟩
  rw[if_neg e];clear e;by_cases e:x.n<0
  ·rw[if_pos e];first|exact fun h=>absurd rfl h|exact fun _=>⟨rfl,rfl,by simp only[Tn];omega⟩|exact fun _=>⟨rfl,rfl,Te _⟩
  rw[if_neg e];clear e;by_cases e:200-AL arr<x.n
  ·rw[if_pos e];first|exact fun h=>absurd rfl h|exact fun _=>⟨rfl,rfl,by simp only[Tn];omega⟩|exact fun _=>⟨rfl,rfl,Te _⟩
  rw[if_neg e];first|exact fun h=>absurd rfl h|exact fun _=>⟨rfl,rfl,by simp only[Tn];omega⟩|exact fun _=>⟨rfl,rfl,Te _⟩
 rw[if_neg e];clear e;by_cases e:op=18
 ·rw[if_pos e];by_cases e:x.k≠2
  ·rw[if_pos e];first|exact fun h=>absurd rfl h|exact fun _=>⟨rfl,rfl,by simp only[Tn];omega⟩|exact fun _=>⟨rfl,rfl,Te _⟩
  rw[if_neg e];first|exact fun h=>absurd rfl h|exact fun _=>⟨rfl,rfl,by simp only[Tn];omega⟩|exact fun _=>⟨rfl,rfl,Te _⟩
 rw[if_neg e];clear e;cases r with
 |nil=>first|exact fun h=>absurd rfl h|exact fun _=>⟨rfl,rfl,by simp only[Tn];omega⟩|exact fun _=>⟨rfl,rfl,Te _⟩
 |cons y q =>
 dsimp only;by_cases e:op=16
 ·rw[if_pos e];by_cases e:AS arr y x=0
  ·rw[if_pos e];first|exact fun h=>absurd rfl h|exact fun _=>⟨rfl,rfl,by simp only[Tn];omega⟩|exact fun _=>⟨rfl,rfl,Te _⟩
  rw[if_neg e];first|exact fun h=>absurd rfl h|exact fun _=>⟨rfl,rfl,by simp only[Tn];omega⟩|exact fun _=>⟨rfl,rfl,Te _⟩
 rw[if_neg e];clear e;by_cases e:op=17
 ·rw[if_pos e];cases q with
  |nil=>first|exact fun h=>absurd rfl h|exact fun _=>⟨rfl,rfl,by simp only[Tn];omega⟩|exact fun _=>⟨rfl,rfl,Te _⟩
  |cons z p =>
  dsimp only;by_cases e:AS arr z y=0
  ·rw[if_pos e];first|exact fun h=>absurd rfl h|exact fun _=>⟨rfl,rfl,by simp only[Tn];omega⟩|exact fun _=>⟨rfl,rfl,Te _⟩
  rw[if_neg e];first|exact fun h=>absurd rfl h|exact fun _=>⟨rfl,rfl,by simp only[Tn];omega⟩|exact fun _=>⟨rfl,rfl,Te _⟩
 rw[if_neg e];clear e;by_cases e:(AE op y x).2=0
 ·rw[if_pos e];first|exact fun h=>absurd rfl h|exact fun _=>⟨rfl,rfl,by simp only[Tn];omega⟩|exact fun _=>⟨rfl,rfl,Te _⟩
 rw[if_neg e];first|exact fun h=>absurd rfl h|exact fun _=>⟨rfl,rfl,by simp only[Tn];omega⟩|exact fun _=>⟨rfl,rfl,Te _⟩
structure ER (s:Mc):Prop where
 fr:s.fr.length<=24
 ls:∀ g,g∈s.fr->g.loc.length<=8/\g.stk.length<=16
 al:∀ l,l∈s.arr->l.length<=200
variable {m:Nat} {F:Nat->PF} {K:Nat->Nat->Bool} {H:Nat->Nat->Int}
theorem CS.sizes{na:Nat}{d:Int}{f:Fr}(hF:AP m F K H)(h:CS m na F K H d f)(hd:0<=d)(h16:H f.fn f.pc<=16):f.loc.length<=8/\f.stk.length<=16:=by
 have h1:=(hF.fn f.fn h.fn).locals;have h2:=h.locs;have h3:=h.height;omega
theorem BS.szs{s:Mc}(hF:AP m F K H)(h:BS m F K H s)(h16:Cw H s):ER s:=by
 obtain⟨f,rest,hs,hf,hr,h24⟩:=h.top;refine⟨by rw[hs];exact h24,fun g hg=>?_,fun l hl=>?_⟩
 ·have hg16:=h16 g hg;rw[hs] at hg;rcases List.mem_cons.1 hg with rfl|hg
  ·exact hf.sizes hF (by omega) hg16
  ·exact(hr g hg).sizes hF (by omega) hg16
 ·have:=Mw hl;have:=h.cells;omega
theorem ER.top{s:Mc}(h:ER s){f f':Fr}{rest:List Fr}(hs:s.fr=f::rest)(h1:f'.loc=f.loc)(h2:f'.stk.length<=f.stk.length):∀ {s':Mc},s'.fr=f'::rest->s'.arr=s.arr->ER s':=by
 intro s' e1 e2;refine⟨?_,fun g hg=>?_,fun l hl=>h.al l (by rw[<-e2];exact hl)⟩
 ·have:=h.fr;rw[hs] at this;rw[e1];exact this
 ·rw[e1] at hg;rcases List.mem_cons.1 hg with rfl|hg
  ·have:=h.ls f (by rw[hs];exact Ti);rw[h1];omega
  ·exact h.ls g (by rw[hs];exact Tf _ hg)
theorem Nd{s:Mc}(hz:s.fin=0)(h:ER s)(hne:s.fr≠[])(h1:(AA F s).fin≠0):ER (AA F s):=by
 obtain⟨f,rest,hs⟩:∃ f rest,s.fr=f::rest:=by
  cases e:s.fr with
  |nil=>exact absurd e hne
  |cons f rest=>exact⟨f,rest,rfl⟩
 rw[Dw hs] at h1 ⊢;by_cases e10:(F f.fn).op f.pc=10
 ·rw[FG e10] at h1;exact absurd hz h1
 by_cases e11:(F f.fn).op f.pc=11
 ·cases hst:f.stk with
  |nil =>
   unfold CG at h1;dsimp only at h1;rw[if_neg e10,if_pos e11,hst] at h1;exact absurd hz h1
  |cons v r =>
   rw[Fq e11 hst] at h1;exact absurd hz h1
 by_cases e13:(F f.fn).op f.pc=13
 ·rw[Fy e13] at h1 ⊢;unfold AJ at h1 ⊢;have hd:∀ A,(f.stk.drop A).length<=f.stk.length:=fun A=>by rw[List.length_drop];omega
  split
  ·exact absurd hz (by rename_i e;rw[e] at h1;exact h1)
  ·rename_i g r e;rw[e] at h1;have hr:r.length<=f.stk.length:=by have:=hd ((F f.fn).ar f.pc).toNat;rw[e] at this;simp at this;omega
   dsimp only at h1;split
   ·exact h.top (f':={f with stk:=r}) hs rfl hr rfl rfl
   ·rename_i e1;rw[if_neg e1] at h1;split
    ·exact h.top (f':={f with stk:=r}) hs rfl hr rfl rfl
    ·rename_i e2;rw[if_neg e2] at h1;exact absurd hz h1
 by_cases e14:(F f.fn).op f.pc=14
 ·rw[Fu e14] at h1 ⊢;unfold AT at h1 ⊢;split
  ·rename_i e;rw[e] at h1;exact absurd hz h1
  ·rename_i v r e;rw[e] at h1;split
   ·exact⟨by simp,fun g hg=>(by cases hg),h.al⟩
   ·dsimp only at h1;exact absurd hz h1
 ·rw[FA e10 e11 e13 e14] at h1 ⊢;obtain⟨t1,t2,t3⟩:=PD _ _ _ _ _ h1;refine h.top hs (f':=_) ?_ ?_ rfl t1
  ·rw[if_neg h1];exact t2
  ·rw[if_neg h1];exact t3
theorem EX(hF:AP m F K H):∀ j,ER (AY F (AC F) j)/\(AY F (AC F) j).arr.length<=j/\(AY F (AC F) j).out.length<=j:=by
 have R:=SC hF;intro j;induction j with
 |zero =>
  obtain⟨h1,h2,_⟩:=R.go 0 R.first;exact⟨h1.szs hF h2,Te _,Te _⟩
 |succ j ih =>
  by_cases hz:(AY F (AC F) j).fin=0
  ·obtain⟨h1,h2,h3,h4,h5,h6⟩:=R.go j hz;obtain⟨f,rest,hs,_⟩:=h1.top;have Av:=Jk (F:=F) hs;rw[h6];refine⟨?_,by omega,by omega⟩;by_cases hy:(AA F (AY F (AC F) j)).fin=0
   ·obtain⟨k1,k2,_⟩:=R.go (j+1) (by rw[h6];exact hy);rw[h6] at k1 k2;exact k1.szs hF k2
   ·exact Nd hz (h1.szs hF h2) (by rw[hs];simp) hy
  ·rw[R.stay j (j+1) hz (by omega)];exact⟨ih.1,by omega,by omega⟩
theorem Mh{m:Nat}{F:Nat->PF}(h:(AW m F).1=0):∃ K H,AP m F K H:=by
 unfold AW at h;by_cases h1:m<1\/8<m
 ·rw[if_pos h1] at h;simp at h
 ·rw[if_neg h1] at h;rcases FR (B8 m F) m with⟨h2,h3,h4⟩|⟨h2,h3⟩
  ·rw[if_pos h2] at h;have h5:∀ k,B8 m F k=true->(BW m k (F k)).1≠0:=fun k hk=>by
    unfold B8 at hk;simpa using hk
   exact absurd h (h5 _ h3)
  ·have hf:∀ k,k<m->∃ K H,Iw m k (F k) K H:=fun k hk=>Qu (by
    have:=h3 k hk;unfold B8 at this;simpa using this)
   refine⟨fun k=>if hk:k<m then (hf k hk).choose else fun _=>false,fun k=>if hk:k<m then (hf k hk).choose_spec.choose else fun _=>0,⟨by omega,fun k hk=>?_⟩⟩;rw[dif_pos hk,dif_pos hk];exact(hf k hk).choose_spec.choose_spec
end Go.Proofs.YtkafkipjedpohaaGreatDoor
namespace Go.Proofs.YtkafkipjedpohaaGreatDoor
inductive An where
 |pop:An
 |con:V->An
 |loc:Nat->An
def An.val(l:List V):An->V
 |.pop=>As
 |.con v=>v
 |.loc i=>l.getD i As
def An.get(l:List V)(st:List V):An->V × List V
 |.pop=>(st.headD As,st.tail)
 |.con v=>(v,st)
 |.loc i=>(l.getD i As,st)
def Aq(l:List V):List An->List V->List V × List V
 |[],st=>([],st)
 |o::os,st=>((o.get l st).1::(Aq l os (o.get l st).2).1,(Aq l os (o.get l st).2).2)
def Du(n:Nat):An->Prop
 |.pop=>False
 |.con _=>True
 |.loc i=>i<n
def DA(n:Nat)(st:List V):An->Prop
 |.pop=>st≠[]
 |.con _=>True
 |.loc i=>i<n
def Dh(l:List V):List An->List V->Prop
 |[],_=>True
 |o::os,st=>DA l.length st o/\Dh l os (o.get l st).2
theorem Du.get{l st:List V}{o:An}(h:Du l.length o):o.get l st=(o.val l,st)/\DA l.length st o:=by
 cases o with
 |pop=>exact h.elim
 |con v=>exact⟨rfl,trivial⟩
 |loc i=>exact⟨rfl,h⟩
theorem J9{l:List V}:∀ (os:List An) (st:List V),(∀ o,o∈os->Du l.length o)->Aq l os st=(os.map (An.val l),st)/\Dh l os st
 |[],st,_=>⟨rfl,trivial⟩
 |o::os,st,h=>by
  obtain⟨h1,h2⟩:=(h o Ti).get (st:=st);obtain⟨h3,h4⟩:=J9 os st (fun o ho=>h o (Tf _ ho));refine⟨?_,h2,by rw[h1];exact h4⟩;simp only[Aq,h1,h3,List.map_cons]
theorem Ko{l:List V}:∀ (n:Nat) (st:List V),n<=st.length->Aq l (List.replicate n .pop) st=(st.take n,st.drop n)/\Dh l (List.replicate n .pop) st
 |0,st,_=>⟨rfl,trivial⟩
 |n+1,st,h=>by
  cases st with
  |nil=>simp at h
  |cons v r =>
   obtain⟨h3,h4⟩:=Ko (l:=l) n r (by simpa using h);refine⟨?_,by simp[DA],h4⟩;show (v::(Aq l (List.replicate n .pop) r).1,(Aq l (List.replicate n .pop) r).2)=_;rw[h3];rfl
theorem MJ{l:List V}:∀ (os qs:List An) (st:List V),Aq l (os++qs) st=((Aq l os st).1++(Aq l qs (Aq l os st).2).1,(Aq l qs (Aq l os st).2).2)
 |[],qs,st=>rfl
 |o::os,qs,st=>by
  show ((o.get l st).1::(Aq l (os++qs) (o.get l st).2).1,(Aq l (os++qs) (o.get l st).2).2)=_;rw[MJ os qs];rfl
theorem Kw{l:List V}:∀ (os qs:List An) (st:List V),Dh l os st->Dh l qs (Aq l os st).2->Dh l (os++qs) st
 |[],_,_,_,h=>h
 |_::os,qs,_,h,h2=>⟨h.1,Kw os qs _ h.2 h2⟩
def AI(n:Nat)(ws:List An):List An:=ws.take n++List.replicate (n-ws.length) .pop
theorem JS{l:List V}{ws:List An}(hw:∀ o,o∈ws->Du l.length o)(n:Nat)(st:List V)(hn:n<=ws.length+st.length) :
  let r:=Aq l (AI n ws) ((ws.drop n).map (An.val l)++st)
  Dh l (AI n ws) ((ws.drop n).map (An.val l)++st)/\r.1++r.2=ws.map (An.val l)++st/\r.1.length=n:=by
 intro r;have ht:∀ o,o∈ws.take n->Du l.length o:=fun o ho=>hw o (List.mem_of_mem_take ho)
 obtain⟨g1,g2⟩:=J9 (ws.take n) ((ws.drop n).map (An.val l)++st) ht;by_cases h:n<=ws.length
 ·have e:AI n ws=ws.take n:=by unfold AI;rw[show n-ws.length=0 by omega];simp
  have hr:r=((ws.take n).map (An.val l),(ws.drop n).map (An.val l)++st):=by show Aq _ _ _=_;rw[e,g1]
  refine⟨by rw[e];exact g2,?_,by rw[hr];simp;omega⟩;rw[hr];show (ws.take n).map (An.val l)++((ws.drop n).map (An.val l)++st)=_;rw[<-List.append_assoc,<-List.map_append,List.take_append_drop]
 ·have e1:ws.drop n=[]:=List.drop_of_length_le (by omega);have e2:ws.take n=ws:=List.take_of_length_le (by omega);have e:AI n ws=ws++List.replicate (n-ws.length) .pop:=by unfold AI;rw[e2]
  rw[e2,e1] at g1 g2;simp only[List.map_nil,List.nil_append] at g1 g2;obtain⟨p1,p2⟩:=Ko (l:=l) (n-ws.length) st (by omega);have hr:r=(ws.map (An.val l)++st.take (n-ws.length),st.drop (n-ws.length)):=by
   show Aq _ _ _=_;rw[e,e1,MJ];simp only[List.map_nil,List.nil_append,g1,p1]
  refine⟨?_,?_,?_⟩
  ·rw[e,e1];simp only[List.map_nil,List.nil_append];exact Kw _ _ _ g2 (by rw[g1];exact p2)
  ·rw[hr];simp
  ·rw[hr];simp;omega
inductive BF where
 |settle (ws:List An)
 |pass (n:Nat)
 |ins (op a:Int) (os:List An)
 |jump (a:Nat)
 |branch (o:An) (a:Nat)
 |call (a:Nat)
 |ret (o:An)
 |one
def Mc.f(s:Mc):Fr:=s.fr.headD ⟨0,0,[],[]⟩
def Mc.r(s:Mc):List Fr:=s.fr.tail
def AR(F:Nat->PF)(d:BF)(s:Mc):Mc :=
 match d with
 |.settle ws=>{s with fr:={s.f with stk:=(ws.map (An.val s.f.loc)).reverse++s.f.stk}::s.r}
 |.pass n=>{s with steps:=s.steps+n,cH:=s.cH+n,fr:={s.f with pc:=s.f.pc+n}::s.r}
 |.ins op a os =>
  let x:=Ak op a {s.f with stk:=(Aq s.f.loc os s.f.stk).1++(Aq s.f.loc os s.f.stk).2} s.arr s.out
  {s with fr:=x.1::s.r,arr:=x.2.1,out:=x.2.2.1,fin:=x.2.2.2}
 |.jump a=>{s with fr:={s.f with pc:=a}::s.r}
 |.branch o a=>{s with fr:={s.f with stk:=(o.get s.f.loc s.f.stk).2,pc:=if Ce (o.get s.f.loc s.f.stk).1=true then a else s.f.pc+1}::s.r}
 |.call a=>AJ F a s.f s.r s
 |.ret o=>AT {s.f with stk:=(o.get s.f.loc s.f.stk).1::(o.get s.f.loc s.f.stk).2} s.r s
 |.one=>{s with steps:=s.steps+1,cH:=s.cH+1}
def AD(F:Nat->PF):List BF->Mc->Mc
 |[],s=>s
 |d::ds,s=>if 3<=(AR F d s).fin then AR F d s else AD F ds (AR F d s)
theorem CO{F:Nat->PF}(d:BF)(ds:List BF)(s:Mc):AD F (d::ds) s=if 3<=(AR F d s).fin then AR F d s else AD F ds (AR F d s):=rfl
theorem F2{F:Nat->PF}:∀ (ds es:List BF) (s:Mc),(AD F ds s).fin<3->AD F (ds++es) s=AD F es (AD F ds s)
 |[],_,_,_=>rfl
 |d::ds,es,s,h=>by
  rw[List.cons_append,CO,CO];rw[CO] at h;by_cases h3:3<=(AR F d s).fin
  ·rw[if_pos h3] at h;omega
  ·rw[if_neg h3] at h;rw[if_neg h3,if_neg h3];exact F2 ds es _ h
theorem LX{F:Nat->PF}:∀ (ds es:List BF) (s:Mc),3<=(AD F ds s).fin->s.fin<3->AD F (ds++es) s=AD F ds s
 |[],_,s,h,h0=>by have:3<=s.fin:=h;omega
 |d::ds,es,s,h,h0=>by
  rw[List.cons_append,CO,CO];rw[CO] at h;by_cases h3:3<=(AR F d s).fin
  ·rw[if_pos h3,if_pos h3]
  ·rw[if_neg h3] at h;rw[if_neg h3,if_neg h3];exact LX ds es _ h (by omega)
structure Mk where
 ds:List BF
 ws:List An
 seen:Nat
 passed:Nat
def Mk.then_(k:Mk)(d:BF):Mk:={k with ds:=k.ds++[d]}
def Mk.wait(k:Mk)(o:An):Mk:={k with ws:=o::k.ws}
def Mk.pops(k:Mk)(n:Nat):Mk:={k with ws:=k.ws.drop n}
def Mk.settle(k:Mk):Mk:=if k.ws=[] then k else {k with ws:=[],ds:=k.ds++[.settle k.ws.reverse]}
def Mk.level(k:Mk):Mk:=if k.seen-k.passed=0 then k.settle else {k.settle with passed:=k.seen,ds:=k.settle.ds++[.pass (k.seen-k.passed)]}
def BK(op:Int):Nat:=if op=3\/op=19\/op=15\/op=18 then 1 else if op=17 then 3 else 2
def Mk.str(op a:Int)(k:Mk):Mk :=
 if op=0 then k.wait (.con (Bn a))
 else if op=1 then k.wait (.con As)
 else if op=12 then k.wait (.con ⟨3,a⟩)
 else if op=2 then k.wait (.loc a.toNat)
 else if op=19 then (k.pops 1).then_ (.ins op a (AI 1 k.ws))
 else if op=20 then match k.ws with
  |[]=>k.then_ (.ins op a [.pop])
  |_::r=>{k with ws:=r}
 else if op=21 then match k.ws with
  |[]=>k.then_ (.ins op a [])
  |o::r=>{k with ws:=o::o::r}
 else if op=3\/op=9 then (k.pops (BK op)).settle.then_ (.ins op a (AI (BK op) k.ws))
 else (k.pops (BK op)).level.then_ (.ins op a (AI (BK op) k.ws))
def Mk.straight(op a:Int)(k:Mk):Mk:={k.str op a with seen:=(k.str op a).seen+1}
def Mk.trn(op a:Int)(k:Mk):Mk :=
 if op=10 then k.level.then_ (.jump a.toNat)
 else if op=11 then (k.pops 1).level.then_ (.branch ((AI 1 k.ws).headD .pop) a.toNat)
 else if op=13 then k.level.then_ (.call a.toNat)
 else (k.pops 1).level.then_ (.ret ((AI 1 k.ws).headD .pop))
def Mk.turn(op a:Int)(k:Mk):Mk:={(k.trn op a).then_ .one with seen:=(k.trn op a).seen+1}
def Dv(op:Int):Bool:=decide (op=10\/op=11\/op=13\/op=14)
def CZ(f:PF):Nat->Nat->Mk->Mk
 |0,_,k=>k
 |n+1,p,k=>if Dv (f.op p)=true then k.turn (f.op p) (f.ar p) else CZ f n (p+1) (k.straight (f.op p) (f.ar p))
def BQ(f:PF)(p:Nat):Mk:=CZ f (f.cn-p) p ⟨[],[],0,0⟩
inductive Ew (F:Nat->PF):Nat->Mc->Mc->Prop
 |none (s:Mc):Ew F 0 s s
 |more {n:Nat} {s t:Mc}:s.fin=0->Ew F n (AA F s) t->Ew F (n+1) s t
structure Cr (m k0:Nat) (s:Mc):Prop where
 fr:s.fr=s.f::s.r
 len:s.r.length=k0
 high:s.high.headD false=true
 hl:s.high.length=k0+1
 steps:s.steps<=100000
 cH:s.cH<=100000
 out:s.out.length<=100000
 arr:s.arr.length<=100000
 cells:AL s.arr<=200
 pc:s.f.pc<=64
 stk:s.f.stk.length<=16
 rest:∀ g,g∈s.r->g.stk.length<=16
 k0:k0<=23
 fin:s.fin=0
 sok:By m s.arr.length s.f.stk
 lok:By m s.arr.length s.f.loc
def GB(m k0:Nat)(d:BF)(s:Mc):Prop :=
 match d with
 |.settle ws=>Cr m k0 s/\(∀ o,o∈ws->Du s.f.loc.length o)/\ws.length<=16
 |.pass n=>Cr m k0 s/\n<=64
 |.ins op a os=>Cr m k0 s/\Dh s.f.loc os s.f.stk/\(Aq s.f.loc os s.f.stk).1.length=os.length/\By m s.arr.length ((Aq s.f.loc os s.f.stk).1++(Aq s.f.loc os s.f.stk).2)/\((Aq s.f.loc os s.f.stk).1++(Aq s.f.loc os s.f.stk).2).length<=16 /\
   At op a<=((Aq s.f.loc os s.f.stk).1++(Aq s.f.loc os s.f.stk).2).length/\(op=3->0<=a/\a<s.f.loc.length)
 |.jump _=>Cr m k0 s
 |.branch o _=>Cr m k0 s/\DA s.f.loc.length s.f.stk o/\((o.get s.f.loc s.f.stk).1.k=0->(o.get s.f.loc s.f.stk).1.n=0)
 |.call a=>Cr m k0 s/\a<=8/\a+1<=s.f.stk.length
 |.ret o=>Cr m k0 s/\DA s.f.loc.length s.f.stk o
 |.one=>s.steps<=100000/\s.cH<=100000
def Cy(F:Nat->PF)(m k0:Nat):List BF->Mc->Prop
 |[],_=>True
 |d::ds,s=>GB m k0 d s/\((AR F d s).fin<3->Cy F m k0 ds (AR F d s))
variable {m:Nat} {F:Nat->PF} {K:Nat->Nat->Bool} {H:Nat->Nat->Int}
structure CM (m:Nat) (F:Nat->PF) (K:Nat->Nat->Bool) (H:Nat->Nat->Int) (k0:Nat) (l:Mc):Prop where
 inv:BS m F K H l
 low:Cw H l
 fin:l.fin=0
 steps:l.steps<=100000
 cH:l.cH<=100000
 out:l.out.length<=100000
 arr:l.arr.length<=100000
 high:l.high.headD false=true
 len:l.r.length=k0
theorem CM.fr{k0:Nat}{l:Mc}(h:CM m F K H k0 l):l.fr=l.f::l.r:=by
 obtain⟨f,rest,e,_⟩:=h.inv.top;unfold Mc.f Mc.r;rw[e];rfl
theorem CM.top{k0:Nat}{l:Mc}(h:CM m F K H k0 l):CS m l.arr.length F K H 0 l.f/\(∀ g,g∈l.r->CS m l.arr.length F K H 1 g)/\l.r.length+1<=24:=by
 obtain⟨f,rest,e,h1,h2,h3⟩:=h.inv.top;have e1:l.f=f:=by unfold Mc.f;rw[e];rfl
 have e2:l.r=rest:=by unfold Mc.r;rw[e];rfl
 rw[e1,e2];exact⟨h1,h2,h3⟩
structure C8 (l h:Mc) (k:Mk):Prop where
 eq:l={h with fr:={h.f with pc:=h.f.pc+(k.seen-k.passed),stk:=k.ws.map (An.val h.f.loc)++h.f.stk}::h.r,steps:=h.steps+(k.seen-k.passed),cH:=h.cH+(k.seen-k.passed)}
 fr:h.fr=h.f::h.r
 ws:∀ o,o∈k.ws->Du h.f.loc.length o
 le:k.passed<=k.seen
 fin:h.fin=0
theorem Ir{k0:Nat}{l:Mc}(hF:AP m F K H)(hl:CM m F K H k0 l)(s:Mc)(f':Fr)(st ch:Nat)(hs:s={l with fr:=f'::l.r,steps:=st,cH:=ch})(h1:f'.loc=l.f.loc)(h2:f'.stk <:+ l.f.stk)(h3:f'.pc<=l.f.pc)(h4:st<=l.steps)(h5:ch<=l.cH):Cr m k0 s:=by
 subst hs;obtain⟨t1,t2,t3⟩:=hl.top;have hh:=hl.inv.highs;rw[hl.fr] at hh;have Av:=t1.sizes hF (by omega) (hl.low l.f (by rw[hl.fr];exact Ti));have hpc:=t1.pc;have hcn:=(hF.fn _ t1.fn).cn;refine⟨rfl,hl.len,hl.high,by have:=hl.len;simp at hh;show l.high.length=_;omega,by show st<=_;have:=hl.steps;omega,by show ch<=_;have:=hl.cH;omega,hl.out,hl.arr,hl.inv.cells,by show f'.pc<=_;omega,by show f'.stk.length<=_;have:=h2.length_le;omega,fun g hg=>?_,by have:=hl.len;omega,hl.fin,fun v hv=>t1.stk v (h2.mem hv),fun v hv=>t1.loc v (by rw[<-h1];exact hv)⟩;have hg':g∈l.r:=hg;exact((t2 g hg').sizes hF (by omega) (hl.low g (by rw[hl.fr];exact Tf _ hg'))).2
theorem Lv{k0:Nat}{h:Mc}(k:Mk)(hb:Cr m k0 h)(hw:∀ o,o∈k.ws->Du h.f.loc.length o)(hl:k.ws.length<=16) :
  ∃ new,k.settle.ds=k.ds++new/\k.settle.ws=[]/\k.settle.seen=k.seen/\k.settle.passed=k.passed/\Cy F m k0 new h/\AD F new h={h with fr:={h.f with stk:=k.ws.map (An.val h.f.loc)++h.f.stk}::h.r}:=by
 unfold Mk.settle;by_cases e:k.ws=[]
 ·rw[if_pos e];refine⟨[],by simp,e,rfl,rfl,trivial,?_⟩;rw[e];show h=_;have:=hb.fr;obtain⟨fr,arr,out,gives,steps,fin,high,made,cH,cU,cD⟩:=h;simp only[Mc.f,Mc.r] at this;simp only[Mc.f,Mc.r,List.map_nil,List.nil_append];rw[<-this]
 ·rw[if_neg e];refine⟨[.settle k.ws.reverse],rfl,rfl,rfl,rfl,⟨⟨hb,fun o ho=>hw o (by simpa using ho),by simpa using hl⟩,fun _=>trivial⟩,?_⟩;have h0:(AR F (.settle k.ws.reverse) h).fin=0:=hb.fin;rw[CO,if_neg (by omega)];show AR F (.settle k.ws.reverse) h=_;simp only[AR,List.map_reverse,List.reverse_reverse]
theorem Cr.stk'{k0:Nat}{h:Mc}(hb:Cr m k0 h)(st:List V)(h1:st.length<=16)(h2:By m h.arr.length st):Cr m k0 {h with fr:={h.f with stk:=st}::h.r} :=
 ⟨rfl,hb.len,hb.high,hb.hl,hb.steps,hb.cH,hb.out,hb.arr,hb.cells,hb.pc,h1,hb.rest,hb.k0,hb.fin,h2,hb.lok⟩
theorem Ld{k0:Nat}{h:Mc}(k:Mk)(hb:Cr m k0 h)(hw:∀ o,o∈k.ws->Du h.f.loc.length o)(hl:(k.ws.map (An.val h.f.loc)++h.f.stk).length<=16)(ho:By m h.arr.length (k.ws.map (An.val h.f.loc)++h.f.stk))(hle:k.passed<=k.seen)(hpc:h.f.pc+(k.seen-k.passed)<=64) :
  ∃ new,k.level.ds=k.ds++new/\k.level.ws=[]/\k.level.seen=k.seen/\k.level.passed=k.seen/\Cy F m k0 new h/\AD F new h={h with fr:={h.f with pc:=h.f.pc+(k.seen-k.passed),stk:=k.ws.map (An.val h.f.loc)++h.f.stk}::h.r,steps:=h.steps+(k.seen-k.passed),cH:=h.cH+(k.seen-k.passed)}:=by
 obtain⟨new,n1,n2,n3,n4,n5,n6⟩:=Lv (F:=F) k hb hw (by simp at hl;omega);unfold Mk.level;by_cases e:k.seen-k.passed=0
 ·rw[if_pos e];refine⟨new,n1,n2,n3,by rw[n4];omega,n5,?_⟩;rw[n6,e];rfl
 ·rw[if_neg e];have hf2:(AD F new h).fin<3:=by rw[n6];show h.fin<3;rw[hb.fin];decide
  refine⟨new++[.pass (k.seen-k.passed)],by show k.settle.ds++_=_;rw[n1];simp,n2,n3,rfl,?_,?_⟩
  ·have hp:Cy F m k0 [.pass (k.seen-k.passed)] (AD F new h):=by
    refine⟨⟨?_,by omega⟩,fun _=>trivial⟩;rw[n6];exact hb.stk' _ hl ho
   clear n1 n6;revert n5 hf2 hp;have hgen:∀ (ds es:List BF) (s:Mc),Cy F m k0 ds s->(AD F ds s).fin<3->Cy F m k0 es (AD F ds s)->Cy F m k0 (ds++es) s:=by
    intro ds;induction ds with
    |nil=>intro es s _ _ h;exact h
    |cons d ds ih =>
     intro es s h1 h2 h3;refine⟨h1.1,fun h4=>?_⟩;rw[CO,if_neg (by omega)] at h2 h3;exact ih es _ (h1.2 h4) h2 h3
   exact fun h1 h2 h3=>hgen _ _ _ h1 h2 h3
  ·rw[F2 _ _ _ hf2,n6,CO];rw[if_neg (by show ¬3<=h.fin;rw[hb.fin];decide)];rfl
theorem GJ{k0:Nat}:∀ (ds es:List BF) (s:Mc),Cy F m k0 ds s->((AD F ds s).fin<3->Cy F m k0 es (AD F ds s))->s.fin<3->Cy F m k0 (ds++es) s:=by
 intro ds;induction ds with
 |nil=>intro es s _ h h0;exact h h0
 |cons d ds ih =>
  intro es s h1 h3 _;refine⟨h1.1,fun h4=>?_⟩;rw[CO,if_neg (by omega)] at h3;exact ih es _ (h1.2 h4) h3 h4
def Ga(F:Nat->PF)(m k0:Nat)(l h:Mc)(k k':Mk)(l':Mc):Prop :=
 ∃ new,k'.ds=k.ds++new/\Cy F m k0 new h/\((l'.fin=0/\(AD F new h).fin=0/\C8 l' (AD F new h) k')\/(3<=l'.fin/\AD F new h={l' with steps:=l.steps,cH:=l.cH}))
theorem Ih{k0:Nat}{l:Mc}(hl:CM m F K H k0 l){op a:Int}(hop:(F l.f.fn).op l.f.pc=op)(har:(F l.f.fn).ar l.f.pc=a)(h10:op≠10)(h11:op≠11)(h13:op≠13)(h14:op≠14) :
  AA F l={l with steps:=l.steps+1,cH:=l.cH+1,fr:=(if (Ak op a l.f l.arr l.out).2.2.2=0 then {(Ak op a l.f l.arr l.out).1 with pc:=l.f.pc+1} else (Ak op a l.f l.arr l.out).1)::l.r,arr:=(Ak op a l.f l.arr l.out).2.1,out:=(Ak op a l.f l.arr l.out).2.2.1,fin:=(Ak op a l.f l.arr l.out).2.2.2}:=by
 subst hop har;rw[Dw hl.fr,FA h10 h11 h13 h14,if_pos hl.high]
end Go.Proofs.YtkafkipjedpohaaGreatDoor
namespace Go.Proofs.YtkafkipjedpohaaGreatDoor
variable {m:Nat} {F:Nat->PF} {K:Nat->Nat->Bool} {H:Nat->Nat->Int}
theorem C8.f{l h:Mc}{k:Mk}(r:C8 l h k):l.f={h.f with pc:=h.f.pc+(k.seen-k.passed),stk:=k.ws.map (An.val h.f.loc)++h.f.stk}/\l.r=h.r:=by
 rw[r.eq];exact⟨rfl,rfl⟩
theorem C8.base{k0:Nat}{l h:Mc}{k:Mk}(hF:AP m F K H)(hl:CM m F K H k0 l)(r:C8 l h k):Cr m k0 h:=by
 obtain⟨e1,e2⟩:=r.f;refine Ir hF hl h h.f h.steps h.cH ?_ (by rw[e1]) (by rw[e1];exact List.suffix_append _ _) (by rw[e1];show _<=h.f.pc+_;omega) (by rw[r.eq];show _<=h.steps+_;omega) (by rw[r.eq];show _<=h.cH+_;omega);have hfr:=r.fr;have e:=r.eq;rw[e2];obtain⟨fr,arr,out,gives,steps,fin,high,made,cH,cU,cD⟩:=h;rw[e];simp only[Mc.f,Mc.r] at hfr ⊢;rw[<-hfr]
theorem KB{k:Mk}(h:k.passed<=k.seen):k.seen+1-k.passed=(k.seen-k.passed)+1:=by omega
theorem RS{h:Mc}{l:Mc}{k:Mk}(e:l={h with fr:={h.f with pc:=h.f.pc+(k.seen-k.passed),stk:=k.ws.map (An.val h.f.loc)++h.f.stk}::h.r,steps:=h.steps+(k.seen-k.passed),cH:=h.cH+(k.seen-k.passed)})(hfr:h.fr=h.f::h.r)(hw:∀ o,o∈k.ws->Du h.f.loc.length o)(hle:k.passed<=k.seen)(hf:h.fin=0):C8 l h k:=⟨e,hfr,hw,hle,hf⟩
theorem Hl{k0:Nat}{l h:Mc}{k:Mk}(hl:CM m F K H k0 l)(r:C8 l h k){op a:Int}(hop:(F l.f.fn).op l.f.pc=op)(har:(F l.f.fn).ar l.f.pc=a)(ht:op≠10/\op≠11/\op≠13/\op≠14)(o:An)(ho:Du h.f.loc.length o)
  (hx:Ak op a l.f l.arr l.out=({l.f with stk:=o.val l.f.loc::l.f.stk},l.arr,l.out,0)) (hk:k.str op a=k.wait o):Ga F m k0 l h k (k.straight op a) (AA F l):=by
 have hst:=Ih hl hop har ht.1 ht.2.1 ht.2.2.1 ht.2.2.2;rw[hx,if_pos rfl] at hst;obtain⟨e1,e2⟩:=r.f;refine⟨[],by unfold Mk.straight;rw[hk];simp[Mk.wait],trivial,Or.inl ⟨by rw[hst],r.fin,?_⟩⟩;rw[hst];unfold Mk.straight;rw[hk];refine⟨?_,r.fr,fun o' ho'=>?_,by show k.passed<=k.seen+1;have:=r.le;omega,r.fin⟩
 ·show _=({h with fr:={h.f with pc:=h.f.pc+(k.seen+1-k.passed),stk:=(o::k.ws).map (An.val h.f.loc)++h.f.stk}::h.r,steps:=h.steps+(k.seen+1-k.passed),cH:=h.cH+(k.seen+1-k.passed)}:Mc);rw[KB r.le,e1,e2,r.eq];have hz:=r.fin;obtain⟨fr,arr,out,gives,steps,fin,high,made,cH,cU,cD⟩:=h;simp only at hz;subst hz;rfl
 ·rcases List.mem_cons.1 (show o'∈o::k.ws from ho') with rfl|h'
  ·exact ho
  ·exact r.ws o' h'
theorem Fl{k0:Nat}{l h:Mc}{k:Mk}(hl:CM m F K H k0 l)(r:C8 l h k){op a:Int}(hop:(F l.f.fn).op l.f.pc=op)(har:(F l.f.fn).ar l.f.pc=a)(ht:op≠10/\op≠11/\op≠13/\op≠14)
  (new:List BF) (k2:Mk) (hk:k.str op a=k2) (hds:k2.ds=k.ds++new) (hseen:k2.seen=k.seen) (hpas:k2.passed=k.passed)
  (L S T:List V) (O:List V) (hL:L.length=h.f.loc.length) (hw:∀ o,o∈k2.ws->Du h.f.loc.length o)
  (hx:Ak op a l.f l.arr l.out=({l.f with loc:=L,stk:=S},l.arr,O,0)) (hS:S=k2.ws.map (An.val L)++T)
  (hok:Cy F m k0 new h) (hd:AD F new h={h with fr:={h.f with loc:=L,stk:=T}::h.r,out:=O}):Ga F m k0 l h k (k.straight op a) (AA F l):=by
 have hst:=Ih hl hop har ht.1 ht.2.1 ht.2.2.1 ht.2.2.2;rw[hx,if_pos rfl] at hst;obtain⟨e1,e2⟩:=r.f;refine⟨new,by unfold Mk.straight;rw[hk];exact hds,hok,Or.inl ⟨by rw[hst],by rw[hd];exact r.fin,?_⟩⟩;rw[hst,hd];unfold Mk.straight;rw[hk];refine⟨?_,rfl,fun o ho=>?_,by show k2.passed<=k2.seen+1;have:=r.le;omega,r.fin⟩
 ·show _=({h with fr:={h.f with loc:=L,pc:=h.f.pc+(k2.seen+1-k2.passed),stk:=k2.ws.map (An.val L)++T}::h.r,out:=O,steps:=h.steps+(k2.seen+1-k2.passed),cH:=h.cH+(k2.seen+1-k2.passed)}:Mc);rw[hseen,hpas,KB r.le,e1,e2,r.eq,hS];have hz:=r.fin;obtain⟨fr,arr,out,gives,steps,fin,high,made,cH,cU,cD⟩:=h;simp only at hz;subst hz;rfl
 ·show Du L.length o;rw[hL];exact hw o ho
theorem Ry{k0:Nat}{l h:Mc}{k:Mk}(hF:AP m F K H)(hl:CM m F K H k0 l)(r:C8 l h k){op a:Int}(hop:(F l.f.fn).op l.f.pc=op)(har:(F l.f.fn).ar l.f.pc=a)(ht:op≠10/\op≠11/\op≠13/\op≠14)(h3:op≠3)(n:Nat)
  (hk:k.str op a=(k.pops n).level.then_ (.ins op a (AI n k.ws))) (hn:(n:Int)<=At op a):Ga F m k0 l h k (k.straight op a) (AA F l):=by
 have hst:=Ih hl hop har ht.1 ht.2.1 ht.2.2.1 ht.2.2.2;obtain⟨e1,e2⟩:=r.f;obtain⟨t1,t2,t3⟩:=hl.top;have hlow:=t1.low hF;have Av:=t1.sizes hF (by omega) (hl.low l.f (by rw[hl.fr];exact Ti));have hpc64:=t1.pc;have hcn:=(hF.fn _ t1.fn).cn;have hleg:=t1.legal hF;rw[hop,har] at hlow hleg;have hb:=r.base hF hl;have hst1:l.f.stk=k.ws.map (An.val h.f.loc)++h.f.stk:=by rw[e1]
 have hstl:n<=k.ws.length+h.f.stk.length:=by
  have:=congrArg List.length hst1;simp at this;omega
 have hsplit:l.f.stk=(k.ws.take n).map (An.val h.f.loc)++((k.ws.drop n).map (An.val h.f.loc)++h.f.stk):=by
  rw[hst1,<-List.append_assoc,<-List.map_append,List.take_append_drop]
 have hsuf:(k.ws.drop n).map (An.val h.f.loc)++h.f.stk <:+ l.f.stk:=by rw[hsplit];exact List.suffix_append _ _
 have harr:l.arr=h.arr:=by rw[r.eq]
 have hout:l.out=h.out:=by rw[r.eq]
 obtain⟨new,n1,n2,n3,n4,n5,n6⟩:=Ld (F:=F) (k.pops n) hb (fun o ho=>r.ws o (List.mem_of_mem_drop ho)) (by have:=hsuf.length_le;show ((k.ws.drop n).map (An.val h.f.loc)++h.f.stk).length<=16;omega) (fun v hv=>by rw[<-harr];exact t1.stk v (hsuf.mem hv)) r.le (by have e:=congrArg Fr.pc e1;simp only at e;show h.f.pc+(k.seen-k.passed)<=64;omega);have n3':(k.pops n).level.seen=k.seen:=n3;have n4':(k.pops n).level.passed=k.seen:=n4;have n6':AD F new h={h with fr:={h.f with pc:=h.f.pc+(k.seen-k.passed),stk:=(k.ws.drop n).map (An.val h.f.loc)++h.f.stk}::h.r,steps:=h.steps+(k.seen-k.passed),cH:=h.cH+(k.seen-k.passed)}:=n6;clear n6 n3 n4;obtain⟨g1,g2,g3⟩:=JS (l:=h.f.loc) r.ws n h.f.stk hstl;have hf2:(AD F new h).f={h.f with pc:=h.f.pc+(k.seen-k.passed),stk:=(k.ws.drop n).map (An.val h.f.loc)++h.f.stk}:=by rw[n6'];rfl
 have hr2:(AD F new h).r=h.r:=by rw[n6'];rfl
 have hfull:({(AD F new h).f with stk:=(Aq (AD F new h).f.loc (AI n k.ws) (AD F new h).f.stk).1++(Aq (AD F new h).f.loc (AI n k.ws) (AD F new h).f.stk).2}:Fr)=l.f:=by
  rw[hf2,e1];show ({h.f with pc:=_,stk:=(Aq h.f.loc (AI n k.ws) ((k.ws.drop n).map (An.val h.f.loc)++h.f.stk)).1++(Aq h.f.loc (AI n k.ws) ((k.ws.drop n).map (An.val h.f.loc)++h.f.stk)).2}:Fr)=_;rw[g2]
 have hgs:(Aq (AD F new h).f.loc (AI n k.ws) (AD F new h).f.stk).1++(Aq (AD F new h).f.loc (AI n k.ws) (AD F new h).f.stk).2=l.f.stk:=by rw[<-hfull]
 have hz2:(AD F new h).fin=0:=by rw[n6'];exact r.fin
 have hdx:AR F (.ins op a (AI n k.ws)) (AD F new h)={l with fr:=(Ak op a l.f l.arr l.out).1::l.r,arr:=(Ak op a l.f l.arr l.out).2.1,out:=(Ak op a l.f l.arr l.out).2.2.1,fin:=(Ak op a l.f l.arr l.out).2.2.2}:=by
  simp only[AR];rw[hfull,hr2,n6'];simp only;rw[harr,hout,e2,r.eq]
 have hb2:Cr m k0 (AD F new h):=by
  refine Ir hF hl _ (AD F new h).f l.steps l.cH ?_ (by rw[hf2,e1]) (by rw[hf2];exact hsuf) (by rw[hf2,e1];exact Te _) (Te _) (Te _);rw[hf2,e2,n6',r.eq]
 have hok:Cy F m k0 (new++[.ins op a (AI n k.ws)]) h:=by
  refine GJ _ _ _ n5 (fun _=>⟨⟨hb2,?_,?_,?_,?_,?_,fun e=>absurd e h3⟩,fun _=>trivial⟩) (by rw[r.fin];decide)
  ·rw[hf2];exact g1
  ·rw[hf2];show (Aq h.f.loc (AI n k.ws) ((k.ws.drop n).map (An.val h.f.loc)++h.f.stk)).1.length=_;rw[g3];unfold AI;simp;omega
  ·rw[hgs];have:(AD F new h).arr=l.arr:=by rw[n6',harr]
   rw[this];exact t1.stk
  ·rw[hgs];exact Av.2
  ·rw[hgs];exact hlow
 have hds:AD F (new++[.ins op a (AI n k.ws)]) h=AR F (.ins op a (AI n k.ws)) (AD F new h):=by
  rw[F2 _ _ _ (by omega),CO];split<;>rfl
 have hw:=E9 (f:=l.f) (out:=l.out) hleg ht.1 ht.2.1 ht.2.2.1 ht.2.2.2 hlow t1.loc t1.stk hl.inv.arrs hl.inv.cells;have hxt:=Iv op a l.f l.arr l.out;refine⟨new++[.ins op a (AI n k.ws)],by unfold Mk.straight;rw[hk];show (k.pops n).level.ds++_=_;rw[n1];simp[Mk.pops],hok,?_⟩;rw[hds,hdx,hst];generalize Ak op a l.f l.arr l.out=x at *;rcases hxt with hz|hz
 ·refine Or.inl ⟨hz,hz,?_⟩;rw[if_pos hz];unfold Mk.straight;rw[hk];refine⟨?_,rfl,fun o ho=>?_,by show (k.pops n).level.passed<=(k.pops n).level.seen+1;rw[n3',n4'];omega,hz⟩
  ·show _=({l with fr:={x.1 with pc:=x.1.pc+((k.pops n).level.seen+1-(k.pops n).level.passed),stk:=(k.pops n).level.ws.map (An.val x.1.loc)++x.1.stk}::l.r,arr:=x.2.1,out:=x.2.2.1,fin:=x.2.2.2,steps:=l.steps+((k.pops n).level.seen+1-(k.pops n).level.passed),cH:=l.cH+((k.pops n).level.seen+1-(k.pops n).level.passed)}:Mc);rw[n2,n3',n4',show k.seen+1-k.seen=1 by omega,hw.pc];rfl
  ·exact absurd (show o∈(k.pops n).level.ws from ho) (by rw[n2];simp)
 ·refine Or.inr ⟨hz.1,?_⟩;rw[if_neg (by omega)]
end Go.Proofs.YtkafkipjedpohaaGreatDoor

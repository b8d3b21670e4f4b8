import Derived.Test.YtkafkipjedpohaaGreatDoorPureE
namespace Go.Proofs.YtkafkipjedpohaaGreatDoor
variable {m:Nat} {F:Nat->PF} {K:Nat->Nat->Bool} {H:Nat->Nat->Int}
theorem C8.stk{l h:Mc}{k:Mk}(r:C8 l h k):l.f.stk=k.ws.map (An.val h.f.loc)++h.f.stk/\l.f.loc=h.f.loc/\l.arr=h.arr/\l.out=h.out:=by
 obtain⟨e1,e2⟩:=r.f;exact⟨by rw[e1],by rw[e1],by rw[r.eq],by rw[r.eq]⟩
theorem MR{k0:Nat}{l h:Mc}{k:Mk}(hF:AP m F K H)(hl:CM m F K H k0 l)(r:C8 l h k){op a:Int}(hop:(F l.f.fn).op l.f.pc=op)(har:(F l.f.fn).ar l.f.pc=a)(n:Nat)(h39:op=3\/op=9)(hnp:n=BK op)
  (L S:List V) (hL:L.length=h.f.loc.length) (hx:∀ p,Ak op a {l.f with pc:=p} l.arr l.out=({l.f with pc:=p,loc:=L,stk:=S},l.arr,l.out,0)):Ga F m k0 l h k (k.straight op a) (AA F l):=by
 have ht:op≠10/\op≠11/\op≠13/\op≠14:=by omega
 obtain⟨e1,e2⟩:=r.f;obtain⟨hst1,hloc,harr,hout⟩:=r.stk;obtain⟨t1,t2,t3⟩:=hl.top;have hlow:=t1.low hF;have Av:=t1.sizes hF (by omega) (hl.low l.f (by rw[hl.fr];exact Ti));have hleg:=t1.legal hF;rw[hop,har] at hlow hleg;have hb:=r.base hF hl;have hn:(n:Int)<=At op a:=by
  subst hnp;rcases h39 with rfl|rfl
  ·simp[BK,At,A6]
  ·simp[BK,At,A6]
 have hstl:n<=k.ws.length+h.f.stk.length:=by
  have:=congrArg List.length hst1;simp at this;omega
 have hsplit:l.f.stk=(k.ws.take n).map (An.val h.f.loc)++((k.ws.drop n).map (An.val h.f.loc)++h.f.stk):=by
  rw[hst1,<-List.append_assoc,<-List.map_append,List.take_append_drop]
 have hsuf:(k.ws.drop n).map (An.val h.f.loc)++h.f.stk <:+ l.f.stk:=by rw[hsplit];exact List.suffix_append _ _
 obtain⟨new,n1,n2,n3,n4,n5,n6⟩:=Lv (F:=F) (k.pops n) hb (fun o ho=>r.ws o (List.mem_of_mem_drop ho)) (by have:=hsuf.length_le;simp at this;show (k.ws.drop n).length<=16;simp;omega);have n6':AD F new h={h with fr:={h.f with stk:=(k.ws.drop n).map (An.val h.f.loc)++h.f.stk}::h.r}:=n6;clear n6;obtain⟨g1,g2,g3⟩:=JS (l:=h.f.loc) r.ws n h.f.stk hstl;have hf2:(AD F new h).f={h.f with stk:=(k.ws.drop n).map (An.val h.f.loc)++h.f.stk}:=by rw[n6'];rfl
 have hr2:(AD F new h).r=h.r:=by rw[n6'];rfl
 have hgs:(Aq (AD F new h).f.loc (AI n k.ws) (AD F new h).f.stk).1++(Aq (AD F new h).f.loc (AI n k.ws) (AD F new h).f.stk).2=l.f.stk:=by
  rw[hf2];show (Aq h.f.loc (AI n k.ws) ((k.ws.drop n).map (An.val h.f.loc)++h.f.stk)).1++(Aq h.f.loc (AI n k.ws) ((k.ws.drop n).map (An.val h.f.loc)++h.f.stk)).2=_;rw[g2,hst1]
 have hfull:({(AD F new h).f with stk:=l.f.stk}:Fr)={l.f with pc:=h.f.pc}:=by
  rw[hf2,e1]
 have hz2:(AD F new h).fin=0:=by rw[n6'];exact r.fin
 have hdx:AR F (.ins op a (AI n k.ws)) (AD F new h)={h with fr:={h.f with loc:=L,stk:=S}::h.r,out:=h.out}:=by
  simp only[AR];have ha2:(AD F new h).arr=l.arr:=by rw[n6',harr]
  have ho2:(AD F new h).out=l.out:=by rw[n6',hout]
  rw[hgs,hfull,hr2,ha2,ho2,hx h.f.pc,n6'];simp only;rw[harr,hout,e1];have hz:=r.fin;obtain⟨fr,arr,out,gives,steps,fin,high,made,cH,cU,cD⟩:=h;simp only at hz;subst hz;rfl
 have hb2:Cr m k0 (AD F new h):=by
  refine Ir hF hl _ (AD F new h).f h.steps h.cH ?_ (by rw[hf2,e1]) (by rw[hf2];exact hsuf) (by rw[hf2,e1];show h.f.pc<=h.f.pc+_;omega) (by rw[r.eq];show h.steps<=h.steps+_;omega) (by rw[r.eq];show h.cH<=h.cH+_;omega);rw[hf2,e2,n6',r.eq]
 have hok:Cy F m k0 (new++[.ins op a (AI n k.ws)]) h:=by
  refine GJ _ _ _ n5 (fun _=>⟨⟨hb2,?_,?_,?_,?_,?_,fun e=>?_⟩,fun _=>trivial⟩) (by rw[r.fin];decide)
  ·rw[hf2];exact g1
  ·rw[hf2];show (Aq h.f.loc (AI n k.ws) ((k.ws.drop n).map (An.val h.f.loc)++h.f.stk)).1.length=_;rw[g3];unfold AI;simp;omega
  ·rw[hgs];have:(AD F new h).arr=l.arr:=by rw[n6',harr]
   rw[this];exact t1.stk
  ·rw[hgs];exact Av.2
  ·rw[hgs];exact hlow
  ·have hf:0<=a/\a<(F l.f.fn).locals:=by rw[e] at hleg;simpa [Bz] using hleg
   have h2:=t1.locs;rw[hf2];show 0<=a/\a<(h.f.loc.length:Int);rw[<-hloc];omega
 have hds:AD F (new++[.ins op a (AI n k.ws)]) h=AR F (.ins op a (AI n k.ws)) (AD F new h):=by
  rw[F2 _ _ _ (by omega),CO];split<;>rfl
 have hkk:k.str op a=(k.pops n).settle.then_ (.ins op a (AI n k.ws)):=by
  subst hnp;unfold Mk.str;rcases h39 with rfl|rfl<;>simp
 refine Fl hl r hop har ht (new++[.ins op a (AI n k.ws)]) _ hkk (by show (k.pops n).settle.ds++_=_;rw[n1];simp[Mk.pops]) n3 n4 L S S h.out hL (fun o ho=>absurd (show o∈(k.pops n).settle.ws from ho) (by rw[n2];simp)) (by have:=hx l.f.pc;rw[hout] at this ⊢;exact this) (by show S=(k.pops n).settle.ws.map _++S;rw[n2];rfl) hok (by rw[hds,hdx])
theorem QS{k0:Nat}{l h:Mc}{k:Mk}(hF:AP m F K H)(hl:CM m F K H k0 l)(r:C8 l h k){op a:Int}(hop:(F l.f.fn).op l.f.pc=op)(har:(F l.f.fn).ar l.f.pc=a)(ht:Dv op=false):Ga F m k0 l h k (k.straight op a) (AA F l):=by
 have ht:op≠10/\op≠11/\op≠13/\op≠14:=by simpa [Dv] using ht
 obtain⟨e1,e2⟩:=r.f;obtain⟨hst1,hloc,harr,hout⟩:=r.stk;obtain⟨t1,t2,t3⟩:=hl.top;have hlow:=t1.low hF;have Av:=t1.sizes hF (by omega) (hl.low l.f (by rw[hl.fr];exact Ti));have hleg:=t1.legal hF;rw[hop,har] at hlow hleg;have hrg:=E3 hleg;have hb:=r.base hF hl;by_cases c0:op=0
 ·subst c0;exact Hl hl r hop har ht (.con (Bn a)) trivial rfl rfl
 by_cases c1:op=1
 ·subst c1;exact Hl hl r hop har ht (.con As) trivial rfl rfl
 by_cases c12:op=12
 ·subst c12;exact Hl hl r hop har ht (.con ⟨3,a⟩) trivial rfl rfl
 by_cases c2:op=2
 ·subst c2;have hf:0<=a/\a<(F l.f.fn).locals:=by simpa [Bz] using hleg
  have h2:=t1.locs;exact Hl hl r hop har ht (.loc a.toNat) (by show a.toNat<h.f.loc.length;rw[<-hloc];omega) rfl rfl
 have hp1:1<=l.f.stk.length:=by
  have:1<=At op a:=by unfold At A6;rw[if_neg ht.2.2.1,if_neg (by omega)];split<;>(try split)<;>omega
  omega
 obtain⟨x,q,hst⟩:∃ x q,l.f.stk=x::q:=by
  cases hc:l.f.stk with
  |nil=>rw[hc] at hp1;simp at hp1
  |cons x r=>exact⟨x,r,rfl⟩
 by_cases c19:op=19
 ·subst c19;have hx:Ak 19 a l.f l.arr l.out=({l.f with loc:=l.f.loc,stk:=q},l.arr,l.out++[x],0):=by simp[Ak,hst]
  have hkk:k.str 19 a=(k.pops 1).then_ (.ins 19 a (AI 1 k.ws)):=by simp[Mk.str]
  cases hws:k.ws with
  |nil =>
   rw[hws] at hst1;have hh:h.f.stk=x::q:=by rw[<-hst,hst1];rfl
   refine Fl hl r hop har ht [.ins 19 a [.pop]] _ hkk (by rw[hws];rfl) rfl rfl h.f.loc q q (h.out++[x]) rfl (fun o ho=>absurd (show o∈k.ws.drop 1 from ho) (by rw[hws];simp)) (by rw[hx,hloc,hout]) (by show q=(k.ws.drop 1).map _++q;rw[hws];rfl) ⟨⟨hb,⟨by rw[hh];simp[DA],trivial⟩,rfl,?_,?_,?_,fun e=>by omega⟩,fun _=>trivial⟩ ?_
   ·rw[hh];have:=hb.sok;rw[hh] at this;exact this
   ·rw[hh];have:=hb.stk;rw[hh] at this;exact this
   ·rw[hh];rw[hst] at hlow;exact hlow
   ·rw[CO];have:AR F (.ins 19 a [.pop]) h={h with fr:={h.f with loc:=h.f.loc,stk:=q}::h.r,out:=h.out++[x]}:=by
     simp[AR,Aq,An.get,hh,Ak,r.fin]
    rw[this];split<;>rfl
  |cons o ws =>
   rw[hws] at hst1;have hxo:x=o.val h.f.loc/\q=ws.map (An.val h.f.loc)++h.f.stk:=by
    rw[hst] at hst1;simpa using hst1
   obtain⟨g1,g2⟩:=(r.ws o (by rw[hws];exact Ti)).get (st:=h.f.stk);refine Fl hl r hop har ht [.ins 19 a [o]] _ hkk (by rw[hws];simp[Mk.pops,Mk.then_,AI]) rfl rfl h.f.loc q h.f.stk (h.out++[x]) rfl (fun o' ho=>r.ws o' (by rw[hws];have:o'∈k.ws.drop 1:=ho;rw[hws] at this;exact Tf _ this)) (by rw[hx,hloc,hout]) (by show q=(k.ws.drop 1).map _++_;rw[hws];exact hxo.2) ⟨⟨hb,⟨g2,trivial⟩,rfl,?_,?_,?_,fun e=>by omega⟩,fun _=>trivial⟩ ?_
   ·simp only[Aq,g1,List.cons_append,List.nil_append];rw[<-hxo.1];exact By.cons (by rw[<-harr];exact t1.stk x (by rw[hst];exact Ti)) hb.sok
   ·simp only[Aq,g1,List.cons_append,List.nil_append,Tn];have h1:=Av.2;rw[hst,hxo.2] at h1;simp at h1;omega
   ·simp[At,A6,Aq];omega
   ·rw[CO];have:AR F (.ins 19 a [o]) h={h with fr:={h.f with loc:=h.f.loc,stk:=h.f.stk}::h.r,out:=h.out++[x]}:=by
     simp[AR,Aq,g1,Ak,r.fin,hxo.1]
    rw[this];split<;>rfl
 by_cases c20:op=20
 ·subst c20;have hx:Ak 20 a l.f l.arr l.out=({l.f with loc:=l.f.loc,stk:=q},l.arr,l.out,0):=by simp[Ak,hst]
  cases hws:k.ws with
  |nil =>
   rw[hws] at hst1;have hh:h.f.stk=x::q:=by rw[<-hst,hst1];rfl
   have hkk:k.str 20 a=k.then_ (.ins 20 a [.pop]):=by simp[Mk.str,hws]
   refine Fl hl r hop har ht [.ins 20 a [.pop]] _ hkk rfl rfl rfl h.f.loc q q h.out rfl (fun o ho=>absurd (show o∈k.ws from ho) (by rw[hws];simp)) (by rw[hx,hloc,hout]) (by show q=k.ws.map _++q;rw[hws];rfl) ⟨⟨hb,⟨by rw[hh];simp[DA],trivial⟩,rfl,?_,?_,?_,fun e=>by omega⟩,fun _=>trivial⟩ ?_
   ·rw[hh];have:=hb.sok;rw[hh] at this;exact this
   ·rw[hh];have:=hb.stk;rw[hh] at this;exact this
   ·rw[hh];rw[hst] at hlow;exact hlow
   ·rw[CO];have:AR F (.ins 20 a [.pop]) h={h with fr:={h.f with loc:=h.f.loc,stk:=q}::h.r,out:=h.out}:=by
     simp[AR,Aq,An.get,hh,Ak,r.fin]
    rw[this];split<;>rfl
  |cons o ws =>
   rw[hws] at hst1;have hxo:x=o.val h.f.loc/\q=ws.map (An.val h.f.loc)++h.f.stk:=by
    rw[hst] at hst1;simpa using hst1
   have hkk:k.str 20 a={k with ws:=ws}:=by simp[Mk.str,hws]
   refine Fl hl r hop har ht [] _ hkk (by simp) rfl rfl h.f.loc q h.f.stk h.out rfl (fun o' ho=>r.ws o' (by rw[hws];exact Tf _ ho)) (by rw[hx,hloc,hout]) hxo.2 trivial ?_;show h=_;have:=r.fr;obtain⟨fr,arr,out,gives,steps,fin,high,made,cH,cU,cD⟩:=h;simp only[Mc.f,Mc.r] at this ⊢;rw[<-this]
 by_cases c21:op=21
 ·subst c21;have hx:Ak 21 a l.f l.arr l.out=({l.f with loc:=l.f.loc,stk:=x::x::q},l.arr,l.out,0):=by simp[Ak,hst]
  cases hws:k.ws with
  |nil =>
   rw[hws] at hst1;have hh:h.f.stk=x::q:=by rw[<-hst,hst1];rfl
   have hkk:k.str 21 a=k.then_ (.ins 21 a []):=by simp[Mk.str,hws]
   refine Fl hl r hop har ht [.ins 21 a []] _ hkk rfl rfl rfl h.f.loc (x::x::q) (x::x::q) h.out rfl (fun o ho=>absurd (show o∈k.ws from ho) (by rw[hws];simp)) (by rw[hx,hloc,hout]) (by show _=k.ws.map _++_;rw[hws];rfl) ⟨⟨hb,trivial,rfl,?_,?_,?_,fun e=>by omega⟩,fun _=>trivial⟩ ?_
   ·exact hb.sok
   ·exact hb.stk
   ·show _<=((([]:List V)++h.f.stk).length:Int);rw[hh];rw[hst] at hlow;exact hlow
   ·rw[CO];have:AR F (.ins 21 a []) h={h with fr:={h.f with loc:=h.f.loc,stk:=x::x::q}::h.r,out:=h.out}:=by
     simp[AR,Aq,hh,Ak,r.fin]
    rw[this];split<;>rfl
  |cons o ws =>
   rw[hws] at hst1;have hxo:x=o.val h.f.loc/\q=ws.map (An.val h.f.loc)++h.f.stk:=by
    rw[hst] at hst1;simpa using hst1
   have hkk:k.str 21 a={k with ws:=o::o::ws}:=by simp[Mk.str,hws]
   refine Fl hl r hop har ht [] _ hkk (by simp) rfl rfl h.f.loc (x::x::q) h.f.stk h.out rfl (fun o' ho=>r.ws o' (by rw[hws];rcases List.mem_cons.1 ho with rfl|ho;exact Ti;exact ho)) (by rw[hx,hloc,hout]) (by simp[hxo.1,hxo.2]) trivial ?_;show h=_;have:=r.fr;obtain⟨fr,arr,out,gives,steps,fin,high,made,cH,cU,cD⟩:=h;simp only[Mc.f,Mc.r] at this ⊢;rw[<-this]
 by_cases c3:op=3
 ·subst c3;exact MR hF hl r hop har 1 (Or.inl rfl) (by simp[BK]) (l.f.loc.set a.toNat x) q (by rw[List.length_set,hloc]) (fun p=>by simp[Ak,hst])
 have hp2:op≠15->op≠18->2<=At op a:=fun h1 h2=>by unfold At A6;rw[if_neg ht.2.2.1,if_neg (by omega)];split<;>(try split)<;>omega
 by_cases c9:op=9
 ·subst c9;have h2:=hp2 (by omega) (by omega);obtain⟨y,q2,hq⟩:∃ y q2,q=y::q2:=by
   cases hc:q with
   |nil=>rw[hst,hc] at hlow;simp at hlow;omega
   |cons x r=>exact⟨x,r,rfl⟩
  subst hq;exact MR hF hl r hop har 2 (Or.inr rfl) (by simp[BK]) l.f.loc ((AE 9 y x).1::q2) (by rw[hloc]) (fun p=>by simp[Ak,hst,AE])
 have hkk:k.str op a=(k.pops (BK op)).level.then_ (.ins op a (AI (BK op) k.ws)):=by
  unfold Mk.str;rw[if_neg c0,if_neg c1,if_neg c12,if_neg c2,if_neg c19,if_neg c20,if_neg c21,if_neg (by omega)]
 refine Ry hF hl r hop har ht c3 (BK op) hkk ?_;unfold BK;by_cases d1:op=15\/op=18
 ·rw[if_pos (by omega)];have:1<=At op a:=by unfold At A6;rw[if_neg ht.2.2.1,if_neg (by omega)];split<;>(try split)<;>omega
  omega
 ·rw[if_neg (by omega)];by_cases d2:op=17
  ·rw[if_pos d2,d2];simp[At,A6]
  ·rw[if_neg d2];have:=hp2 (by omega) (by omega);omega
end Go.Proofs.YtkafkipjedpohaaGreatDoor
namespace Go.Proofs.YtkafkipjedpohaaGreatDoor
variable {m:Nat} {F:Nat->PF} {K:Nat->Nat->Bool} {H:Nat->Nat->Int}
def Km(F:Nat->PF)(m k0:Nat)(l h:Mc)(k k':Mk)(l':Mc):Prop :=
 ∃ new,k'.ds=k.ds++new/\Cy F m k0 new h/\((l'.fin<3/\AD F new h=l')\/(3<=l'.fin/\AD F new h={l' with steps:=l.steps,cH:=l.cH}))
theorem GW{k0:Nat}{l h:Mc}{k:Mk}(hF:AP m F K H)(hl:CM m F K H k0 l)(r:C8 l h k)(n:Nat)(hn:n<=l.f.stk.length) :
  ∃ new,(k.pops n).level.ds=k.ds++new/\Cy F m k0 new h/\AD F new h={l with fr:={l.f with stk:=(k.ws.drop n).map (An.val l.f.loc)++h.f.stk}::l.r}/\Cr m k0 (AD F new h) /\
   Dh l.f.loc (AI n k.ws) ((k.ws.drop n).map (An.val l.f.loc)++h.f.stk)/\(Aq l.f.loc (AI n k.ws) ((k.ws.drop n).map (An.val l.f.loc)++h.f.stk)).1++(Aq l.f.loc (AI n k.ws) ((k.ws.drop n).map (An.val l.f.loc)++h.f.stk)).2=l.f.stk/\(Aq l.f.loc (AI n k.ws) ((k.ws.drop n).map (An.val l.f.loc)++h.f.stk)).1.length=n:=by
 obtain⟨e1,e2⟩:=r.f;obtain⟨hst1,hloc,harr,hout⟩:=r.stk;obtain⟨t1,t2,t3⟩:=hl.top;have Av:=t1.sizes hF (by omega) (hl.low l.f (by rw[hl.fr];exact Ti));have hpc64:=t1.pc;have hcn:=(hF.fn _ t1.fn).cn;have hb:=r.base hF hl;have hstl:n<=k.ws.length+h.f.stk.length:=by
  have:=congrArg List.length hst1;simp at this;omega
 have hsplit:l.f.stk=(k.ws.take n).map (An.val h.f.loc)++((k.ws.drop n).map (An.val h.f.loc)++h.f.stk):=by
  rw[hst1,<-List.append_assoc,<-List.map_append,List.take_append_drop]
 have hsuf:(k.ws.drop n).map (An.val h.f.loc)++h.f.stk <:+ l.f.stk:=by rw[hsplit];exact List.suffix_append _ _
 obtain⟨new,n1,n2,n3,n4,n5,n6⟩:=Ld (F:=F) (k.pops n) hb (fun o ho=>r.ws o (List.mem_of_mem_drop ho)) (by have:=hsuf.length_le;show ((k.ws.drop n).map (An.val h.f.loc)++h.f.stk).length<=16;omega) (fun v hv=>by rw[<-harr];exact t1.stk v (hsuf.mem hv)) r.le (by have e:=congrArg Fr.pc e1;simp only at e;show h.f.pc+(k.seen-k.passed)<=64;omega);have n6':AD F new h={h with fr:={h.f with pc:=h.f.pc+(k.seen-k.passed),stk:=(k.ws.drop n).map (An.val h.f.loc)++h.f.stk}::h.r,steps:=h.steps+(k.seen-k.passed),cH:=h.cH+(k.seen-k.passed)}:=n6;have n7:AD F new h={l with fr:={l.f with stk:=(k.ws.drop n).map (An.val l.f.loc)++h.f.stk}::l.r}:=by
  rw[n6',hloc,e1,e2,r.eq]
 obtain⟨g1,g2,g3⟩:=JS (l:=h.f.loc) r.ws n h.f.stk hstl;rw[hloc];refine⟨new,n1,n5,by rw[n7,hloc],?_,g1,by rw[hst1];exact g2,g3⟩;exact Ir hF hl _ {l.f with stk:=(k.ws.drop n).map (An.val l.f.loc)++h.f.stk} l.steps l.cH n7 rfl (by rw[hloc];exact hsuf) (Te _) (Te _) (Te _)
theorem Ho{k0:Nat}{l h:Mc}{k:Mk}(hl:CM m F K H k0 l)(r:C8 l h k){op a:Int}(new:List BF)(d:BF)(k2:Mk)(hk:k.trn op a=k2.then_ d)(hds:k2.ds=k.ds++new)(hok:Cy F m k0 new h)(hf2:(AD F new h).fin=0)(hd:GB m k0 d (AD F new h))
  (l':Mc) (h1:(AR F d (AD F new h)).fin=l'.fin) (h2:l'={AR F d (AD F new h) with steps:=l.steps+1,cH:=l.cH+1}) (h3:(AR F d (AD F new h)).steps=l.steps/\(AR F d (AD F new h)).cH=l.cH):Km F m k0 l h k (k.turn op a) l':=by
 have e1:AD F (new++[d,.one]) h=AD F [d,.one] (AD F new h):=F2 _ _ _ (by omega);refine⟨new++[d,.one],?_,?_,?_⟩
 ·unfold Mk.turn;rw[hk];show (k2.ds++[d])++[.one]=_;rw[hds];simp
 ·refine GJ _ _ _ hok (fun _=>⟨hd,fun _=>⟨⟨by rw[h3.1];exact hl.steps,by rw[h3.2];exact hl.cH⟩,fun _=>trivial⟩⟩) (by rw[r.fin];decide)
 ·rw[e1,CO];by_cases c:3<=(AR F d (AD F new h)).fin
  ·rw[if_pos c];refine Or.inr ⟨by omega,?_⟩;rw[h2];obtain⟨a1,a2⟩:=h3;generalize AR F d (AD F new h)=z at *;obtain⟨fr,arr,out,gives,steps,fin,high,made,cH,cU,cD⟩:=z;simp only at a1 a2;rw[<-a1,<-a2]
  ·rw[if_neg c];refine Or.inl ⟨by omega,?_⟩;rw[CO];have:AR F .one (AR F d (AD F new h))=l':=by
    rw[h2];show ({AR F d (AD F new h) with steps:=(AR F d (AD F new h)).steps+1,cH:=(AR F d (AD F new h)).cH+1}:Mc)=_;rw[h3.1,h3.2]
   rw[this,if_neg (by omega)];rfl
theorem GN(ws:List An):AI 1 ws=[(AI 1 ws).headD .pop]:=by
 cases ws with
 |nil=>rfl
 |cons o r=>simp[AI]
theorem RG{k0:Nat}{l h:Mc}{k:Mk}(hF:AP m F K H)(hl:CM m F K H k0 l)(r:C8 l h k){op a:Int}(hop:(F l.f.fn).op l.f.pc=op)(har:(F l.f.fn).ar l.f.pc=a)(ht:Dv op=true):Km F m k0 l h k (k.turn op a) (AA F l):=by
 have ht:op=10\/op=11\/op=13\/op=14:=by simpa [Dv] using ht
 obtain⟨t1,t2,t3⟩:=hl.top;have hlow:=t1.low hF;have hleg:=t1.legal hF;rw[Dw hl.fr];have hzl:=hl.fin;rcases ht with rfl|rfl|rfl|rfl
 ·obtain⟨new,n1,n2,n3,n4,_⟩:=GW hF hl r 0 (by omega);rw[FG hop,if_pos hl.high,har];have hp0:k.pops 0=k:=rfl;refine Ho hl r new (.jump a.toNat) k.level rfl (by rw[<-hp0];exact n1) n2 (by rw[n3];exact hzl) n4 _ (by rw[n3];rfl) ?_ (by rw[n3];exact⟨rfl,rfl⟩);rw[n3];have hs:(k.ws.drop 0).map (An.val l.f.loc)++h.f.stk=l.f.stk:=by
   obtain⟨hst1,hloc,_⟩:=r.stk;rw[hst1,hloc];rfl
  rw[hs];rfl
 ·rw[hop,har,show At 11 a=1 by simp[At,A6]] at hlow;obtain⟨new,n1,n2,n3,n4,n5,n6,n7⟩:=GW hF hl r 1 (by omega);rw[GN] at n5 n6 n7;generalize hO:(AI 1 k.ws).headD .pop=o at *;have e6:l.f.stk=(o.get l.f.loc ((k.ws.drop 1).map (An.val l.f.loc)++h.f.stk)).1::(o.get l.f.loc ((k.ws.drop 1).map (An.val l.f.loc)++h.f.stk)).2:=n6.symm;rw[Fq hop e6,if_pos hl.high,har];have hf3:(AD F new h).f={l.f with stk:=(k.ws.drop 1).map (An.val l.f.loc)++h.f.stk}:=by rw[n3];rfl
  refine Ho hl r new (.branch o a.toNat) (k.pops 1).level (by rw[<-hO];rfl) n1 n2 (by rw[n3];exact hzl) ⟨n4,by rw[hf3];exact n5.1,?_⟩ _ (by rw[n3];rfl) ?_ (by rw[n3];exact⟨rfl,rfl⟩)
  ·rw[hf3];intro hk0;exact(t1.stk _ (by rw[e6];exact Ti)).2.2 hk0
  ·rw[n3];rfl
 ·obtain⟨j0,j1⟩:=Fz hleg hop;rw[hop,har,show At 13 a=1+a by simp[At]] at hlow;rw[har] at j0 j1;obtain⟨new,n1,n2,n3,n4,_⟩:=GW hF hl r 0 (by omega);rw[Fy hop,if_pos hl.high,har];have hp0:k.pops 0=k:=rfl;have hs:(k.ws.drop 0).map (An.val l.f.loc)++h.f.stk=l.f.stk:=by
   obtain⟨hst1,hloc,_⟩:=r.stk;rw[hst1,hloc];rfl
  rw[hs] at n3;have hl3:AD F new h=l:=by
   rw[n3];have:=hl.fr;obtain⟨fr,arr,out,gives,steps,fin,high,made,cH,cU,cD⟩:=l;simp only[Mc.f,Mc.r] at this ⊢;rw[<-this]
  rw[hl3] at n4;have hcs:∀ (st ch:Nat),AJ F a.toNat l.f l.r {l with steps:=st,cH:=ch}={AJ F a.toNat l.f l.r l with steps:=st,cH:=ch}/\(AJ F a.toNat l.f l.r l).steps=l.steps/\(AJ F a.toNat l.f l.r l).cH=l.cH:=fun st ch=>by
   unfold AJ;split
   ·exact⟨rfl,rfl,rfl⟩
   ·split
    ·exact⟨rfl,rfl,rfl⟩
    ·split
     ·exact⟨rfl,rfl,rfl⟩
     ·exact⟨rfl,rfl,rfl⟩
  obtain⟨q1,q2,q3⟩:=hcs (l.steps+1) (l.cH+1);rw[q1];refine Ho hl r new (.call a.toNat) k.level rfl (by rw[<-hp0];exact n1) n2 (by rw[hl3];exact hzl) ⟨by rw[hl3];exact n4,by omega,by rw[hl3];omega⟩ _ (by rw[hl3];rfl) (by rw[hl3];rfl) (by rw[hl3];exact⟨q2,q3⟩)
 ·rw[hop,har,show At 14 a=1 by simp[At,A6]] at hlow;obtain⟨new,n1,n2,n3,n4,n5,n6,n7⟩:=GW hF hl r 1 (by omega);rw[GN] at n5 n6 n7;generalize hO:(AI 1 k.ws).headD .pop=o at *;have e6:l.f.stk=(o.get l.f.loc ((k.ws.drop 1).map (An.val l.f.loc)++h.f.stk)).1::(o.get l.f.loc ((k.ws.drop 1).map (An.val l.f.loc)++h.f.stk)).2:=n6.symm;rw[Fu hop,if_pos hl.high];have hf3:(AD F new h).f={l.f with stk:=(k.ws.drop 1).map (An.val l.f.loc)++h.f.stk}:=by rw[n3];rfl
  have hdx:AR F (.ret o) (AD F new h)=AT l.f l.r l:=by
   simp only[AR];rw[hf3];simp only;rw[<-e6,n3];show AT l.f l.r _=_;unfold AT;rw[e6]
  have hrs:∀ (st ch:Nat),AT l.f l.r {l with steps:=st,cH:=ch}={AT l.f l.r l with steps:=st,cH:=ch}/\(AT l.f l.r l).steps=l.steps/\(AT l.f l.r l).cH=l.cH:=fun st ch=>by
   unfold AT;rw[e6];simp only;split<;>exact⟨rfl,rfl,rfl⟩
  obtain⟨q1,q2,q3⟩:=hrs (l.steps+1) (l.cH+1);rw[q1];refine Ho hl r new (.ret o) (k.pops 1).level (by rw[<-hO];rfl) n1 n2 (by rw[n3];exact hzl) ⟨n4,by rw[hf3];exact n5.1⟩ _ (by rw[hdx]) (by rw[hdx]) (by rw[hdx];exact⟨q2,q3⟩)
theorem Jg(k:Mk):k.settle.seen=k.seen:=by unfold Mk.settle;split<;>rfl
theorem KU(k:Mk):k.level.seen=k.seen:=by unfold Mk.level;split<;>exact Jg k
theorem Gy(op a:Int)(k:Mk):(k.str op a).seen=k.seen:=by
 unfold Mk.str;repeat' split
 all_goals first|rfl|exact Jg _|exact KU _
theorem Il(op a:Int)(k:Mk):(k.trn op a).seen=k.seen:=by
 unfold Mk.trn;repeat' split
 all_goals first|rfl|exact KU _
structure Bd (l:Mc):Prop where
 out:l.out.length<=l.steps
 arr:l.arr.length<=l.steps
 cH:l.cH<=l.steps
theorem OW(A:Nat)(f:Fr)(rest:List Fr)(s:Mc):(AJ F A f rest s).cH=s.cH:=by
 unfold AJ;repeat' split
 all_goals rfl
theorem NO(f:Fr)(rest:List Fr)(s:Mc):(AT f rest s).cH=s.cH:=by
 unfold AT;repeat' split
 all_goals rfl
theorem IT{l:Mc}{f:Fr}{rest:List Fr}(hs:l.fr=f::rest):(AA F l).cH=l.cH+(if l.high.headD false=true then 1 else 0):=by
 rw[Dw hs];unfold CG;dsimp only;generalize (if l.high.headD false=true then 1 else 0)=c;split
 ·rfl
 ·split
  ·split<;>rfl
  ·split
   ·exact OW _ _ _ _
   ·split
    ·exact NO _ _ _
    ·rfl
theorem O2{l:Mc}{f:Fr}{rest:List Fr}(hs:l.fr=f::rest):(AA F l).cH<=l.cH+1:=by
 rw[IT hs];split<;>omega
theorem Bd.step{l:Mc}(h:Bd l)(h0:l.fin=0){f:Fr}{rest:List Fr}(hs:l.fr=f::rest):Bd (AA F l):=by
 have h1:=Jk (F:=F) hs;have h2:=(Fb (F:=F) h0 (by rw[hs];simp)).steps;have h3:=O2 (F:=F) hs;exact⟨by have:=h.out;omega,by have:=h.arr;omega,by have:=h.cH;omega⟩
theorem LP(g:PF):∀ (n p:Nat) (k:Mk),k.seen<=(CZ g n p k).seen
 |0,_,k=>Te _
 |n+1,p,k=>by
  unfold CZ;split
  ·show k.seen<=(k.trn _ _).seen+1;rw[Il];omega
  ·have:=LP g n (p+1) (k.straight (g.op p) (g.ar p));have e:(k.straight (g.op p) (g.ar p)).seen=k.seen+1:=by unfold Mk.straight;simp only;rw[Gy]
   omega
theorem KE(q:Mk):∃ ds,q.settle.ds=q.ds++ds:=by
 unfold Mk.settle;split
 ·exact⟨[],by simp⟩
 ·exact⟨_,rfl⟩
theorem IF(q:Mk):∃ ds,q.level.ds=q.ds++ds:=by
 obtain⟨d,hd⟩:=KE q;unfold Mk.level;split
 ·exact⟨d,hd⟩
 ·exact⟨d++[.pass (q.seen-q.passed)],by show q.settle.ds++_=_;rw[hd];simp⟩
theorem Fw{k1 q:Mk}{ds:List BF}(d:BF)(e:q.ds=k1.ds++ds):∃ ds,(q.then_ d).ds=k1.ds++ds:=⟨ds++[d],by show q.ds++[d]=_;rw[e];simp⟩
theorem P8(op a:Int)(k:Mk):∃ ds,(k.trn op a).ds=k.ds++ds:=by
 obtain⟨d1,h1⟩:=IF k;obtain⟨d2,h2⟩:=IF (k.pops 1);unfold Mk.trn;repeat' split
 ·exact Fw _ h1
 ·exact Fw (k1:=k) _ h2
 ·exact Fw _ h1
 ·exact Fw (k1:=k) _ h2
theorem N1(op a:Int)(k:Mk):∃ ds,(k.str op a).ds=k.ds++ds:=by
 obtain⟨d2,h2⟩:=KE (k.pops (BK op));obtain⟨d3,h3⟩:=IF (k.pops (BK op));unfold Mk.str;repeat' split
 all_goals first|exact Fw (k1:=k) _ h2|exact Fw (k1:=k) _ h3|exact Fw (k1:=k) (ds:=[]) _ (List.append_nil _).symm|exact⟨[],(List.append_nil _).symm⟩
theorem L0(g:PF):∀ (n p:Nat) (k:Mk),∃ ds,(CZ g n p k).ds=k.ds++ds
 |0,_,k=>⟨[],by simp[CZ]⟩
 |n+1,p,k=>by
  unfold CZ;split
  ·obtain⟨d3,h3⟩:=P8 (g.op p) (g.ar p) k;exact⟨d3++[.one],by show (k.trn _ _).ds++[.one]=_;rw[h3];simp⟩
  ·obtain⟨d1,h1⟩:=L0 g n (p+1) (k.straight (g.op p) (g.ar p));obtain⟨d2,h2⟩:=N1 (g.op p) (g.ar p) k;exact⟨d2++d1,by rw[h1];show (k.str _ _).ds++d1=_;rw[h2];simp⟩
def Ta(F:Nat->PF)(m k0:Nat)(l h:Mc)(k k':Mk):Prop :=
 ∃ new n t,k'.ds=k.ds++new/\1<=n/\n<=k'.seen-k.seen/\Ew F n l t/\t.steps=l.steps+n/\Cy F m k0 new h /\
  ((n=k'.seen-k.seen/\t.fin<3/\AD F new h=t)\/(3<=t.fin/\AD F new h={t with steps:=t.steps-1,cH:=t.cH-1}))
end Go.Proofs.YtkafkipjedpohaaGreatDoor
namespace Go.Proofs.YtkafkipjedpohaaGreatDoor
set_option maxRecDepth 100000
set_option maxHeartbeats 16000000
open Go.RowKit _root_.Go.Proofs.Tryz
abbrev Bxs:=List (Nat × Array Value × TypeId)
abbrev ptr (b:Nat):Value:=.pointer (some ⟨b,0,none⟩)
def BZ(l:Bxs)(o:An)(v:Value):Prop :=
 match o with
 |.pop=>v=.func (.func 179) #[] #[]
 |.con x=>∃ b,v=.func (.func 180) #[] #[ptr b]/\(b,#[.int .i64 x.k,.int .i64 x.n],43)∈l
 |.loc i=>∃ b op,v=.func (.func 168) #[] #[ptr b]/\(b,#[.int .i64 op,.int .i64 i],33)∈l
section
variable {l:Bxs}{w0 w:World}{B mb:Nat}{A0:Af}{s:Mc}{en:Int}{f:Fr}{rest:List Fr}{o:An}
theorem BZ.mono{l':Bxs}{v:Value}(h:BZ l o v)(hl:∀ t,t∈l->t∈l'):BZ l' o v:=by
 cases o with
 |pop=>exact h
 |con x=>obtain⟨b,h1,h2⟩:=h;exact⟨b,h1,hl _ h2⟩
 |loc i=>obtain⟨b,op,h1,h2⟩:=h;exact⟨b,op,h1,hl _ h2⟩
def Gz(v:Value)(g:Nat)(cap:Array Value):Prop:=v=.func (.func g) #[] cap/\∀ args X,(callFunc g args).run prog X=.ok (.enter g args) X
def Di(w0 w:World)(B mb:Nat)(A0:Af)(s:Mc)(en:Int)(l:Bxs)(f:Fr)(rest:List Fr)(o:An)(e:Ending)(w':World):Prop :=
 e=.returned (.agg #[.int .i64 (o.get f.loc f.stk).1.k,.int .i64 (o.get f.loc f.stk).1.n])/\Ap w0 B mb A0 {s with fr:={f with stk:=(o.get f.loc f.stk).2}::rest} en l w'/\w'.cell? ⟨A0.FB rest.length,2,none⟩=w.cell? ⟨A0.FB rest.length,2,none⟩
theorem Ap.fbz(h:Ap w0 B mb A0 s en l w)(hs:s.fr=f::rest):A0.FB rest.length<w.heap.size:=by
 obtain⟨_,A,l1,g1,_,_⟩:=h;have:=(l1.fb rest.length (by rw[hs];simp)).1;rw[Dc g1] at this;exact Ah this
theorem Ap.fbne(h:Ap w0 B mb A0 s en l w)(hs:s.fr=f::rest):∀ t,t∈l->t.1≠A0.FB rest.length:=fun t ht e=>by
 obtain⟨_,A,l1,g1,_,b1⟩:=h;have h1:=(l1.fb rest.length (by rw[hs];simp)).2.2;rw[Dc g1,<-e,(b1 t ht).2] at h1;omega
theorem Ap.boxfar(h:Ap w0 B mb A0 s en l w):∀ u,u∈l->u.1≠w.heap.size:=fun u hu=>by
 have:=h.lt u hu;omega
theorem NK(h:Ap w0 B mb A0 s en l w)(hs:s.fr=f::rest)(ho:f.stk≠[])(hn:f.stk.length<=60) :
  Calls prog 179 #[ptr (A0.FB rest.length)] w (Di w0 w B mb A0 s en l f rest .pop):=by
 obtain⟨v,st,hst⟩:∃ v st,f.stk=v::st:=by
  cases hc:f.stk with
  |nil=>exact absurd hc ho
  |cons x r=>exact⟨x,r,rfl⟩
 have H0:=Aa (h.box #[.int .i64 0,.int .i64 0] 43);have hbl:Below w.heap.size w (w.alloc (.cells #[.int .i64 0,.int .i64 0] 43)):=(Tu _ _).alloc (Te _) _;have hfz:=h.fbz hs;have HC:=Aa (hbl.cell (p:=⟨A0.FB rest.length,2,none⟩) hfz);have hle:=h.le.1;have HL:=Aa h.lt;unfold Di;simp only[An.get,hst,List.headD_cons,List.tail_cons];have hlen:st.length<=64:=by rw[hst] at hn;simp at hn;omega
 have HP:=Aa (H0.out.popL hs hst hlen);have HB:=Aa h.boxfar;have HFZ:=Aa (h.fbne hs);generalize hfb:A0.FB rest.length=fb at *;clear hfb hbl H0 h hst ho hn hlen;go_enter func179,ntmps179
 go_wp2_with fail
 generalize w.alloc (.cells #[.int .i64 0,.int .i64 0] 43)=W at *;refine HP.out.mono ?_;rintro e w1 ⟨rfl,c1,k1⟩;obtain⟨x0,x1,z0,z1⟩:=c1.hb.two Ti;have H2:=Aa (c1.write0 hle HB.out (.int .i64 v.k) (.int .i64 v.n));have HK:=Aa (k1.trans HC.out);clear c1 k1 HP HC;go_wp2;have k2:((w1.setCell ⟨w.heap.size,0,none⟩ (.int .i64 v.k)).setCell ⟨w.heap.size,1,none⟩ (.int .i64 v.n)).cell? ⟨fb,2,none⟩=w.cell? ⟨fb,2,none⟩:=by
  rw[To _ _ _ _ (by show ¬w.heap.size=fb;omega),To _ _ _ _ (by show ¬w.heap.size=fb;omega)];exact HK.out
 obtain⟨y0,y1,_,_⟩:=H2.out.hb.two Ti;exact bodyPost_ret (v:=.agg #[.int .i64 v.k,.int .i64 v.n]) (by simp[results,Tryz.results179,go_sem,y0,y1]) rfl ⟨rfl,H2.out.drop (fun t ht=>Tf _ ht),k2⟩
theorem OI(h:Ap w0 B mb A0 s en l w)(hs:s.fr=f::rest)(x:V)(b:Nat)(hb:(b,#[.int .i64 x.k,.int .i64 x.n],43)∈l) :
  Calls prog 180 #[ptr (A0.FB rest.length),ptr b] w (Di w0 w B mb A0 s en l f rest (.con x)):=by
 have H0:=Aa (h.box #[.int .i64 0,.int .i64 0] 43);have hbl:Below w.heap.size w (w.alloc (.cells #[.int .i64 0,.int .i64 0] 43)):=(Tu _ _).alloc (Te _) _;have hfz:=h.fbz hs;have HC:=Aa (hbl.cell (p:=⟨A0.FB rest.length,2,none⟩) hfz);have hle:=h.le.1;unfold Di;simp only[An.get];have HB:=Aa h.boxfar;obtain⟨v0,v1,_,_⟩:=H0.out.hb.two (Tf _ hb);obtain⟨x0,x1,z0,z1⟩:=H0.out.hb.two Ti;have hfr:({s with fr:={f with stk:=f.stk}::rest}:Mc)=s:=by
  obtain⟨fr,arr,out,gives,steps,fin,high,made,cH,cU,cD⟩:=s;simp only at hs;rw[hs]
 rw[hfr];have H2:=Aa (h.box #[.int .i64 x.k,.int .i64 x.n] 43);have hbl2:Below w.heap.size w (w.alloc (.cells #[.int .i64 x.k,.int .i64 x.n] 43)):=(Tu _ _).alloc (Te _) _;have HC2:=Aa (hbl2.cell (p:=⟨A0.FB rest.length,2,none⟩) hfz);clear hbl2;have hbw:b<w.heap.size:=h.lt _ hb;generalize hfb:A0.FB rest.length=fb at *;clear hfb hbl H0 h hfr hb;go_enter func180,ntmps180
 go_wp2;clear x0 x1 z0 z1 v0 v1;obtain⟨y0,y1,_,_⟩:=H2.out.hb.two Ti;exact bodyPost_ret (v:=.agg #[.int .i64 x.k,.int .i64 x.n]) (by simp[results,Tryz.results180,go_sem]) rfl ⟨rfl,H2.out.drop (fun t ht=>Tf _ ht),HC2.out⟩
theorem Sd(h:Ap w0 B mb A0 s en l w)(hs:s.fr=f::rest)(i:Nat)(hi:i<f.loc.length)(op:Int)(b:Nat)(hb:(b,#[.int .i64 op,.int .i64 i],33)∈l) :
  Calls prog 168 #[ptr (A0.FB rest.length),ptr b] w (Di w0 w B mb A0 s en l f rest (.loc i)):=by
 have H0:=Aa (h.box #[.int .i64 0,.int .i64 0] 43).drew;have hbl:Below w.heap.size w (w.alloc (.cells #[.int .i64 0,.int .i64 0] 43)).drew:=((Tu _ _).alloc (Te _) _).drew;have hfz:=h.fbz hs;have HC:=Aa (hbl.cell (p:=⟨A0.FB rest.length,2,none⟩) hfz);have hle:=h.le.1;unfold Di;simp only[An.get];have HB:=Aa h.boxfar;obtain⟨lb,lcap,k0,k1,k2,f1,f2,_⟩:=H0.out.loc hs hi;have hbm:(b,#[Value.int .i64 op,Value.int .i64 i],33)∈l:=hb;have hfr:({s with fr:={f with stk:=f.stk}::rest}:Mc)=s:=by
  obtain⟨fr,arr,out,gives,steps,fin,high,made,cH,cU,cD⟩:=s;simp only at hs;rw[hs]
 rw[hfr];have hbw:b<w.heap.size:=h.lt _ hb;generalize hfb:A0.FB rest.length=fb at *;have hlz:lb<w.heap.size:=by
  obtain⟨lb',lcap',j0,j1,_⟩:=h.loc hs hi;rw[hfb] at j0;have e:=HC.out.trans j0;rw[k0] at e;injection e with e;injection e with e;injection e with e;injection e with e;rw[e];exact Tr w _ j1
 generalize hx:f.loc.getD i As=x at *;clear hfb h hfr hb hx;have hi0:(0:Int)<=(i:Int):=by omega
 have hi1:(i:Int)<(f.loc.length:Int):=by omega
 have hne:¬w.heap.size=lb:=by omega
 have hnf:¬w.heap.size=fb:=by omega
 go_enter func168,ntmps168
 go_wp2_with fail
 generalize hll:f.loc.length=ll at *;have hbl0:Hb l (w.alloc (.cells #[.int .i64 0,.int .i64 0] 43)).drew:=fun t ht=>H0.out.hb t (Tf _ ht)
 have HS0:=Aa (Tc hbl0 (Tc k0 (Tc k1 k2)));clear hbl0;refine AG (fun w'=>Hb l w'/\w'.cell? ⟨fb,2,none⟩=some (.slice (some ⟨lb,0,none⟩) ll lcap)/\w'.cell? ⟨lb,i * 2,none⟩=some (.int .i64 x.k)/\w'.cell? ⟨lb,i * 2+1,none⟩=some (.int .i64 x.n)) [(false,0),(false,1),(false,2),(false,3),(false,4),(false,5),(false,6),(false,7),(true,8)] (by kernel_rfl) (by kernel_rfl) (Co _ _ _) HS0.out ?_;simp only[lexL,Tl,Tm];iterate 8 (refine Aw (by rfl) (by intro w' hS';obtain⟨hb,y0,y1,y2⟩:=hS';obtain⟨u0,u1,_,_⟩:=hb.two hbm;clear hb;go_simp;exact rfl) ?_;simp only[Act.put,Td,Th,Tg])
 have H2:=Aa (H0.out.write0 hle HB.out (.int .i64 x.k) (.int .i64 x.n));obtain⟨x0,x1,z0,z1⟩:=H0.out.hb.two Ti;have S0:=Aa HS0.out;clear HS0 k0 k1 k2 f1 f2 H0 hbl;generalize (w.alloc (.cells #[.int .i64 0,.int .i64 0] 43)).drew=W at *;refine Az (fun K hK=>?_);go_simp;refine hK.out _ _ ⟨fun t ht=>H2.out.hb t (Tf _ ht),?_,?_,?_⟩ ?_
 ·rw[To _ _ _ _ hnf,To _ _ _ _ hnf];exact S0.out.2.1
 ·rw[To _ _ _ _ hne,To _ _ _ _ hne];exact S0.out.2.2.1
 ·rw[To _ _ _ _ hne,To _ _ _ _ hne];exact S0.out.2.2.2
 clear hK K x0 x1 z0 z1;refine AF ?_;go_wp2;have k2:((W.setCell ⟨w.heap.size,0,none⟩ (.int .i64 x.k)).setCell ⟨w.heap.size,1,none⟩ (.int .i64 x.n)).cell? ⟨fb,2,none⟩=w.cell? ⟨fb,2,none⟩:=by
  rw[To _ _ _ _ hnf,To _ _ _ _ hnf];exact HC.out
 obtain⟨y0,y1,_,_⟩:=H2.out.hb.two Ti;exact bodyPost_ret (v:=.agg #[.int .i64 x.k,.int .i64 x.n]) (by simp[results,Tryz.results168,go_sem,y0,y1]) rfl ⟨rfl,H2.out.drop (fun t ht=>Tf _ ht),k2⟩
theorem QV(args:Array Value)(X:World):(callFunc 179 args).run prog X=.ok (.enter 179 args) X:=by go_simp
theorem Qp(args:Array Value)(X:World):(callFunc 180 args).run prog X=.ok (.enter 180 args) X:=by go_simp
theorem R9(args:Array Value)(X:World):(callFunc 168 args).run prog X=.ok (.enter 168 args) X:=by go_simp
theorem Ap.get(h:Ap w0 B mb A0 s en l w)(hs:s.fr=f::rest){g:Nat}{cap:Array Value}(hv:BZ l o (.func (.func g) #[] cap))(ho:DA f.loc.length f.stk o)(hn:f.stk.length<=60) :
  Calls prog g (#[ptr (A0.FB rest.length)]++cap) w (Di w0 w B mb A0 s en l f rest o):=by
 cases o with
 |pop =>
  injection hv with h1 h2 h3;injection h1 with h1;subst h1 h3;exact NK h hs ho hn
 |con x =>
  obtain⟨b,h1,h2⟩:=hv;injection h1 with h1 _ h3;injection h1 with h1;subst h1 h3;exact OI h hs x b h2
 |loc i =>
  obtain⟨b,op,h1,h2⟩:=hv;injection h1 with h1 _ h3;injection h1 with h1;subst h1 h3;exact Sd h hs i ho op b h2
theorem BZ.fn{v:Value}(h:BZ l o v):∃ g cap,Gz v g cap:=by
 cases o with
 |pop=>exact⟨_,_,h,QV⟩
 |con x=>obtain⟨b,h1,_⟩:=h;exact⟨_,_,h1,Qp⟩
 |loc i=>obtain⟨b,op,h1,_⟩:=h;exact⟨_,_,h1,R9⟩
end
end Go.Proofs.YtkafkipjedpohaaGreatDoor

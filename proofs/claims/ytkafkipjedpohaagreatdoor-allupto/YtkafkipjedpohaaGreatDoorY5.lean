import Derived.Test.YtkafkipjedpohaaGreatDoorY2
namespace Go.Proofs.YtkafkipjedpohaaGreatDoor
set_option maxRecDepth 100000
set_option maxHeartbeats 16000000
open Go.RowKit _root_.Go.Proofs.Tryz
theorem QW{w0 w:World}{B mb:Nat}{A0:Af}{s:Mc}{en:Int}{l:Bxs}(h:Ap w0 B mb A0 s en l w){f:Fr}{rest:List Fr}(hs:s.fr=f::rest)(i:Nat)(hi:i<f.loc.length)(o:An)(vo:Value)(b lb0:Nat)(hb:(b,#[vo],224)∈l)(hlb:(lb0,#[.int .i64 i],3)∈l)(hv:BZ l o vo)(ho:DA f.loc.length f.stk o)(hn:f.stk.length<=60) :
  Calls prog 181 #[ptr mb,ptr (A0.FB rest.length),ptr b,ptr lb0] w (C9 w0 B mb A0 s en l rest (Ak 3 i {f with stk:=(Aq f.loc [o] f.stk).1++(Aq f.loc [o] f.stk).2} s.arr s.out)):=by
 have hx:Ak 3 i {f with stk:=(Aq f.loc [o] f.stk).1++(Aq f.loc [o] f.stk).2} s.arr s.out=({f with stk:=(o.get f.loc f.stk).2,loc:=f.loc.set i (o.get f.loc f.stk).1},s.arr,s.out,0):=by simp[Aq,Ak]
 have HX:=Aa hx;generalize Ak 3 i {f with stk:=(Aq f.loc [o] f.stk).1++(Aq f.loc [o] f.stk).2} s.arr s.out=xx at *;obtain⟨g1,c1,e1,f1⟩:=hv.fn;subst e1;have HG:=Aa (h.drew.get hs hv ho hn);obtain⟨lb,lcap,k0,_,_,_,_,kne⟩:=h.drew.loc hs hi;have HB:=Aa (Tc hb hlb);have H0:=Aa h.drew;have HI:=Aa hi;unfold Di at HG;generalize (o.get f.loc f.stk).1=v at *;generalize (o.get f.loc f.stk).2=st at *;generalize hfb:A0.FB rest.length=fb at *;have HF:=Aa hfb;have KL:=Aa k0;clear hfb hx hn ho h hv hb hlb k0;have hi0:(0:Int)<=(i:Int):=by omega
 have hi1:(i:Int)<(f.loc.length:Int):=by omega
 go_enter func181,ntmps181
 go_wp2_with fail
 refine AG (fun w'=>Hb l w'/\w'.cell? ⟨fb,2,none⟩=some (.slice (some ⟨lb,0,none⟩) f.loc.length lcap)) Tz (by kernel_rfl) (by kernel_rfl) (A8 _ _) ⟨H0.out.hb,KL.out⟩ ?_;simp only[Tz,lexL,Tl,Tm];generalize hll:f.loc.length=ll at *;have HLL:=Aa hll;clear hll;iterate 7 (refine Aw (by rfl) (by intro w' hS';obtain⟨hb,y0⟩:=hS';have y1:=hb.one HB.out.1;have y2:=hb.one HB.out.2;clear hb;go_simp;exact rfl) ?_;simp only[Act.put,Td,Th,Tg])
 generalize w.drew=w1 at HG H0 KL ⊢;refine Az (fun K hK=>?_);go_simp;refine HG.out.mono ?_;rintro e w3 ⟨rfl,c3,k3⟩;have H3:=Aa c3;have K3:=Aa (k3.trans KL.out);refine hK.out _ _ ⟨c3.hb,K3.out⟩ ?_;clear hK K c3 k3 HG H0;refine Az (fun K hK=>?_);go_simp;refine hK.out _ _ ⟨H3.out.hb,K3.out⟩ ?_;clear hK K;obtain⟨lb2,lcap2,k0,k1,k2,f1',f2,_⟩:=H3.out.loc rfl (i:=i) (by show i<f.loc.length;rw[HLL.out];exact HI.out);rw[HF.out] at k0;have e1:=k0.symm.trans K3.out;have e2:lb2=lb:=by
  injection e1 with e1;injection e1 with e1;injection e1 with e1;injection e1 with e1
 subst e2;have H4:=Aa (H3.out.locset rfl (i:=i) (lb:=lb2) (lcap:=lcap) (by show i<f.loc.length;rw[HLL.out];exact HI.out) (by rw[HF.out];show _=some (Value.slice _ f.loc.length lcap);rw[HLL.out];exact K3.out) v);clear e1 k0;refine Az (fun K hK=>?_);go_simp;refine hK.out _ _ ⟨H4.out.hb,?_⟩ ?_
 ·rw[To _ _ _ _ kne,To _ _ _ _ kne];exact K3.out
 clear hK K;refine AF ?_;go_wp2;go_end0;exact C9.ok HX.out H4.out
theorem O1{w0 w:World}{B mb:Nat}{A0:Af}{s:Mc}{en:Int}{l:Bxs}(h:Ap w0 B mb A0 s en l w){f:Fr}{rest:List Fr}(hs:s.fr=f::rest)(a:Int)(o o1 o2:An)(vo vt:Value)(b tb:Nat)(hb:(b,#[vo],224)∈l)(htb:(tb,#[vt],230)∈l)(hv:BZ l o vo)(ht:Dp l o1 o2 vt)(ho:Dh f.loc [o,o1,o2] f.stk)(hn:f.stk.length<=60)
  (hk:(o2.get f.loc (o1.get f.loc (o.get f.loc f.stk).2).2).1.k=2->0<=(o2.get f.loc (o1.get f.loc (o.get f.loc f.stk).2).2).1.n/\(o2.get f.loc (o1.get f.loc (o.get f.loc f.stk).2).2).1.n<s.arr.length) :
  Calls prog 191 #[ptr mb,ptr (A0.FB rest.length),ptr b,ptr tb] w (C9 w0 B mb A0 s en l rest (Ak 17 a {f with stk:=(Aq f.loc [o,o1,o2] f.stk).1++(Aq f.loc [o,o1,o2] f.stk).2} s.arr s.out)):=by
 have hx:Ak 17 a {f with stk:=(Aq f.loc [o,o1,o2] f.stk).1++(Aq f.loc [o,o1,o2] f.stk).2} s.arr s.out=if AS s.arr (o2.get f.loc (o1.get f.loc (o.get f.loc f.stk).2).2).1 (o1.get f.loc (o.get f.loc f.stk).2).1=0 then ({f with stk:=(o2.get f.loc (o1.get f.loc (o.get f.loc f.stk).2).2).2},s.arr.set (o2.get f.loc (o1.get f.loc (o.get f.loc f.stk).2).2).1.n.toNat ((s.arr.getD (o2.get f.loc (o1.get f.loc (o.get f.loc f.stk).2).2).1.n.toNat []).set (o1.get f.loc (o.get f.loc f.stk).2).1.n.toNat (o.get f.loc f.stk).1),s.out,0) else ({f with stk:=(o2.get f.loc (o1.get f.loc (o.get f.loc f.stk).2).2).2},s.arr,s.out,AS s.arr (o2.get f.loc (o1.get f.loc (o.get f.loc f.stk).2).2).1 (o1.get f.loc (o.get f.loc f.stk).2).1):=by
  simp[Aq,Ak]
 have HX:=Aa hx;generalize Ak 17 a {f with stk:=(Aq f.loc [o,o1,o2] f.stk).1++(Aq f.loc [o,o1,o2] f.stk).2} s.arr s.out=xx at *;obtain⟨g1,c1,e1,f1⟩:=hv.fn;subst e1;obtain⟨g2,c2,e2,f2⟩:=ht.fn;subst e2;have HG:=Aa (h.get hs hv ho.1 hn);have HT:=Aa (Tc ht (Tc ho.2 (Nat.le_trans (EA o f.loc f.stk) hn)));have d1:=h.hb.one hb;have HB:=Aa htb;unfold Di at HG;have HTE:=Aa (show ∀ (l':Bxs) e w',FT w0 B mb A0 {s with fr:={f with stk:=(o.get f.loc f.stk).2}::rest} en l' {f with stk:=(o.get f.loc f.stk).2} rest o1 o2 e w'->e=.returned (.tuple #[.agg #[.int .i64 (o2.get f.loc (o1.get f.loc (o.get f.loc f.stk).2).2).1.k,.int .i64 (o2.get f.loc (o1.get f.loc (o.get f.loc f.stk).2).2).1.n],.agg #[.int .i64 (o1.get f.loc (o.get f.loc f.stk).2).1.k,.int .i64 (o1.get f.loc (o.get f.loc f.stk).2).1.n]])/\Ap w0 B mb A0 {s with fr:={f with stk:=(o2.get f.loc (o1.get f.loc (o.get f.loc f.stk).2).2).2}::rest} en l' w' from fun l' e w' h=>h);generalize (o.get f.loc f.stk).1=v at *;generalize (o.get f.loc f.stk).2=st at *;generalize (o1.get f.loc st).1=i at *;generalize (o2.get f.loc (o1.get f.loc st).2).1=av at *;generalize (o2.get f.loc (o1.get f.loc st).2).2=st2 at *;have HK:=Aa hk;generalize hfb:A0.FB rest.length=fb at *;have HF:=Aa hfb;clear hfb hx hn ho h hv ht hb htb hk;go_enter func191,ntmps191
 go_wp2_with fail
 refine HG.out.mono ?_;rintro e w1 ⟨rfl,c1',_⟩;have H1:=Aa (c1'.box #[.int .i64 v.k,.int .i64 v.n] 43);clear c1' HG d1;go_wp2_with fail
 generalize w1.alloc (.cells #[.int .i64 v.k,.int .i64 v.n] 43)=W1 at *;have H3:=Aa H1.out.drew;clear H1;refine AG (Hb ((w1.heap.size,#[Value.int .i64 v.k,Value.int .i64 v.n],43)::l)) [(false,0),(false,1),(false,2),(false,7),(true,3),(false,4),(false,5),(true,6),(true,8),(true,9)] (by kernel_rfl) (by kernel_rfl) (A8 _ _) H3.out.hb ?_;simp only[lexL,Tl,Tm];iterate 4 (refine Aw (by rfl) (by intro w' hS';obtain⟨y0,z0,_,_⟩:=hS'.two Ti;have y1:=hS'.one (Tf _ HB.out);clear hS';go_simp;exact rfl) ?_;simp only[Act.put,Td,Th,Tg])
 generalize W1.drew=w3 at H3 ⊢;refine Az (fun K hK=>?_);go_simp;have hp:=H3.out.getTwo (f:={f with stk:=st}) (rest:=rest) rfl (HT.out.1.mono (fun t ht=>Tf _ ht)) HT.out.2.1 HT.out.2.2;rw[HF.out] at hp;refine hp.mono ?_;rintro e w4 h4;obtain⟨rfl,c4⟩:=HTE.out _ e w4 h4;have H4:=Aa c4;refine hK.out _ _ c4.hb ?_;clear hK K c4 h4 hp H3 HTE HT;iterate 2 (refine Aw (by rfl) (by intro w' hS';clear hS';go_simp;exact rfl) ?_;simp only[Act.put,Td,Th,Tg])
 refine Az (fun K hK=>?_);go_simp;refine(H4.out.cell av i HK.out).mono ?_;rintro e w5 ⟨⟨hw,bb,oo,rfl,k0,k1,f0,f1',kc⟩|⟨hw,rfl⟩,c5⟩
 ·have H5:=Aa c5;have H6:=Aa (kc v);have HX2:=Aa (HX.out.trans (if_pos hw));generalize (s.arr.getD av.n.toNat []).getD i.n.toNat As=x at *;refine hK.out _ _ c5.hb ?_;clear hK K c5 H4 hw kc;refine Az (fun K hK=>?_);go_simp;refine hK.out _ _ H5.out.hb ?_;clear hK K;refine Az (fun K hK=>?_);go_simp;refine hK.out _ _ H6.out.hb ?_;clear hK K;refine AF ?_;go_wp2;go_end0;exact C9.ok HX2.out (H6.out.drop (fun t ht=>Tf _ ht))
 ·have hx2:=HX.out.trans (if_neg hw);have hw':xx.2.2.2≠0:=by rw[hx2];exact hw
  have ht:=C9.trap (w0:=w0) (B:=B) (mb:=mb) (A0:=A0) (s:=s) (en:=en) (l:=l) (rest:=rest) (w':=w5) hw' (by rw[hx2];exact c5.drop (fun t ht=>Tf _ ht));rw[hx2] at ht;refine⟨rfl,?_⟩;rw[hx2];exact ht
def CJ(w:World)(B mb m:Nat)(F:Nat->PF)(MV:Nat->Value)(A:Af)(k:Nat)(s':Mc)(en:Int)(e:Ending)(w':World):Prop :=
 ((3<=s'.fin/\e=BT s'.fin)\/(s'.fin<3/\e=.returned (.tuple #[])))/\AQ w B mb m F MV (k+1) A s' en w'/\w'.cell? ⟨A.FB k,4,none⟩=some (A.g.CV k)
section
variable {w w':World}{B mb m k0:Nat}{F:Nat->PF}{MV:Nat->Value}{A:Af}{en:Int}{s:Mc}{L:Bxs}
theorem AH.cur(hM:AH w B mb m F MV A s en)(hL:Bx w A.tag L):Ap w B mb A s en L w:=⟨hM.le,A,hM.lay,rfl,Ch.refl _ _ _ _,hL⟩
theorem AH.of_cur{s':Mc}(hM:AH w B mb m F MV A s en)(h:Ap w B mb A s' en L w')(hs:Hs s s'):∃ A':Af,AH w' B mb m F MV A' s' en/\A'.g=A.g/\Ch B N5 A.tag A'.tag w w'/\Bx w' A'.tag L:=by
 obtain⟨_,A',h1,h2,h3,h4⟩:=h;exact⟨A',hM.same h1 h2 h3 hs,h2,h3,h4⟩
theorem AQ.code{s':Mc}{k:Nat}(h:AQ w B mb m F MV (k+1) A s' en w')(hk:k<s'.fr.length):w'.cell? ⟨A.FB k,4,none⟩=some (A.g.CV k):=by
 obtain⟨A1,m1,s1,c1,f1,v1⟩:=h;have e1:=f1 k hk (by omega);have e2:=(v1 k hk).1 (by omega);obtain⟨g1,_,_⟩:=m1.lay.fb k hk;rw[e1,e2] at g1;exact(Ab g1).trans rfl
theorem CJ.ins(hM:AH w B mb m F MV A s en)(hs:s.fr=s.f::s.r){x:Fr × List (List V) × List V × Int}(hx:x.2.2.2=0\/3<=x.2.2.2){e:Ending}(h:C9 w B mb A s en L s.r x e w') :
  CJ w B mb m F MV A s.r.length {s with fr:=x.1::s.r,arr:=x.2.1,out:=x.2.2.1,fin:=x.2.2.2} en e w':=by
 obtain⟨h1,h2⟩:=h;have hlen:s.fr.length=s.r.length+1:=by rw[hs];rfl
 have hg:=hM.aft h2.done (s':={s with fr:=x.1::s.r,arr:=x.2.1,out:=x.2.2.1}) ⟨by rw[hlen];rfl,rfl,rfl,rfl,rfl,rfl⟩;rw[hlen] at hg;have hg2:AQ w B mb m F MV (s.r.length+1) A {s with fr:=x.1::s.r,arr:=x.2.1,out:=x.2.2.1,fin:=x.2.2.2} en w':=hg.like rfl rfl rfl rfl rfl rfl rfl rfl rfl rfl;refine⟨?_,hg2,hg2.code (by show s.r.length<s.r.length+1;omega)⟩;rcases h1 with⟨a,b⟩|⟨a,b⟩
 ·exact Or.inr ⟨by show x.2.2.2<3;omega,b⟩
 ·exact Or.inl ⟨by show 3<=x.2.2.2;omega,b⟩
theorem P5(hM:AH w B mb m F MV A s en)(hL:Bx w A.tag L)(hb:Cr m k0 s)(n:Nat)(hn:n<=64)(b:Nat)(hm:(b,#[.int .i64 n],3)∈L) :
  Calls prog 178 #[ptr mb,ptr (A.FB k0),ptr b] w (CJ w B mb m F MV A k0 (AR F (.pass n) s) en):=by
 have hlen:s.r.length=k0:=hb.len;have hp:=hM.pass hb.fr (by have:=hb.steps;omega) (by have:=hb.cH;omega) (by have:=hb.pc;omega) n (by omega);rw[if_pos hb.high,hlen] at hp;have hfl:s.fr.length=k0+1:=by rw[hb.fr,Tn,hlen]
 have HP:=Aa hp;have d1:=(hM.cur hL).hb.one hm;have hfin:=hb.fin;have HQ:=Aa (show ∀ w',AQ w B mb m F MV s.fr.length A {s with steps:=s.steps+n,cH:=s.cH+n,fr:={s.f with pc:=s.f.pc+n}::s.r} en w'->CJ w B mb m F MV A k0 (AR F (.pass n) s) en (.returned (.tuple #[])) w' from fun w' hg=>by
  rw[hfl] at hg;exact⟨Or.inr ⟨by show s.fin<3;omega,rfl⟩,hg,hg.code (by show k0<s.r.length+1;omega)⟩)
 generalize AR F (.pass n) s=s' at *;generalize A.FB k0=fb at *;clear hp hM hL hb hm;go_enter func178,ntmps178
 go_wp2_with fail
 refine HP.out.mono ?_;rintro e w1 ⟨rfl,g1⟩;have HR:=Aa (HQ.out w1 g1);clear g1 HP HQ;go_wp2;go_end0;exact HR.out
theorem Rd(hM:AH w B mb m F MV A s en)(hL:Bx w A.tag L)(hb:Cr m k0 s)(to b:Nat)(hm:(b,#[.int .i64 to],3)∈L) :
  Calls prog 160 #[ptr mb,ptr (A.FB k0),ptr b] w (CJ w B mb m F MV A k0 (AR F (.jump to) s) en):=by
 have hlen:s.r.length=k0:=hb.len;have hg:=hM.goto hb.fr to;obtain⟨_,_,u3,u4,_⟩:=hM.top hb.fr;have hfl:s.fr.length=k0+1:=by rw[hb.fr,Tn,hlen]
 rw[hlen] at hg u3 u4;rw[hfl] at hg;have d1:=(hM.cur hL).hb.one hm;have hfin:=hb.fin;have HQ:=Aa (show CJ w B mb m F MV A k0 (AR F (.jump to) s) en (.returned (.tuple #[])) (w.setCell ⟨A.FB k0,1,none⟩ (.int .i64 to)) from ⟨Or.inr ⟨by show s.fin<3;omega,rfl⟩,hg,hg.code (by show k0<s.r.length+1;omega)⟩);generalize AR F (.jump to) s=s' at *;generalize A.FB k0=fb at *;clear hg hM hL hb hm;go_enter func160,ntmps160
 go_wp2;go_end0;exact HQ.out
theorem MZ(hM:AH w B mb m F MV A s en)(fb:Nat)(cv:Value)(hc:w.cell? ⟨fb,4,none⟩=some cv)(hcv:CT cv true)(hne:¬fb=mb)(h1:s.steps<=100000)(h2:s.cH<=100000) :
  Calls prog 165 #[ptr mb,ptr fb] w (fun e w'=>e=.returned (.tuple #[])/\AQ w B mb m F MV s.fr.length A (AR F .one s) en w'/\w'.cell? ⟨fb,4,none⟩=some cv):=by
 have hp:=hM.count fb cv true hc hcv hne (by omega) (by omega) 1 (by omega);have HP:=Aa hp;clear hp hM;go_enter func165,ntmps165
 go_wp2_with fail
 refine HP.out.mono ?_;rintro e w1 ⟨rfl,hw,g1⟩;have h4:w1.cell? ⟨fb,4,none⟩=some cv:=by
  rw[hw];unfold Eo;rw[if_pos rfl,To _ _ _ _ (by show ¬mb=fb;exact fun e=>hne e.symm),To _ _ _ _ (by show ¬mb=fb;exact fun e=>hne e.symm)];exact hc
 clear hw;have HR:=Aa (Tc (show AQ w B mb m F MV s.fr.length A (AR F .one s) en w1 from g1) h4);clear g1 HP h4;go_wp2;go_end0;exact⟨rfl,HR.out⟩
theorem Sm(hM:AH w B mb m F MV A s en)(hL:Bx w A.tag L)(hb:Cr m k0 s)(o:An)(vo:Value)(to b tb:Nat)(hm:(b,#[vo],224)∈L)(ht:(tb,#[.int .i64 to],3)∈L)(hv:BZ L o vo)(ho:DA s.f.loc.length s.f.stk o)(h0:(o.get s.f.loc s.f.stk).1.k=0->(o.get s.f.loc s.f.stk).1.n=0) :
  Calls prog 162 #[ptr mb,ptr (A.FB k0),ptr b,ptr tb] w (CJ w B mb m F MV A k0 (AR F (.branch o to) s) en):=by
 have hlen:s.r.length=k0:=hb.len;have hfl:s.fr.length=k0+1:=by rw[hb.fr,Tn,hlen]
 obtain⟨g1,c1,e1,f1⟩:=hv.fn;subst e1;have hcur:=(hM.cur hL).drew;have HG:=Aa (hcur.get hb.fr hv ho (by have:=hb.stk;omega));have H0:=Aa hcur;have HB:=Aa (Tc hm ht);have hfin:=hb.fin;have HQ:=Aa (show ∀ w',AQ w B mb m F MV (k0+1) A {s with fr:={s.f with stk:=(o.get s.f.loc s.f.stk).2,pc:=if Ce (o.get s.f.loc s.f.stk).1=true then to else s.f.pc+1}::s.r} en w'->CJ w B mb m F MV A k0 (AR F (.branch o to) s) en (.returned (.tuple #[])) w' from fun w' hg=>⟨Or.inr ⟨by show s.fin<3;omega,rfl⟩,hg,hg.code (by show k0<s.r.length+1;omega)⟩);generalize AR F (.branch o to) s=s' at *;have HM:=Aa (Tc hM (Tc hb (Tc hlen hfl)));unfold Di at HG;generalize (o.get s.f.loc s.f.stk).1=v at *;generalize (o.get s.f.loc s.f.stk).2=st at *;rw[hlen] at HG;generalize hfb:A.FB k0=fb at *;have HF:=Aa hfb;have HV0:=Aa h0;clear hfb hM hL hb hm ht hv ho hcur h0 hlen hfl;go_enter func162,ntmps162
 go_wp2_with fail
 refine AG (Hb L) [(false,0),(false,1),(false,2),(false,4),(true,3),(true,5)] (by kernel_rfl) (by kernel_rfl) (A8 _ _) H0.out.hb ?_;simp only[lexL,Tl,Tm];iterate 4 (refine Aw (by rfl) (by intro w' hS';have y0:=hS'.one HB.out.1;have y1:=hS'.one HB.out.2;clear hS';go_simp;exact rfl) ?_;simp only[Act.put,Td,Th,Tg])
 generalize w.drew=w1 at HG H0 ⊢;refine Az (fun K hK=>?_);go_simp;refine HG.out.mono ?_;rintro e w2 ⟨rfl,c2,_⟩;obtain⟨A2,m2,g2,ch2,b2⟩:=HM.out.1.of_cur c2 ⟨by show s.r.length+1=_;rw[HM.out.2.2.1,HM.out.2.2.2],rfl,rfl,rfl,rfl,rfl⟩;have H2:=Aa (Tc m2 (Tc g2 (Tc ch2 b2)));refine hK.out _ _ c2.hb ?_;clear hK K c2 m2 g2 ch2 b2 HG H0;refine Az (fun K hK=>?_);go_simp;have hbr:=H2.out.1.branch (f:={s.f with stk:=st}) (rest:=s.r) rfl v HV0.out to (by have:=HM.out.2.1.pc;show s.f.pc<=1000;omega);have hfb2:A2.FB s.r.length=fb:=(Dc H2.out.2.1 _).trans (by rw[HM.out.2.2.1];exact HF.out);rw[hfb2] at hbr;refine hbr.mono ?_;rintro e w3 ⟨rfl,g3,_⟩;have hg:AQ w B mb m F MV (s.r.length+1) A {s with fr:={s.f with stk:=st,pc:=if Ce v=true then to else s.f.pc+1}::s.r} en w3:=AQ.on H2.out.2.1 H2.out.2.2.1 g3;rw[HM.out.2.2.1] at hg;have HR:=Aa (HQ.out w3 hg);obtain⟨A3,_,_,c3,_⟩:=g3;refine hK.out _ _ (fun t ht=>(H2.out.2.2.2.keep c3 Db t ht).1) ?_;clear hK K hbr hg c3 hfb2;refine AF ?_;go_wp2;go_end0;exact HR.out
theorem Na(hM:AH w B mb m F MV A s en)(hL:Bx w A.tag L)(hb:Cr m k0 s)(o:An)(vo:Value)(b:Nat)(hm:(b,#[vo],224)∈L)(hv:BZ L o vo)(ho:DA s.f.loc.length s.f.stk o) :
  Calls prog 164 #[ptr mb,ptr (A.FB k0),ptr b] w (CJ w B mb m F MV A k0 (AR F (.ret o) s) en):=by
 have hlen:s.r.length=k0:=hb.len;have hfl:s.fr.length=k0+1:=by rw[hb.fr,Tn,hlen]
 obtain⟨g1,c1,e1,f1⟩:=hv.fn;subst e1;have HG:=Aa ((hM.cur hL).get hb.fr hv ho (by have:=hb.stk;omega));have d1:=(hM.cur hL).hb.one hm;have hrp:AR F (.ret o) s=AT {s.f with stk:=(o.get s.f.loc s.f.stk).1::(o.get s.f.loc s.f.stk).2} s.r s:=rfl;have HS:=Aa hrp;generalize AR F (.ret o) s=s' at *;have HM:=Aa (Tc hM (Tc hb (Tc hlen hfl)));unfold Di at HG;generalize (o.get s.f.loc s.f.stk).1=v at *;generalize (o.get s.f.loc s.f.stk).2=st at *;rw[hlen] at HG;generalize hfb:A.FB k0=fb at *;have HF:=Aa hfb;clear hfb hM hL hm hv ho hrp hlen hfl;have hrest:=hb.rest;have hk0:=hb.k0;have hfin:=hb.fin;clear hb;go_enter func164,ntmps164
 go_wp2_with fail
 refine HG.out.mono ?_;rintro e w2 ⟨rfl,c2,_⟩;obtain⟨A2,m2,g2,ch2,b2⟩:=HM.out.1.of_cur c2 ⟨by show s.r.length+1=_;rw[HM.out.2.2.1,HM.out.2.2.2],rfl,rfl,rfl,rfl,rfl⟩;have hfb2:A2.FB s.r.length=fb:=(Dc g2 _).trans (by rw[HM.out.2.2.1];exact HF.out);have h4:=(m2.top rfl).1;rw[hfb2,g2,HM.out.2.2.1] at h4;have H2:=Aa (Tc m2 (Tc g2 (Tc ch2 h4)));have HF2:=Aa hfb2;clear c2 m2 g2 ch2 b2 HG d1 h4 hfb2;have hl:=HM.out.2.2.1;cases hr:s.r with
 |nil =>
  have hk:k0=0:=by rw[hr] at hl;exact hl.symm
  have e1:s'={s with fr:=[],high:=s.high.drop 1,gives:=v,fin:=1}:=by rw[HS.out,hr];simp[AT]
  have m2:=H2.out.1;rw[hr] at m2;have HGB:=Aa (Lu w2 B mb m F MV A2 _ en {s.f with stk:=st} v m2 rfl);clear m2;go_wp2_with fail
  refine HGB.out.mono ?_;rintro e w3 ⟨rfl,g3,k3⟩;have hg:=AQ.on H2.out.2.1 H2.out.2.2.1 g3;have k4:w3.cell? ⟨fb,4,none⟩=some (A.g.CV k0):=by
   have e:=HF2.out;rw[hr] at e;simp only[List.length_nil] at e;rw[e] at k3;exact k3.trans H2.out.2.2.2
  have HR:=Aa (show CJ w B mb m F MV A k0 s' en (.returned (.tuple #[])) w3 from by
   subst hk;rw[e1];exact⟨Or.inr ⟨by show (1:Int)<3;decide,rfl⟩,hg.like rfl rfl rfl rfl rfl rfl rfl rfl rfl rfl,by rw[HF.out];exact k4⟩)
  clear g3 k3 k4 hg;go_wp2;go_end0;exact HR.out
 |cons g r =>
  have hk:k0=r.length+1:=by rw[hr] at hl;exact hl.symm
  have e1:s'={s with fr:={g with stk:=v::g.stk}::r,high:=s.high.drop 1}:=by rw[HS.out,hr];simp[AT]
  have m2:=H2.out.1;rw[hr] at m2;have HGB:=Aa (J5 w2 B mb m F MV A2 _ en {s.f with stk:=st} g r v m2 rfl (by have:=hrest g (by rw[hr];exact Ti);omega) (by omega));clear m2;go_wp2_with fail
  refine HGB.out.mono ?_;rintro e w3 ⟨rfl,g3,k3⟩;have hg:=AQ.on H2.out.2.1 H2.out.2.2.1 g3;have k4:w3.cell? ⟨fb,4,none⟩=some (A.g.CV k0):=by
   have e:=HF2.out;rw[hr] at e;simp only[Tn] at e;rw[e] at k3;exact k3.trans H2.out.2.2.2
  have HR:=Aa (show CJ w B mb m F MV A k0 s' en (.returned (.tuple #[])) w3 from by
   subst hk;rw[e1];exact⟨Or.inr ⟨by show s.fin<3;omega,rfl⟩,hg.like rfl rfl rfl rfl rfl rfl rfl rfl rfl rfl,by rw[HF.out];exact k4⟩)
  clear g3 k3 k4 hg;go_wp2;go_end0;exact HR.out
end
theorem N0{w:World}{B mb m k0:Nat}{F:Nat->PF}{MV:Nat->Value}{K:Nat->Nat->Bool}{H:Nat->Nat->Int}{A:Af}{s:Mc}{en:Int}{L:Bxs}(hM:AH w B mb m F MV A s en)(hL:Bx w A.tag L)(hF:AP m F K H)(hb:Cr m k0 s)(cnt b:Nat)(hcnt:cnt<=8)(hst:cnt+1<=s.f.stk.length)(hm:(b,#[.int .i64 cnt],3)∈L) :
  Calls prog 163 #[ptr mb,ptr (A.FB k0),ptr b] w (CJ w B mb m F MV A k0 (AR F (.call cnt) s) en):=by
 have hlen:s.r.length=k0:=hb.len;have hfl:s.fr.length=k0+1:=by rw[hb.fr,Tn,hlen]
 have hfun:∀ k,k<m->0<=(F k).locals/\(F k).locals<=8/\(F k).args<=(F k).locals:=fun k hk=>⟨(hF.fn k hk).locals.1,(hF.fn k hk).locals.2,(hF.fn k hk).args.2.1⟩
 cases hd:s.f.stk.drop cnt with
 |nil =>
  have:=congrArg List.length hd;simp at this;omega
 |cons g r =>
  have hg0:g∈s.f.stk:=List.mem_of_mem_drop (by rw[hd];exact Ti);have hlr:=congrArg List.length hd;simp only[List.length_drop,Tn] at hlr;have hst2:s.f.stk=s.f.stk.take cnt++g::r:=by rw[<-hd,List.take_append_drop]
  have h16:=hb.stk;have hcall:=KR w B mb m A s en F MV s.f s.r (s.f.stk.take cnt) r g cnt hM hb.fr hst2 (by rw[List.length_take];omega) hcnt (by omega) (hb.sok g hg0).2.1 hfun (by have:=hb.k0;omega) (by have:=hF.size;omega) hb.pc;rw[hlen] at hcall;have hcp:AR F (.call cnt) s=if g.k≠3\/(F g.n.toNat).args≠cnt then {s with fr:={s.f with stk:=r}::s.r,fin:=6} else if 24<=k0+1 then {s with fr:={s.f with stk:=r}::s.r,fin:=7} else {s with fr:={fn:=g.n.toNat,pc:=0,loc:=(s.f.stk.take cnt).reverse++List.replicate ((F g.n.toNat).locals.toNat-cnt) As,stk:=[]}::{s.f with pc:=s.f.pc+1,stk:=r}::s.r,high:=s.made g.n.toNat::s.high}:=by
   show AJ F cnt s.f s.r s=_;unfold AJ;rw[hd,hlen]
  have d1:=(hM.cur hL).hb.one hm;have HC:=Aa (Tc hcall hcp);generalize AR F (.call cnt) s=s' at *;generalize (s.f.stk.take cnt).reverse=xr at *;have hfin:=hb.fin;have HF':Hid (A.FB k0=A.FB k0):=rfl;clear hM hL hb hm hcall hcp hst2 hd hlr hg0 hst;generalize hfb:A.FB k0=fb at *;go_enter func163,ntmps163
  go_wp2_with fail
  refine HC.out.1.mono ?_;have hcp:=HC.out.2;rintro e w3 (⟨k1,rfl,g3⟩|⟨k1,k2,rfl,g3⟩|⟨k1,k2,rfl,g3⟩)
  ·have e1:=hcp.trans (if_pos k1);have g4:AQ w B mb m F MV (k0+1) A s' en w3:=by rw[e1];exact g3.like rfl rfl rfl rfl rfl rfl rfl rfl rfl rfl
   have c4:=g4.code (by rw[e1];show k0<s.r.length+1;omega);refine⟨rfl,Or.inl ⟨by rw[e1];show (3:Int)<=6;decide,by rw[e1];rfl⟩,g4,c4⟩
  ·have e1:=hcp.trans ((if_neg k1).trans (if_pos k2));have g4:AQ w B mb m F MV (k0+1) A s' en w3:=by rw[e1];exact g3.like rfl rfl rfl rfl rfl rfl rfl rfl rfl rfl
   have c4:=g4.code (by rw[e1];show k0<s.r.length+1;omega);refine⟨rfl,Or.inl ⟨by rw[e1];show (3:Int)<=7;decide,by rw[e1];rfl⟩,g4,c4⟩
  ·have e1:=hcp.trans ((if_neg k1).trans (if_neg k2));have g4:AQ w B mb m F MV (k0+1) A s' en w3:=by rw[e1];exact g3.like rfl rfl rfl rfl rfl rfl rfl rfl rfl rfl
   have c4:=g4.code (by rw[e1];show k0<s.r.length+1+1;omega);have HQ:=Aa (show CJ w B mb m F MV A k0 s' en (.returned (.tuple #[])) w3 from ⟨Or.inr ⟨by rw[e1];show s.fin<3;omega,rfl⟩,g4,c4⟩);clear g3 g4 c4 k1 k2 e1 hcp;go_wp2;go_end0;exact HQ.out
def GA(l:Bxs)(ws:List An)(arr:Array Value):Prop:=∀ i,i<ws.length->∃ vo,arr[i]?=some vo/\BZ l (ws.getD i .pop) vo
theorem GA.mono{l l':Bxs}{ws:List An}{arr:Array Value}(h:GA l ws arr)(hl:∀ t,t∈l->t∈l'):GA l' ws arr:=fun i hi=>by
 obtain⟨vo,h1,h2⟩:=h i hi;exact⟨vo,h1,h2.mono hl⟩
theorem Pa(l:List V)(ws:List An)(st:List V){j:Nat}(hj:j<ws.length):((ws.take (j+1)).map (An.val l)).reverse++st=(ws.getD j .pop).val l::(((ws.take j).map (An.val l)).reverse++st):=by
 have e:ws.take (j+1)=ws.take j++[ws.getD j .pop]:=by
  rw[List.take_add_one,List.getElem?_eq_getElem hj,Tj,List.getElem?_eq_getElem hj];rfl
 rw[e,List.map_append,List.reverse_append];rfl
def K4(w0:World)(B mb:Nat)(A0:Af)(s':Mc)(en:Int)(l:Bxs)(e:Ending)(w':World):Prop:=e=.returned (.tuple #[])/\Ap w0 B mb A0 s' en l w'
theorem Ot{w0 w:World}{B mb:Nat}{A0:Af}{s:Mc}{en:Int}{l:Bxs}(h:Ap w0 B mb A0 s en l w){f:Fr}{rest:List Fr}(hs:s.fr=f::rest)(ws:List An)(hw:∀ o,o∈ws->Du f.loc.length o)(b wb cap:Nat)(arr:Array Value)(hb:(b,#[.slice (some ⟨wb,0,none⟩) ws.length cap],217)∈l)(hwb:(wb,arr,224)∈l)(hv:GA l ws arr)(hn:f.stk.length+ws.length<=60) :
  Calls prog 192 #[ptr mb,ptr (A0.FB rest.length),ptr b] w (K4 w0 B mb A0 {s with fr:={f with stk:=(ws.map (An.val f.loc)).reverse++f.stk}::rest} en l):=by
 have d1:=h.hb.one hb;have HC:=Aa h;have HB:=Aa (Tc hb hwb);have HV:=Aa hv;have HW:=Aa hw;have hl60:ws.length<=60:=by omega
 generalize hfb:A0.FB rest.length=fb at *;have HF:=Aa hfb;clear h hb hwb hv hw hfb;have HSF:=Aa (show ({s with fr:={f with stk:=((ws.take ws.length).map (An.val f.loc)).reverse++f.stk}::rest}:Mc)={s with fr:={f with stk:=(ws.map (An.val f.loc)).reverse++f.stk}::rest} from by rw[List.take_length]);generalize ({s with fr:={f with stk:=(ws.map (An.val f.loc)).reverse++f.stk}::rest}:Mc)=s' at *;generalize hws:ws.length=wn at *;have HWN:=Aa hws;clear hws;go_enter func192,ntmps192
 go_wp2;go_loopw [9] (fun v wr=>∃ j:Nat,j<=wn/\v=.int .i64 j/\Ap w0 B mb A0 {s with fr:={f with stk:=((ws.take j).map (An.val f.loc)).reverse++f.stk}::rest} en l wr) (fun v _=>wn-(intOf v).toNat)
 case atStart =>
  refine⟨0,by omega,rfl,?_⟩;have e:({s with fr:={f with stk:=((ws.take 0).map (An.val f.loc)).reverse++f.stk}::rest}:Mc)=s:=Mc.same hs;rw[e];exact HC.out
 case round =>
  obtain⟨j,hj,rfl,cj⟩:=hrel;by_cases hlt:j<wn
  ·have hdec:decide ((j:Int)<(wn:Int))=true:=by simp;omega
   obtain⟨vo,ha,hvo⟩:=HV.out j (by rw[HWN.out];exact hlt);obtain⟨g1,c1,e1,f1⟩:=hvo.fn;subst e1;have y0:wr.cell? ⟨wb,j,none⟩=some (.func (.func g1) #[] c1):=(cj.hb.cell HB.out.2 j).trans ha;have hmem:ws.getD j .pop∈ws:=by
    have:j<ws.length:=by rw[HWN.out];exact hlt
    rw[Tj,List.getElem?_eq_getElem this];exact List.getElem_mem _
   have hwo:=HW.out _ hmem;obtain⟨gg,go⟩:=hwo.get (st:=((ws.take j).map (An.val f.loc)).reverse++f.stk);have hstl:(((ws.take j).map (An.val f.loc)).reverse++f.stk).length<=60:=by simp;omega
   have HG:=Aa (cj.drew.get (f:={f with stk:=((ws.take j).map (An.val f.loc)).reverse++f.stk}) (rest:=rest) rfl hvo go hstl);have HT:=Aa (Pa f.loc ws f.stk (j:=j) (by rw[HWN.out];exact hlt));have HS:=Aa hstl;have HGG:=Aa gg;have H0:=Aa cj.drew;rw[HF.out] at HG;have i0:(0:Int)<=(j:Int):=by omega
   have i1:(j:Int)<(wn:Int):=by omega
   unfold Di at HG;clear cj hvo hwo gg go hstl hmem ha HC;generalize ((ws.take j).map (An.val f.loc)).reverse++f.stk=stj at *;generalize ws.getD j .pop=o at *;go_wp2_with fail
   refine AG (Hb l) TB (by kernel_rfl) (by kernel_rfl) (fun c0 a0 d0 v0 x0 h0=>A8 (P:=prog) f192 (K4 w0 B mb A0 s' en l) c0 a0 d0 v0 x0 h0) H0.out.hb ?_;simp only[TB,lexL,Tl,Tm];iterate 5 (refine Aw (by rfl) (by intro w' hS';clear hS';go_simp;exact rfl) ?_;simp only[Act.put,Td,Th,Tg])
   generalize wr.drew=w1 at HG H0 ⊢;refine Az (fun K hK=>?_);go_simp;refine HG.out.mono ?_;rintro e w2 ⟨he,c2,_⟩;have he':e=.returned (.agg #[.int .i64 (o.val f.loc).k,.int .i64 (o.val f.loc).n]):=by rw[he,HGG.out]
   subst he';have c2':Ap w0 B mb A0 {s with fr:={f with stk:=stj}::rest} en l w2:=by rw[HGG.out] at c2;exact c2
   clear he c2;have H2:=Aa c2';refine hK.out _ _ c2'.hb ?_;clear hK K c2' HG H0 y0;refine Az (fun K hK=>?_);go_simp;have hp:=H2.out.push (f:={f with stk:=stj}) (rest:=rest) rfl (by show stj.length<=64;have:=HS.out;omega) (o.val f.loc);rw[HF.out] at hp;refine hp.mono ?_;rintro e w3 ⟨rfl,c3⟩;have HQ:=Aa (show Ap w0 B mb A0 {s with fr:={f with stk:=((ws.take (j+1)).map (An.val f.loc)).reverse++f.stk}::rest} en l w3 from by rw[HT.out];exact c3);refine hK.out _ _ c3.hb ?_;clear hK K c3 hp;refine AF ?_;go_wp2;exact⟨⟨j+1,by omega,by go_num,HQ.out⟩,by simp[intOf];omega⟩
  ·have hdec:decide ((j:Int)<(wn:Int))=false:=by simp;omega
   obtain rfl:j=wn:=by omega
   rw[HSF.out] at cj;have HQ:=Aa cj;clear cj;go_wp2;go_end0;exact⟨rfl,HQ.out⟩
end Go.Proofs.YtkafkipjedpohaaGreatDoor

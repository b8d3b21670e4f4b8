import Derived.Test.YtkafkipjedpohaaGreatDoorPureI
namespace Go.Proofs.YtkafkipjedpohaaGreatDoor
set_option maxRecDepth 100000
set_option maxHeartbeats 16000000
open Go.RowKit _root_.Go.Proofs.Tryz
def Dp(l:Bxs)(o1 o2:An)(v:Value):Prop :=
 ∃ rb lb vr vl,v=.func (.func 194) #[] #[ptr rb,ptr lb]/\(rb,#[vr],224)∈l/\(lb,#[vl],224)∈l/\BZ l o1 vr/\BZ l o2 vl
theorem Dp.mono{l l':Bxs}{o1 o2:An}{v:Value}(h:Dp l o1 o2 v)(hl:∀ t,t∈l->t∈l'):Dp l' o1 o2 v:=by
 obtain⟨rb,lb,vr,vl,h1,h2,h3,h4,h5⟩:=h;exact⟨rb,lb,vr,vl,h1,hl _ h2,hl _ h3,h4.mono hl,h5.mono hl⟩
theorem RJ(args:Array Value)(X:World):(callFunc 194 args).run prog X=.ok (.enter 194 args) X:=by go_simp
theorem Dp.fn{l:Bxs}{o1 o2:An}{v:Value}(h:Dp l o1 o2 v):∃ g cap,Gz v g cap:=by
 obtain⟨rb,lb,vr,vl,h1,_⟩:=h;exact⟨_,_,h1,RJ⟩
theorem Hb.one{l:Bxs}{w:World}(h:Hb l w){b:Nat}{c0:Value}{t:TypeId}(hm:(b,#[c0],t)∈l):w.cell? ⟨b,0,none⟩=some c0:=(h.cell hm 0).trans rfl
def FT(w0:World)(B mb:Nat)(A0:Af)(s:Mc)(en:Int)(l:Bxs)(f:Fr)(rest:List Fr)(o1 o2:An)(e:Ending)(w':World):Prop :=
 e=.returned (.tuple #[.agg #[.int .i64 (o2.get f.loc (o1.get f.loc f.stk).2).1.k,.int .i64 (o2.get f.loc (o1.get f.loc f.stk).2).1.n],.agg #[.int .i64 (o1.get f.loc f.stk).1.k,.int .i64 (o1.get f.loc f.stk).1.n]]) /\
  Ap w0 B mb A0 {s with fr:={f with stk:=(o2.get f.loc (o1.get f.loc f.stk).2).2}::rest} en l w'
theorem EA(o:An)(l st:List V):(o.get l st).2.length<=st.length:=by
 cases o with
 |pop=>simp[An.get]
 |con x=>exact Te _
 |loc i=>exact Te _
theorem Ap.getTwo{w0 w:World}{B mb:Nat}{A0:Af}{s:Mc}{en:Int}{l:Bxs}(h:Ap w0 B mb A0 s en l w){f:Fr}{rest:List Fr}(hs:s.fr=f::rest){o1 o2:An}{g:Nat}{cap:Array Value}(hv:Dp l o1 o2 (.func (.func g) #[] cap))(ho:Dh f.loc [o1,o2] f.stk)(hn:f.stk.length<=60) :
  Calls prog g (#[ptr (A0.FB rest.length)]++cap) w (FT w0 B mb A0 s en l f rest o1 o2):=by
 obtain⟨rb,lb,vr,vl,h1,h2,h3,h4,h5⟩:=hv;injection h1 with h1 _ h6;injection h1 with h1;subst h1 h6;show Calls prog 194 #[ptr (A0.FB rest.length),ptr rb,ptr lb] w _;obtain⟨g1,c1,e1,f1⟩:=h4.fn;obtain⟨g2,c2,e2,f2⟩:=h5.fn;subst e1 e2;have H0:=Aa (E7 h #[.int .i64 0,.int .i64 0] #[.int .i64 0,.int .i64 0] 43);have hm1:∀ t,t∈l->t∈(w.heap.size+1,#[Value.int .i64 0,Value.int .i64 0],43)::(w.heap.size,#[Value.int .i64 0,Value.int .i64 0],43)::l:=fun t ht=>Tf _ (Tf _ ht)
 have HG1:=Aa (H0.out.get hs (h4.mono hm1) ho.1 hn);have HO:=Aa (Tc h5 (Tc ho.2.1 (Nat.le_trans (EA o1 f.loc f.stk) hn)));have hle:=h.le.1;have HL:=Aa h.lt;have d1:=H0.out.hb.one (hm1 _ h2);have d2:=H0.out.hb.one (hm1 _ h3);have HM:=Aa (Tc h2 h3);unfold FT;generalize hx:(o1.get f.loc f.stk).1=x at *;generalize hst:(o1.get f.loc f.stk).2=st at *;generalize hy:(o2.get f.loc st).1=y at *;generalize hst2:(o2.get f.loc st).2=st2 at *;have HX:=Aa (Tc hx (Tc hst (Tc hy hst2)));have hrz:rb<w.heap.size:=h.lt _ h2;have hlz:lb<w.heap.size:=h.lt _ h3;generalize hfb:A0.FB rest.length=fb at *;have HF:=Aa hfb;clear hx hst hy hst2 hfb h4 h5 ho hn h h2 h3;go_enter func194,ntmps194
 go_wp2_with fail
 generalize (w.alloc (.cells #[.int .i64 0,.int .i64 0] 43)).alloc (.cells #[.int .i64 0,.int .i64 0] 43)=W at *;refine HG1.out.mono ?_;rintro e w1 ⟨he,c1',_⟩;rw[HX.out.1] at he;rw[HX.out.2.1] at c1';subst he;have hl1:∀ u,u∈(w.heap.size,#[Value.int .i64 0,Value.int .i64 0],43)::l->u.1≠w.heap.size+1:=fun u hu=>by
  rcases List.mem_cons.1 hu with rfl|hu
  ·show w.heap.size≠_;omega
  ·have:=HL.out u hu;omega
 have c2':=c1'.write0 (by omega) hl1 (.int .i64 x.k) (.int .i64 x.n);obtain⟨x0,x1,z0,z1⟩:=c1'.hb.two Ti;have d3:=c1'.hb.one (hm1 _ HM.out.2);have H2:=Aa c2';clear c1' c2' hl1 H0 HG1 d1 d2;go_wp2_with fail
 clear x0 x1 z0 z1 d3;generalize (w1.setCell ⟨w.heap.size+1,0,none⟩ (.int .i64 x.k)).setCell ⟨w.heap.size+1,1,none⟩ (.int .i64 x.n)=w2 at *;have hm2:∀ t,t∈l->t∈(w.heap.size+1,#[Value.int .i64 x.k,Value.int .i64 x.n],43)::(w.heap.size,#[Value.int .i64 0,Value.int .i64 0],43)::l:=fun t ht=>Tf _ (Tf _ ht)
 have hp:=H2.out.get (f:={f with stk:=st}) (rest:=rest) (o:=o2) rfl (HO.out.1.mono hm2) HO.out.2.1 HO.out.2.2;rw[HF.out] at hp;refine hp.mono ?_;rintro e w3 ⟨he,c3,_⟩;have he':e=.returned (.agg #[.int .i64 y.k,.int .i64 y.n]):=by rw[he,<-HX.out.2.2.1]
 subst he';clear he;have c3:Ap w0 B mb A0 {s with fr:={f with stk:=st2}::rest} en ((w.heap.size+1,#[Value.int .i64 x.k,Value.int .i64 x.n],43)::(w.heap.size,#[Value.int .i64 0,Value.int .i64 0],43)::l) w3:=by rw[<-HX.out.2.2.2];exact c3
 have hl2:∀ u,u∈[(w.heap.size+1,#[Value.int .i64 x.k,Value.int .i64 x.n],43)]++l->u.1≠w.heap.size:=fun u hu=>by
  rcases List.mem_cons.1 hu with rfl|hu
  ·show w.heap.size+1≠_;omega
  ·have:=HL.out u hu;omega
 have hl3:∀ u,u∈(w.heap.size,#[Value.int .i64 y.k,Value.int .i64 y.n],43)::l->u.1≠w.heap.size+1:=fun u hu=>by
  rcases List.mem_cons.1 hu with rfl|hu
  ·show w.heap.size≠_;omega
  ·have:=HL.out u hu;omega
 have c4:=c3.write1 (by omega) hl2 (.int .i64 y.k) (.int .i64 y.n);obtain⟨x0,x1,z0,z1⟩:=c3.hb.two (Tf _ Ti);have H4:=Aa c4;have HLL:=Aa (Tc hl2 hl3);clear c3 c4 hp H2 hl2 hl3 HO;go_wp2_with fail
 clear x0 x1 z0 z1;generalize (w3.setCell ⟨w.heap.size,0,none⟩ (.int .i64 y.k)).setCell ⟨w.heap.size,1,none⟩ (.int .i64 y.n)=w4 at *;have H5:=Aa H4.out.drew;refine AG (Hb ((w.heap.size+1,#[Value.int .i64 x.k,Value.int .i64 x.n],43)::(w.heap.size,#[Value.int .i64 y.k,Value.int .i64 y.n],43)::l)) [(false,0),(false,1),(true,2),(true,3)] (by kernel_rfl) (by kernel_rfl) (Co _ _ _) H5.out.hb ?_;simp only[lexL,Tl,Tm];iterate 2 (refine Aw (by rfl) (by intro w' hS';obtain⟨y0,y1,_,_⟩:=hS'.two Ti;obtain⟨u0,u1,_,_⟩:=hS'.two (Tf _ Ti);clear hS';go_simp;exact rfl) ?_;simp only[Act.put,Td,Th,Tg])
 generalize w4.drew=w5 at H5 ⊢;obtain⟨y0,y1,g0,g1'⟩:=H5.out.hb.two (Tf _ Ti);have H6:=Aa (H5.out.write1 (by omega) HLL.out.1 (.int .i64 y.k) (.int .i64 y.n));refine Az (fun K hK=>?_);go_simp;refine hK.out _ _ H6.out.hb ?_;clear hK K y0 y1 g0 g1';generalize (w5.setCell ⟨w.heap.size,0,none⟩ (.int .i64 y.k)).setCell ⟨w.heap.size,1,none⟩ (.int .i64 y.n)=w6 at *;obtain⟨y0,y1,g0,g1'⟩:=H6.out.hb.two Ti;have H7:=Aa (H6.out.write0 (by omega) HLL.out.2 (.int .i64 x.k) (.int .i64 x.n));refine Az (fun K hK=>?_);go_simp;refine hK.out _ _ H7.out.hb ?_;clear hK K y0 y1 g0 g1';generalize (w6.setCell ⟨w.heap.size+1,0,none⟩ (.int .i64 x.k)).setCell ⟨w.heap.size+1,1,none⟩ (.int .i64 x.n)=w7 at *;refine AF ?_;clear HL H4 H5 H6 HLL;go_wp2;obtain⟨y0,y1,g0,g1'⟩:=H7.out.hb.two Ti;obtain⟨u0,u1,v0,v1⟩:=H7.out.hb.two (Tf _ Ti);exact bodyPost_ret (v:=.tuple #[.agg #[.int .i64 y.k,.int .i64 y.n],.agg #[.int .i64 x.k,.int .i64 x.n]]) (by simp[results,Tryz.results194,go_sem,y0,y1,u0,u1]) rfl ⟨rfl,H7.out.drop (fun t ht=>Tf _ (Tf _ ht))⟩
def Dl(w0:World)(B mb:Nat)(A0:Af)(s:Mc)(en:Int)(l:Bxs)(f:Fr)(rest:List Fr)(x:Fr × List (List V) × List V × Int)(e:Ending)(w':World):Prop :=
 (∃ v st arr,x=({f with stk:=v::st},arr,s.out,0)/\st.length<=60/\e=.returned (.agg #[.int .i64 v.k,.int .i64 v.n])/\Ap w0 B mb A0 {s with fr:={f with stk:=st}::rest,arr:=arr} en l w') \/
 (x.2.2.2≠0/\e=BT x.2.2.2/\Ap w0 B mb A0 {s with fr:=x.1::rest,arr:=x.2.1,out:=x.2.2.1} en l w')
section
variable {f:Fr}{rest:List Fr}{w0 w:World}{B mb:Nat}{A0:Af}{en:Int}{l:Bxs}
theorem Dl.trap{s:Mc}{f':Fr}{x:Fr × List (List V) × List V × Int}{w':World}{t:Int}{arr:List (List V)}{out:List V}(hx:x=(f',arr,out,t))(ht:t≠0)(c:Ap w0 B mb A0 {s with fr:=f'::rest,arr:=arr,out:=out} en l w'):Dl w0 B mb A0 s en l f rest x (BT t) w':=by
 subst hx;exact Or.inr ⟨ht,rfl,c⟩
theorem Mc.same{s:Mc}(hs:s.fr=f::rest):({s with fr:=f::rest}:Mc)=s:=by
 obtain⟨fr,arr,out,gives,steps,fin,high,made,cH,cU,cD⟩:=s;simp only at hs;rw[hs]
theorem Nv{s:Mc}(h:Ap w0 B mb A0 s en l w)(hs:s.fr=f::rest)(a:Int)(v:V)(st:List V)(hst:f.stk=v::st)(hn:f.stk.length<=60) :
  Calls prog 184 #[ptr mb,ptr (A0.FB rest.length)] w (Dl w0 B mb A0 s en l f rest (Ak 21 a {f with stk:=(Aq f.loc [] f.stk).1++(Aq f.loc [] f.stk).2} s.arr s.out)):=by
 have hx:Ak 21 a {f with stk:=(Aq f.loc [] f.stk).1++(Aq f.loc [] f.stk).2} s.arr s.out=({f with stk:=v::f.stk},s.arr,s.out,0):=by simp[Aq,Ak,hst]
 have HX:=Aa hx;generalize Ak 21 a {f with stk:=(Aq f.loc [] f.stk).1++(Aq f.loc [] f.stk).2} s.arr s.out=xx at *;have H0:=Aa (h.box #[.int .i64 0,.int .i64 0] 43);have hlen:st.length<=64:=by rw[hst] at hn;simp at hn;omega
 have HP:=Aa (H0.out.top hs hst hlen);have hle:=h.le.1;have HB:=Aa h.boxfar;have HN:=Aa hn;have HS:=Aa (Mc.same (s:=s) (f:={f with stk:=f.stk}) (rest:=rest) hs);generalize hfb:A0.FB rest.length=fb at *;clear hfb hx hn hst hlen h;go_enter func184,ntmps184
 go_wp2_with fail
 generalize w.alloc (.cells #[.int .i64 0,.int .i64 0] 43)=W at *;refine HP.out.mono ?_;rintro e w1 ⟨rfl,c1⟩;obtain⟨x0,x1,z0,z1⟩:=c1.hb.two Ti;have c2:=c1.write0 hle HB.out (.int .i64 v.k) (.int .i64 v.n);rw[<-HS.out] at c2;have HW:=Aa c2;clear c1 c2 HP H0 HS;go_wp2;obtain⟨y0,y1,_,_⟩:=HW.out.hb.two Ti;exact bodyPost_ret (v:=.agg #[.int .i64 v.k,.int .i64 v.n]) (by simp[results,Tryz.results184,go_sem,y0,y1]) rfl (Or.inl ⟨v,_,_,HX.out,HN.out,rfl,HW.out.drop (fun t ht=>Tf _ ht)⟩)
theorem SQ{s:Mc}(h:Ap w0 B mb A0 s en l w)(hs:s.fr=f::rest)(a:Int)(o1 o2:An)(vt:Value)(b:Nat)(hb:(b,#[vt],230)∈l)(hv:Dp l o1 o2 vt)(ho:Dh f.loc [o1,o2] f.stk)(hn:f.stk.length<=60) :
  Calls prog 186 #[ptr mb,ptr (A0.FB rest.length),ptr b] w (Dl w0 B mb A0 s en l f rest (Ak 9 a {f with stk:=(Aq f.loc [o1,o2] f.stk).1++(Aq f.loc [o1,o2] f.stk).2} s.arr s.out)):=by
 have hx:Ak 9 a {f with stk:=(Aq f.loc [o1,o2] f.stk).1++(Aq f.loc [o1,o2] f.stk).2} s.arr s.out=({f with stk:=(AE 9 (o2.get f.loc (o1.get f.loc f.stk).2).1 (o1.get f.loc f.stk).1).1::(o2.get f.loc (o1.get f.loc f.stk).2).2},s.arr,s.out,0):=by
  simp[Aq,Ak,AE]
 generalize Ak 9 a {f with stk:=(Aq f.loc [o1,o2] f.stk).1++(Aq f.loc [o1,o2] f.stk).2} s.arr s.out=xx at *;obtain⟨g1,c1,e1,f1⟩:=hv.fn;subst e1;have H0:=Aa (h.box #[.int .i64 0,.int .i64 0] 43);have hm1:∀ t,t∈l->t∈(w.heap.size,#[Value.int .i64 0,Value.int .i64 0],43)::l:=fun t ht=>Tf _ ht
 have HG1:=Aa (H0.out.getTwo hs (hv.mono hm1) ho hn);have hle:=h.le.1;have HB:=Aa h.boxfar;have d1:=H0.out.hb.one (hm1 _ hb);have hbz:b<w.heap.size:=h.lt _ hb;have hnn:(o2.get f.loc (o1.get f.loc f.stk).2).2.length<=60:=by have h1:=EA o1 f.loc f.stk;have h2:=EA o2 f.loc (o1.get f.loc f.stk).2;omega
 have HN:=Aa hnn;clear hnn ho hv h;unfold FT at HG1;generalize hxx:(o1.get f.loc f.stk).1=x at *;generalize hyy:(o2.get f.loc (o1.get f.loc f.stk).2).1=y at *;generalize hst2:(o2.get f.loc (o1.get f.loc f.stk).2).2=st2 at *;have HX:=Aa hx;generalize hfb:A0.FB rest.length=fb at *;clear hfb hx hxx hyy hst2 hb hn;go_enter func186,ntmps186
 go_wp2_with fail
 generalize w.alloc (.cells #[.int .i64 0,.int .i64 0] 43)=W at *;refine HG1.out.mono ?_;rintro e w1 ⟨rfl,c1'⟩;have H1:=Aa c1';clear c1' HG1 H0 d1;go_wp2_with fail
 refine(Mi y x w1).mono ?_;rintro e w2 ⟨rfl,k2⟩;have c3:=H1.out.below k2;obtain⟨x0,x1,z0,z1⟩:=c3.hb.two Ti;have HW:=Aa (c3.write0 hle HB.out (.int .i64 (AE 9 y x).1.k) (.int .i64 (AE 9 y x).1.n));clear c3 k2 H1;generalize (AE 9 y x).1=v at *;go_wp2;obtain⟨y0,y1,_,_⟩:=HW.out.hb.two Ti;exact bodyPost_ret (v:=.agg #[.int .i64 v.k,.int .i64 v.n]) (by simp[results,Tryz.results186,go_sem,y0,y1]) rfl (Or.inl ⟨v,_,_,HX.out,HN.out,rfl,HW.out.drop (fun t ht=>Tf _ ht)⟩)
theorem OL{s:Mc}(h:Ap w0 B mb A0 s en l w)(hs:s.fr=f::rest)(a:Int)(o:An)(vo:Value)(b:Nat)(hb:(b,#[vo],224)∈l)(hv:BZ l o vo)(ho:DA f.loc.length f.stk o)(hn:f.stk.length<=60)(hk:(o.get f.loc f.stk).1.k=2->0<=(o.get f.loc f.stk).1.n/\(o.get f.loc f.stk).1.n<s.arr.length) :
  Calls prog 189 #[ptr mb,ptr (A0.FB rest.length),ptr b] w (Dl w0 B mb A0 s en l f rest (Ak 18 a {f with stk:=(Aq f.loc [o] f.stk).1++(Aq f.loc [o] f.stk).2} s.arr s.out)):=by
 have hx:Ak 18 a {f with stk:=(Aq f.loc [o] f.stk).1++(Aq f.loc [o] f.stk).2} s.arr s.out=if (o.get f.loc f.stk).1.k≠2 then ({f with stk:=(o.get f.loc f.stk).2},s.arr,s.out,3) else ({f with stk:=Bn ((s.arr.getD (o.get f.loc f.stk).1.n.toNat []).length:Int)::(o.get f.loc f.stk).2},s.arr,s.out,0):=by
  simp[Aq,Ak]
 generalize Ak 18 a {f with stk:=(Aq f.loc [o] f.stk).1++(Aq f.loc [o] f.stk).2} s.arr s.out=xx at *;obtain⟨g1,c1,e1,f1⟩:=hv.fn;subst e1;have H0:=Aa (h.box #[.int .i64 0,.int .i64 0] 43);have hm1:∀ t,t∈l->t∈(w.heap.size,#[Value.int .i64 0,Value.int .i64 0],43)::l:=fun t ht=>Tf _ ht
 have HG1:=Aa (H0.out.get hs (hv.mono hm1) ho hn);have hle:=h.le.1;have HB:=Aa h.boxfar;have d1:=H0.out.hb.one (hm1 _ hb);have hbz:b<w.heap.size:=h.lt _ hb;have hnn:(o.get f.loc f.stk).2.length<=60:=Nat.le_trans (EA o f.loc f.stk) hn;have HN:=Aa hnn;clear hnn ho hv h;unfold Di at HG1;generalize hxx:(o.get f.loc f.stk).1=x at *;generalize hst2:(o.get f.loc f.stk).2=st2 at *;have HX':=Aa hx;have HK:=Aa hk;generalize hfb:A0.FB rest.length=fb at *;clear hfb hx hxx hst2 hb hn hk;go_enter func189,ntmps189
 go_wp2_with fail
 generalize w.alloc (.cells #[.int .i64 0,.int .i64 0] 43)=W at *;refine HG1.out.mono ?_;rintro e w1 ⟨rfl,c1',_⟩;have H1:=Aa c1';clear c1' HG1 H0 d1;go_wp2_with fail
 refine(H1.out.length x HK.out).mono ?_;rintro e w2 ⟨⟨hk2,he⟩|⟨hk2,rfl⟩,c3⟩
 ·have HX:=Aa (HX'.out.trans (if_neg (by omega)));have he':e=.returned (.agg #[.int .i64 (Bn ((s.arr.getD x.n.toNat []).length:Int)).k,.int .i64 (Bn ((s.arr.getD x.n.toNat []).length:Int)).n]):=he;clear he;generalize Bn ((s.arr.getD x.n.toNat []).length:Int)=v at *;subst he';obtain⟨x0,x1,z0,z1⟩:=c3.hb.two Ti;have HW:=Aa (c3.write0 hle HB.out (.int .i64 v.k) (.int .i64 v.n));clear c3 H1 HK HX';go_wp2;obtain⟨y0,y1,_,_⟩:=HW.out.hb.two Ti;exact bodyPost_ret (v:=.agg #[.int .i64 v.k,.int .i64 v.n]) (by simp[results,Tryz.results189,go_sem,y0,y1]) rfl (Or.inl ⟨v,_,_,HX.out,HN.out,rfl,HW.out.drop (fun t ht=>Tf _ ht)⟩)
 ·have hx2:=HX'.out.trans (if_pos hk2);exact⟨rfl,Dl.trap hx2 (by decide) (c3.drop (fun t ht=>Tf _ ht))⟩
theorem NF{s:Mc}(h:Ap w0 B mb A0 s en l w)(hs:s.fr=f::rest)(a:Int)(op:Int)(hop:op=4\/op=5\/op=6\/op=7\/op=8)(o1 o2:An)(vt:Value)(b:Nat)(hb:(b,#[vt],230)∈l)(hv:Dp l o1 o2 vt)(ho:Dh f.loc [o1,o2] f.stk)(hn:f.stk.length<=60)(rb:Nat)(hr:(rb,#[.func (.func (Dd op)) #[] #[]],204)∈l) :
  Calls prog 187 #[ptr mb,ptr (A0.FB rest.length),ptr b,ptr rb] w (Dl w0 B mb A0 s en l f rest (Ak op a {f with stk:=(Aq f.loc [o1,o2] f.stk).1++(Aq f.loc [o1,o2] f.stk).2} s.arr s.out)):=by
 have hx:Ak op a {f with stk:=(Aq f.loc [o1,o2] f.stk).1++(Aq f.loc [o1,o2] f.stk).2} s.arr s.out=if (AE op (o2.get f.loc (o1.get f.loc f.stk).2).1 (o1.get f.loc f.stk).1).2=0 then ({f with stk:=(AE op (o2.get f.loc (o1.get f.loc f.stk).2).1 (o1.get f.loc f.stk).1).1::(o2.get f.loc (o1.get f.loc f.stk).2).2},s.arr,s.out,0) else ({f with stk:=(o2.get f.loc (o1.get f.loc f.stk).2).2},s.arr,s.out,(AE op (o2.get f.loc (o1.get f.loc f.stk).2).1 (o1.get f.loc f.stk).1).2):=by
  rcases hop with rfl|rfl|rfl|rfl|rfl<;>simp[Aq,Ak]
 generalize Ak op a {f with stk:=(Aq f.loc [o1,o2] f.stk).1++(Aq f.loc [o1,o2] f.stk).2} s.arr s.out=xx at *;have hrz:rb<w.heap.size:=h.lt _ hr;obtain⟨g1,c1,e1,f1⟩:=hv.fn;subst e1;have H0:=Aa (h.box #[.int .i64 0,.int .i64 0] 43);have hm1:∀ t,t∈l->t∈(w.heap.size,#[Value.int .i64 0,Value.int .i64 0],43)::l:=fun t ht=>Tf _ ht
 have HG1:=Aa (H0.out.getTwo hs (hv.mono hm1) ho hn);have hle:=h.le.1;have HB:=Aa h.boxfar;have d1:=H0.out.hb.one (hm1 _ hb);have hbz:b<w.heap.size:=h.lt _ hb;have hnn:(o2.get f.loc (o1.get f.loc f.stk).2).2.length<=60:=by have h1:=EA o1 f.loc f.stk;have h2:=EA o2 f.loc (o1.get f.loc f.stk).2;omega
 have HN:=Aa hnn;clear hnn ho hv h;unfold FT at HG1;generalize hxx:(o1.get f.loc f.stk).1=x at *;generalize hyy:(o2.get f.loc (o1.get f.loc f.stk).2).1=y at *;generalize hst2:(o2.get f.loc (o1.get f.loc f.stk).2).2=st2 at *;have HX':=Aa hx;have HO:=Aa hop;have HR:=Aa hr;have hm2:∀ t,t∈l->t∈(w.heap.size,#[Value.int .i64 0,Value.int .i64 0],43)::l:=hm1;generalize hrf:Dd op=rf at *;have HRF:=Aa hrf;generalize hfb:A0.FB rest.length=fb at *;clear hfb hx hxx hyy hst2 hb hn hop hr hrf;go_enter func187,ntmps187
 go_wp2_with fail
 generalize w.alloc (.cells #[.int .i64 0,.int .i64 0] 43)=W at *;refine HG1.out.mono ?_;rintro e w1 ⟨rfl,c1'⟩;have hsz1:=c1'.lt _ Ti;have hsz1:w.heap.size<w1.heap.size:=hsz1;have H1:=Aa (E7 c1' #[.int .i64 y.k,.int .i64 y.n] #[.int .i64 x.k,.int .i64 x.n] 43);clear c1' HG1 H0 d1;have d2:=H1.out.hb.one (Tf _ (Tf _ (hm2 _ HR.out)));obtain⟨u0,u1,_,_⟩:=H1.out.hb.two Ti;obtain⟨v0,v1,_,_⟩:=H1.out.hb.two (Tf _ Ti);go_wp2_with fail
 clear d2 u0 u1 v0 v1;generalize (w1.alloc (.cells #[.int .i64 y.k,.int .i64 y.n] 43)).alloc (.cells #[.int .i64 x.k,.int .i64 x.n] 43)=W1 at *;have hrk:=KP op HO.out y x W1;rw[HRF.out] at hrk;refine hrk.mono ?_;clear hrk;rintro e w2 ⟨⟨h2,rfl⟩|⟨h2,rfl⟩,k2⟩
 ·have HX:=Aa (HX'.out.trans (if_pos h2));have c3:=(H1.out.below k2).drop (l':=(w.heap.size,#[Value.int .i64 0,Value.int .i64 0],43)::l) (fun t ht=>Tf _ (Tf _ ht));obtain⟨x0,x1,z0,z1⟩:=c3.hb.two Ti;have HW:=Aa (c3.write0 hle HB.out (.int .i64 (AE op y x).1.k) (.int .i64 (AE op y x).1.n));clear c3 k2 H1 h2 HX';generalize (AE op y x).1=v at *;go_wp2;obtain⟨y0,y1,_,_⟩:=HW.out.hb.two Ti;exact bodyPost_ret (v:=.agg #[.int .i64 v.k,.int .i64 v.n]) (by simp[results,Tryz.results187,go_sem,y0,y1]) rfl (Or.inl ⟨v,_,_,HX.out,HN.out,rfl,HW.out.drop (fun t ht=>Tf _ ht)⟩)
 ·have hx2:=HX'.out.trans (if_neg h2);exact⟨rfl,Dl.trap hx2 h2 ((H1.out.below k2).drop (fun t ht=>Tf _ (Tf _ (Tf _ ht))))⟩
theorem R8{s:Mc}(h:Ap w0 B mb A0 s en l w)(hs:s.fr=f::rest)(a:Int)(o:An)(vo:Value)(b:Nat)(hb:(b,#[vo],224)∈l)(hv:BZ l o vo)(ho:DA f.loc.length f.stk o)(hn:f.stk.length<=60)(hm:s.arr.length<=150000)(hc:AL s.arr<=200) :
  Calls prog 188 #[ptr mb,ptr (A0.FB rest.length),ptr b] w (Dl w0 B mb A0 s en l f rest (Ak 15 a {f with stk:=(Aq f.loc [o] f.stk).1++(Aq f.loc [o] f.stk).2} s.arr s.out)):=by
 have hx:Ak 15 a {f with stk:=(Aq f.loc [o] f.stk).1++(Aq f.loc [o] f.stk).2} s.arr s.out=if (o.get f.loc f.stk).1.k≠1 then ({f with stk:=(o.get f.loc f.stk).2},s.arr,s.out,3) else if (o.get f.loc f.stk).1.n<0 then ({f with stk:=(o.get f.loc f.stk).2},s.arr,s.out,5) else if 200-AL s.arr<(o.get f.loc f.stk).1.n then ({f with stk:=(o.get f.loc f.stk).2},s.arr,s.out,8) else ({f with stk:=⟨2,(s.arr.length:Int)⟩::(o.get f.loc f.stk).2},s.arr++[List.replicate (o.get f.loc f.stk).1.n.toNat As],s.out,0):=by
  simp[Aq,Ak]
 generalize Ak 15 a {f with stk:=(Aq f.loc [o] f.stk).1++(Aq f.loc [o] f.stk).2} s.arr s.out=xx at *;obtain⟨g1,c1,e1,f1⟩:=hv.fn;subst e1;have H0:=Aa (h.box #[.int .i64 0,.int .i64 0] 43);have hm1:∀ t,t∈l->t∈(w.heap.size,#[Value.int .i64 0,Value.int .i64 0],43)::l:=fun t ht=>Tf _ ht
 have HG1:=Aa (H0.out.get hs (hv.mono hm1) ho hn);have hle:=h.le.1;have HB:=Aa h.boxfar;have d1:=H0.out.hb.one (hm1 _ hb);have hbz:b<w.heap.size:=h.lt _ hb;have hnn:(o.get f.loc f.stk).2.length<=60:=Nat.le_trans (EA o f.loc f.stk) hn;have HN:=Aa hnn;clear hnn ho hv h;unfold Di at HG1;generalize hxx:(o.get f.loc f.stk).1=x at *;generalize hst2:(o.get f.loc f.stk).2=st2 at *;have HX':=Aa hx;have HK:=Aa (Tc hm hc);generalize hfb:A0.FB rest.length=fb at *;clear hfb hx hxx hst2 hb hn hm hc;go_enter func188,ntmps188
 go_wp2_with fail
 generalize w.alloc (.cells #[.int .i64 0,.int .i64 0] 43)=W at *;refine HG1.out.mono ?_;rintro e w1 ⟨rfl,c1',_⟩;have H1:=Aa c1';clear c1' HG1 H0 d1;go_wp2_with fail
 refine(H1.out.newArray x HK.out.1 HK.out.2).mono ?_;rintro e w2 (⟨k1,rfl,c3⟩|⟨k1,k2,rfl,c3⟩|⟨k1,k2,k3,rfl,c3⟩|⟨k1,k2,k3,he,c3⟩)
 ·have hx2:=HX'.out.trans (if_pos k1);exact⟨rfl,Dl.trap hx2 (by decide) (c3.drop (fun t ht=>Tf _ ht))⟩
 ·have hx2:=HX'.out.trans ((if_neg (by omega)).trans (if_pos k2));exact⟨rfl,Dl.trap hx2 (by decide) (c3.drop (fun t ht=>Tf _ ht))⟩
 ·have hx2:=HX'.out.trans ((if_neg (by omega)).trans ((if_neg (by omega)).trans (if_pos k3)));exact⟨rfl,Dl.trap hx2 (by decide) (c3.drop (fun t ht=>Tf _ ht))⟩
 ·have HX:=Aa (HX'.out.trans ((if_neg (by omega)).trans ((if_neg (by omega)).trans (if_neg (show ¬200-AL s.arr<x.n from by have:x.n<=200-AL s.arr:=k3;omega)))));have he':e=.returned (.agg #[.int .i64 (⟨2,(s.arr.length:Int)⟩:V).k,.int .i64 (⟨2,(s.arr.length:Int)⟩:V).n]):=he;clear he k1 k2 k3;generalize (⟨2,(s.arr.length:Int)⟩:V)=v at *;subst he';obtain⟨x0,x1,z0,z1⟩:=c3.hb.two Ti;have HW:=Aa (c3.write0 hle HB.out (.int .i64 v.k) (.int .i64 v.n));clear c3 H1 HK HX';go_wp2;obtain⟨y0,y1,_,_⟩:=HW.out.hb.two Ti;exact bodyPost_ret (v:=.agg #[.int .i64 v.k,.int .i64 v.n]) (by simp[results,Tryz.results188,go_sem,y0,y1]) rfl (Or.inl ⟨v,_,_,HX.out,HN.out,rfl,HW.out.drop (fun t ht=>Tf _ ht)⟩)
theorem RH{s:Mc}(h:Ap w0 B mb A0 s en l w)(hs:s.fr=f::rest)(a:Int)(o1 o2:An)(vt:Value)(b:Nat)(hb:(b,#[vt],230)∈l)(hv:Dp l o1 o2 vt)(ho:Dh f.loc [o1,o2] f.stk)(hn:f.stk.length<=60)(hk:(o2.get f.loc (o1.get f.loc f.stk).2).1.k=2->0<=(o2.get f.loc (o1.get f.loc f.stk).2).1.n/\(o2.get f.loc (o1.get f.loc f.stk).2).1.n<s.arr.length) :
  Calls prog 190 #[ptr mb,ptr (A0.FB rest.length),ptr b] w (Dl w0 B mb A0 s en l f rest (Ak 16 a {f with stk:=(Aq f.loc [o1,o2] f.stk).1++(Aq f.loc [o1,o2] f.stk).2} s.arr s.out)):=by
 have hx:Ak 16 a {f with stk:=(Aq f.loc [o1,o2] f.stk).1++(Aq f.loc [o1,o2] f.stk).2} s.arr s.out=if AS s.arr (o2.get f.loc (o1.get f.loc f.stk).2).1 (o1.get f.loc f.stk).1=0 then ({f with stk:=(s.arr.getD (o2.get f.loc (o1.get f.loc f.stk).2).1.n.toNat []).getD (o1.get f.loc f.stk).1.n.toNat As::(o2.get f.loc (o1.get f.loc f.stk).2).2},s.arr,s.out,0) else ({f with stk:=(o2.get f.loc (o1.get f.loc f.stk).2).2},s.arr,s.out,AS s.arr (o2.get f.loc (o1.get f.loc f.stk).2).1 (o1.get f.loc f.stk).1):=by
  simp[Aq,Ak]
 generalize Ak 16 a {f with stk:=(Aq f.loc [o1,o2] f.stk).1++(Aq f.loc [o1,o2] f.stk).2} s.arr s.out=xx at *;obtain⟨g1,c1,e1,f1⟩:=hv.fn;subst e1;have H0:=Aa (h.box #[.int .i64 0,.int .i64 0] 43);have hm1:∀ t,t∈l->t∈(w.heap.size,#[Value.int .i64 0,Value.int .i64 0],43)::l:=fun t ht=>Tf _ ht
 have HG1:=Aa (H0.out.getTwo hs (hv.mono hm1) ho hn);have hle:=h.le.1;have HB:=Aa h.boxfar;have d1:=H0.out.hb.one (hm1 _ hb);have hbz:b<w.heap.size:=h.lt _ hb;have hnn:(o2.get f.loc (o1.get f.loc f.stk).2).2.length<=60:=by have h1:=EA o1 f.loc f.stk;have h2:=EA o2 f.loc (o1.get f.loc f.stk).2;omega
 have HN:=Aa hnn;clear hnn ho hv h;unfold FT at HG1;generalize hxx:(o1.get f.loc f.stk).1=x at *;generalize hyy:(o2.get f.loc (o1.get f.loc f.stk).2).1=y at *;generalize hst2:(o2.get f.loc (o1.get f.loc f.stk).2).2=st2 at *;have HX':=Aa hx;have HK:=Aa hk;generalize hfb:A0.FB rest.length=fb at *;clear hfb hx hxx hyy hst2 hb hn hk;go_enter func190,ntmps190
 go_wp2_with fail
 generalize w.alloc (.cells #[.int .i64 0,.int .i64 0] 43)=W at *;refine HG1.out.mono ?_;rintro e w1 ⟨rfl,c1'⟩;have H1:=Aa c1';clear c1' HG1 H0 d1;go_wp2_with fail
 refine(H1.out.cell y x HK.out).mono ?_;rintro e w2 ⟨⟨hw,bb,oo,rfl,k0,k1,_,_,_⟩|⟨hw,rfl⟩,c3⟩
 ·have HX:=Aa (HX'.out.trans (if_pos hw));have k0':w2.cell? ⟨bb,oo,none⟩=some (.int .i64 ((s.arr.getD y.n.toNat []).getD x.n.toNat As).k):=k0;have k1':w2.cell? ⟨bb,oo+1,none⟩=some (.int .i64 ((s.arr.getD y.n.toNat []).getD x.n.toNat As).n):=k1;clear k0 k1;generalize (s.arr.getD y.n.toNat []).getD x.n.toNat As=v at *;obtain⟨x0,x1,z0,z1⟩:=c3.hb.two Ti;have HW:=Aa (c3.write0 hle HB.out (.int .i64 v.k) (.int .i64 v.n));clear c3 H1 HK HX' hw;go_wp2;obtain⟨y0,y1,_,_⟩:=HW.out.hb.two Ti;exact bodyPost_ret (v:=.agg #[.int .i64 v.k,.int .i64 v.n]) (by simp[results,Tryz.results190,go_sem,y0,y1]) rfl (Or.inl ⟨v,_,_,HX.out,HN.out,rfl,HW.out.drop (fun t ht=>Tf _ ht)⟩)
 ·have hx2:=HX'.out.trans (if_neg hw);exact⟨rfl,Dl.trap hx2 hw (c3.drop (fun t ht=>Tf _ ht))⟩
end
def Ds(l:Bxs)(op:Int)(os:List An)(v:Value):Prop :=
 (op=21/\os=[]/\v=.func (.func 184) #[] #[]) \/
 (op=9/\∃ o1 o2 b vt,os=[o1,o2]/\v=.func (.func 186) #[] #[ptr b]/\(b,#[vt],230)∈l/\Dp l o1 o2 vt) \/
 ((op=4\/op=5\/op=6\/op=7\/op=8)/\∃ o1 o2 b vt rb,os=[o1,o2]/\v=.func (.func 187) #[] #[ptr b,ptr rb]/\(b,#[vt],230)∈l/\(rb,#[.func (.func (Dd op)) #[] #[]],204)∈l/\Dp l o1 o2 vt) \/
 (op=15/\∃ o b vo,os=[o]/\v=.func (.func 188) #[] #[ptr b]/\(b,#[vo],224)∈l/\BZ l o vo) \/
 (op=18/\∃ o b vo,os=[o]/\v=.func (.func 189) #[] #[ptr b]/\(b,#[vo],224)∈l/\BZ l o vo) \/
 (op=16/\∃ o1 o2 b vt,os=[o1,o2]/\v=.func (.func 190) #[] #[ptr b]/\(b,#[vt],230)∈l/\Dp l o1 o2 vt)
section
variable {l:Bxs}{w0 w:World}{B mb:Nat}{A0:Af}{s:Mc}{en op:Int}{rest:List Fr}{os:List An}{f:Fr}
theorem Ds.mono{l':Bxs}{v:Value}(h:Ds l op os v)(hl:∀ t,t∈l->t∈l'):Ds l' op os v:=by
 rcases h with h|⟨h1,o1,o2,b,vt,h2,h3,h4,h5⟩|⟨h1,o1,o2,b,vt,rb,h2,h3,h4,h5,h6⟩|⟨h1,o,b,vo,h2,h3,h4,h5⟩|⟨h1,o,b,vo,h2,h3,h4,h5⟩|⟨h1,o1,o2,b,vt,h2,h3,h4,h5⟩
 ·exact Or.inl h
 ·exact Or.inr (Or.inl ⟨h1,o1,o2,b,vt,h2,h3,hl _ h4,h5.mono hl⟩)
 ·exact Or.inr (Or.inr (Or.inl ⟨h1,o1,o2,b,vt,rb,h2,h3,hl _ h4,hl _ h5,h6.mono hl⟩))
 ·exact Or.inr (Or.inr (Or.inr (Or.inl ⟨h1,o,b,vo,h2,h3,hl _ h4,h5.mono hl⟩)))
 ·exact Or.inr (Or.inr (Or.inr (Or.inr (Or.inl ⟨h1,o,b,vo,h2,h3,hl _ h4,h5.mono hl⟩))))
 ·exact Or.inr (Or.inr (Or.inr (Or.inr (Or.inr ⟨h1,o1,o2,b,vt,h2,h3,hl _ h4,h5.mono hl⟩))))
theorem N2(args:Array Value)(X:World):(callFunc 184 args).run prog X=.ok (.enter 184 args) X:=by go_simp
theorem Nj(args:Array Value)(X:World):(callFunc 186 args).run prog X=.ok (.enter 186 args) X:=by go_simp
theorem NJ(args:Array Value)(X:World):(callFunc 187 args).run prog X=.ok (.enter 187 args) X:=by go_simp
theorem Qg(args:Array Value)(X:World):(callFunc 188 args).run prog X=.ok (.enter 188 args) X:=by go_simp
theorem QI(args:Array Value)(X:World):(callFunc 189 args).run prog X=.ok (.enter 189 args) X:=by go_simp
theorem PQ(args:Array Value)(X:World):(callFunc 190 args).run prog X=.ok (.enter 190 args) X:=by go_simp
theorem Ds.fn{v:Value}(h:Ds l op os v):∃ g cap,Gz v g cap:=by
 rcases h with⟨_,_,h3⟩|⟨h1,o1,o2,b,vt,h2,h3,h4,h5⟩|⟨h1,o1,o2,b,vt,rb,h2,h3,h4,h5,h6⟩|⟨h1,o,b,vo,h2,h3,h4,h5⟩|⟨h1,o,b,vo,h2,h3,h4,h5⟩|⟨h1,o1,o2,b,vt,h2,h3,h4,h5⟩
 ·exact⟨_,_,h3,N2⟩
 ·exact⟨_,_,h3,Nj⟩
 ·exact⟨_,_,h3,NJ⟩
 ·exact⟨_,_,h3,Qg⟩
 ·exact⟨_,_,h3,QI⟩
 ·exact⟨_,_,h3,PQ⟩
structure Ju (m:Nat) (s:Mc) (f:Fr) (op a:Int) (os:List An):Prop where
 ok:Dh f.loc os f.stk
 all:By m s.arr.length ((Aq f.loc os f.stk).1++(Aq f.loc os f.stk).2)
 pops:At op a<=((Aq f.loc os f.stk).1++(Aq f.loc os f.stk).2).length
 stk:f.stk.length<=60
 arr:s.arr.length<=150000
 cells:AL s.arr<=200
 out:s.out.length<=100000
theorem Ap.val{m:Nat}(h:Ap w0 B mb A0 s en l w)(hs:s.fr=f::rest){a:Int}{g:Nat}{cap:Array Value}(hv:Ds l op os (.func (.func g) #[] cap))(hi:Ju m s f op a os) :
  Calls prog g (#[ptr mb,ptr (A0.FB rest.length)]++cap) w (Dl w0 B mb A0 s en l f rest (Ak op a {f with stk:=(Aq f.loc os f.stk).1++(Aq f.loc os f.stk).2} s.arr s.out)):=by
 have hall:=hi.all;have hok:=hi.ok;rcases hv with⟨h1,h2,h3⟩|⟨h1,o1,o2,b,vt,h2,h3,h4,h5⟩|⟨h1,o1,o2,b,vt,rb,h2,h3,h4,h5,h6⟩|⟨h1,o,b,vo,h2,h3,h4,h5⟩|⟨h1,o,b,vo,h2,h3,h4,h5⟩|⟨h1,o1,o2,b,vt,h2,h3,h4,h5⟩
 all_goals
  injection h3 with e1 _ e2;injection e1 with e1;subst e1 e2 h2
 ·subst h1;have hp:=hi.pops;have:((Aq f.loc [] f.stk).1++(Aq f.loc [] f.stk).2)=f.stk:=rfl;rw[this] at hp;obtain⟨v,st,hst⟩:∃ v st,f.stk=v::st:=by
   cases hc:f.stk with
   |nil=>rw[hc] at hp;simp[At,A6] at hp
   |cons x r=>exact⟨x,r,rfl⟩
  exact Nv h hs a v st hst hi.stk
 ·subst h1;exact SQ h hs a o1 o2 vt b h4 h5 hok hi.stk
 ·exact NF h hs a op h1 o1 o2 vt b h4 h6 hok hi.stk rb h5
 ·subst h1;exact R8 h hs a o vo b h4 h5 hok.1 hi.stk hi.arr hi.cells
 ·subst h1;exact OL h hs a o vo b h4 h5 hok.1 hi.stk (hall _ (by simp[Aq])).1
 ·subst h1;exact RH h hs a o1 o2 vt b h4 h5 hok hi.stk (hall _ (by simp[Aq])).1
def C9(w0:World)(B mb:Nat)(A0:Af)(s:Mc)(en:Int)(l:Bxs)(rest:List Fr)(x:Fr × List (List V) × List V × Int)(e:Ending)(w':World):Prop :=
 ((x.2.2.2=0/\e=.returned (.tuple #[]))\/(x.2.2.2≠0/\e=BT x.2.2.2))/\Ap w0 B mb A0 {s with fr:=x.1::rest,arr:=x.2.1,out:=x.2.2.1} en l w'
theorem C9.ok{w':World}{f':Fr}{arr:List (List V)}{out:List V}{x:Fr × List (List V) × List V × Int}(hx:x=(f',arr,out,0))(h:Ap w0 B mb A0 {s with fr:=f'::rest,arr:=arr,out:=out} en l w'):C9 w0 B mb A0 s en l rest x (.returned (.tuple #[])) w':=by
 subst hx;exact⟨Or.inl ⟨rfl,rfl⟩,h⟩
theorem C9.trap{w':World}{x:Fr × List (List V) × List V × Int}(hx:x.2.2.2≠0)(h:Ap w0 B mb A0 {s with fr:=x.1::rest,arr:=x.2.1,out:=x.2.2.1} en l w'):C9 w0 B mb A0 s en l rest x (BT x.2.2.2) w':=⟨Or.inr ⟨hx,rfl⟩,h⟩
theorem Pv{m:Nat}(h:Ap w0 B mb A0 s en l w)(hs:s.fr=f::rest){a:Int}{vv:Value}{b:Nat}(hb:(b,#[vv],229)∈l)(hv:Ds l op os vv)(hi:Ju m s f op a os) :
  Calls prog 193 #[ptr mb,ptr (A0.FB rest.length),ptr b] w (C9 w0 B mb A0 s en l rest (Ak op a {f with stk:=(Aq f.loc os f.stk).1++(Aq f.loc os f.stk).2} s.arr s.out)):=by
 obtain⟨g,cap,e1,f1⟩:=hv.fn;subst e1;have HV:=Aa (h.drew.val hs hv hi);have H0:=Aa h.drew;have HB:=Aa hb;generalize Ak op a {f with stk:=(Aq f.loc os f.stk).1++(Aq f.loc os f.stk).2} s.arr s.out=xx at *;generalize hfb:A0.FB rest.length=fb at *;have HF:=Aa hfb;clear hfb hv hi h hb;go_enter func193,ntmps193
 go_wp2_with fail
 refine AG (Hb l) TA (by kernel_rfl) (by kernel_rfl) (A8 _ _) H0.out.hb ?_;simp only[TA,lexL,Tl,Tm];iterate 6 (refine Aw (by rfl) (by intro w' hS';have y0:=hS'.one HB.out;clear hS';go_simp;exact rfl) ?_;simp only[Act.put,Td,Th,Tg])
 generalize w.drew=w1 at HV H0 ⊢;refine Az (fun K hK=>?_);go_simp;refine HV.out.mono ?_;rintro e w2 (⟨v,st,arr,hx,hst,rfl,c2⟩|⟨hx,rfl,c2⟩)
 ·have H2:=Aa c2;have HX:=Aa hx;refine hK.out _ _ c2.hb ?_;clear hK K hx c2 HV H0;refine Az (fun K hK=>?_);go_simp;have hp:=H2.out.push rfl (by show st.length<=64;omega) v;rw[HF.out] at hp;refine hp.mono ?_;rintro e w3 ⟨rfl,c3⟩;refine hK.out _ _ c3.hb ?_;have HQ:=Aa c3;clear hK K c3 hp;refine AF ?_;go_wp2;go_end0;exact C9.ok HX.out HQ.out
 ·exact⟨rfl,C9.trap hx c2⟩
theorem Rt(h:Ap w0 B mb A0 s en l w)(hs:s.fr=f::rest)(a:Int)(ho:f.stk≠[])(hn:f.stk.length<=60) :
  Calls prog 182 #[ptr mb,ptr (A0.FB rest.length)] w (C9 w0 B mb A0 s en l rest (Ak 20 a {f with stk:=(Aq f.loc [.pop] f.stk).1++(Aq f.loc [.pop] f.stk).2} s.arr s.out)):=by
 obtain⟨v,st,hst⟩:∃ v st,f.stk=v::st:=by
  cases hc:f.stk with
  |nil=>exact absurd hc ho
  |cons x r=>exact⟨x,r,rfl⟩
 have hx:Ak 20 a {f with stk:=(Aq f.loc [.pop] f.stk).1++(Aq f.loc [.pop] f.stk).2} s.arr s.out=({f with stk:=st},s.arr,s.out,0):=by simp[Aq,An.get,Ak,hst]
 have HX:=Aa hx;generalize Ak 20 a {f with stk:=(Aq f.loc [.pop] f.stk).1++(Aq f.loc [.pop] f.stk).2} s.arr s.out=xx at *;have HP:=Aa (h.pop hs hst (by rw[hst] at hn;simp at hn;omega));generalize hfb:A0.FB rest.length=fb at *;clear hfb hx hn hst ho h;go_enter func182,ntmps182
 go_wp2_with fail
 refine HP.out.mono ?_;rintro e w1 ⟨rfl,c1⟩;have HQ:=Aa c1;clear c1 HP;go_wp2;go_end0;exact C9.ok HX.out HQ.out
theorem Ss(h:Ap w0 B mb A0 s en l w)(hs:s.fr=f::rest)(a:Int)(o:An)(vo:Value)(b:Nat)(hb:(b,#[vo],224)∈l)(hv:BZ l o vo)(ho:DA f.loc.length f.stk o)(hn:f.stk.length<=60)(hout:s.out.length<=100000) :
  Calls prog 170 #[ptr mb,ptr (A0.FB rest.length),ptr b] w (C9 w0 B mb A0 s en l rest (Ak 19 a {f with stk:=(Aq f.loc [o] f.stk).1++(Aq f.loc [o] f.stk).2} s.arr s.out)):=by
 have hx:Ak 19 a {f with stk:=(Aq f.loc [o] f.stk).1++(Aq f.loc [o] f.stk).2} s.arr s.out=({f with stk:=(o.get f.loc f.stk).2},s.arr,s.out++[(o.get f.loc f.stk).1],0):=by simp[Aq,Ak]
 have HX:=Aa hx;generalize Ak 19 a {f with stk:=(Aq f.loc [o] f.stk).1++(Aq f.loc [o] f.stk).2} s.arr s.out=xx at *;obtain⟨g1,c1,e1,f1⟩:=hv.fn;subst e1;have HG:=Aa (h.get hs hv ho hn);have d1:=h.hb.one hb;have HO:=Aa hout;unfold Di at HG;generalize (o.get f.loc f.stk).1=x at *;generalize (o.get f.loc f.stk).2=st2 at *;generalize hfb:A0.FB rest.length=fb at *;clear hfb hx hn ho h hv hb hout;go_enter func170,ntmps170
 go_wp2_with fail
 refine HG.out.mono ?_;rintro e w1 ⟨rfl,c1,_⟩;have H1:=Aa c1;clear c1 HG d1;go_wp2_with fail
 refine(H1.out.print x HO.out).mono ?_;rintro e w2 ⟨rfl,c2⟩;have HQ:=Aa c2;clear c2 H1;go_wp2;go_end0;exact C9.ok HX.out HQ.out
end
end Go.Proofs.YtkafkipjedpohaaGreatDoor

import Derived.Test.YtkafkipjedpohaaGreatDoorM18
namespace Go.Proofs.YtkafkipjedpohaaGreatDoor
set_option maxRecDepth 100000
set_option maxHeartbeats 16000000
open Go.RowKit _root_.Go.Proofs.Tryz
section
variable {w:World}{B mb m:Nat}{F:Nat->PF}{MV:Nat->Value}{A:Af}{s:Mc}{en:Int}{f:Fr}{rest:List Fr}{v:V}
theorem Cj{P:Program}{ops:Array Oper}{Q:Exit->Act->World->Prop}{S:World->Prop}{i:Nat}{o:Oper}{r:List (Bool × Nat × Oper)}{a:Act}(hw:Region.wanted o (yielded ops a.tmps)=false)
  (h:Fd P ops Q S r (a.put o.dst undef) w):Fd P ops Q S ((false,i,o)::r) a w:=⟨fun hall=>⟨o,undef,hall _ Ti,Or.inr ⟨hw,rfl⟩,h.out (fun t ht=>hall t (Tf _ ht))⟩⟩
theorem L5{b:Nat}{x:Value}(h:w.cell? ⟨b,4,none⟩=some x)(v:Value):(w.setCell ⟨b,1,none⟩ v).cell? ⟨b,4,none⟩=some x :=
 (World.cell?_setCell_other w _ _ v (by simp)).trans h
theorem RB(h0:v.k=0->v.n=0):Ce v=(decide (v.k=0/\v.n=0) || decide (v.k=1/\v.n=0)):=by
 unfold Ce;by_cases h:v.k=0
 ·simp[h,h0 h]
 ·simp[h]
theorem AH.like{s':Mc}(h:AH w B mb m F MV A s en)(e1:s'.fr=s.fr)(e2:s'.arr=s.arr)(e3:s'.out=s.out)(e4:s'.gives=s.gives)(e5:s'.steps=s.steps)(e6:s'.high=s.high)(e7:s'.made=s.made)(e8:s'.cH=s.cH)(e9:s'.cU=s.cU)(e10:s'.cD=s.cD):AH w B mb m F MV A s' en :=
 ⟨h.lay.like e1 e2 e3 e4 e5,by rw[e1,e6];exact h.hl,by rw[e1,e6];exact h.cod,by rw[e8,e9,e10];exact h.cnt,h.made,by rw[e7];exact h.mds,h.pg,h.le⟩
theorem AQ.like{w':World}{n0:Nat}{s':Mc}(h:AQ w B mb m F MV n0 A s en w')(e1:s'.fr=s.fr)(e2:s'.arr=s.arr)(e3:s'.out=s.out)(e4:s'.gives=s.gives)(e5:s'.steps=s.steps)(e6:s'.high=s.high)(e7:s'.made=s.made)(e8:s'.cH=s.cH)(e9:s'.cU=s.cU)(e10:s'.cD=s.cD):AQ w B mb m F MV n0 A s' en w':=by
 obtain⟨A3,m3,s3,c3,f3,v3⟩:=h;exact⟨A3,m3.like e1 e2 e3 e4 e5 e6 e7 e8 e9 e10,s3,c3,by rw[e1];exact f3,by rw[e1];exact v3⟩
theorem AH.box(hM:AH w B mb m F MV A s en)(c:Array Value)(t:TypeId):∃ A1:Af,AH (w.alloc (.cells c t)) B mb m F MV A1 s en/\A1.g=A.g/\A1.tag w.heap.size=5/\Ch B N5 A.tag A1.tag w (w.alloc (.cells c t)):=by
 have hbl:Below w.heap.size w (w.alloc (.cells c t)):=(Tu _ _).alloc (Te _) _;have hc:Ch B N5 A.tag (Ac A.tag w.heap.size 5) w (w.alloc (.cells c t)):=Ch.of_tags hbl (fun b hb=>Ao _ _ _ _ (by omega));exact⟨_,hM.same (hM.lay.box _) rfl hc ⟨rfl,rfl,rfl,rfl,rfl,rfl⟩,rfl,Au _ _ _,hc⟩
theorem AH.below{w':World}(hM:AH w B mb m F MV A s en)(h:Below w.heap.size w w'):AH w' B mb m F MV A s en:=hM.same (hM.lay.below h) rfl (Ch.of_below h) ⟨rfl,rfl,rfl,rfl,rfl,rfl⟩
theorem AH.branch(hM:AH w B mb m F MV A s en)(hs:s.fr=f::rest)(v:V)(h0:v.k=0->v.n=0)(to:Nat)(hpc:f.pc<=1000) :
  Calls prog 128 #[.pointer (some ⟨A.FB rest.length,0,none⟩),.agg #[.int .i64 v.k,.int .i64 v.n],.int .i64 to] w fun e w'=>e=.returned (.tuple #[])/\AQ w B mb m F MV s.fr.length A {s with fr:={f with pc:=if Ce v=true then to else f.pc+1}::rest} en w'/\w'.cell? ⟨A.FB rest.length,4,none⟩=some (A.g.CV rest.length):=by
 obtain⟨A1,hM1,hg1,ht1,hc1⟩:=hM.box #[.int .i64 v.k,.int .i64 v.n] 43;have hfb1:A1.FB rest.length=A.FB rest.length:=by unfold Af.FB;rw[hg1]
 have hz:=RB h0;generalize hz1:decide (v.k=0/\v.n=0)=z1 at hz;generalize hz2:decide (v.k=1/\v.n=0)=z2 at hz;have heq1:=G4 v ⟨0,0⟩ z1 (by rw[<-hz1]);have heq2:=G4 v ⟨1,0⟩ z2 (by rw[<-hz2]);rw[hz];have HG:=Aa (fun (X:World) (hX:Below (w.alloc (.cells #[.int .i64 v.k,.int .i64 v.n] 43)).heap.size (w.alloc (.cells #[.int .i64 v.k,.int .i64 v.n] 43)) X) (pc:Nat)=>(show AQ w B mb m F MV s.fr.length A {s with fr:={f with pc:=pc}::rest} en (X.setCell ⟨A.FB rest.length,1,none⟩ (.int .i64 pc))/\(X.setCell ⟨A.FB rest.length,1,none⟩ (.int .i64 pc)).cell? ⟨A.FB rest.length,4,none⟩=some (A.g.CV rest.length) from by
  have:=(hM1.below hX).goto hs pc;have h4:=((hM1.below hX).top hs).1;rw[hfb1] at this h4;rw[hg1] at h4;exact⟨AQ.on hg1 (hc1.trans' hX) this,L5 h4 _⟩))
 have HT:=Aa (fun (X:World) (hX:Below (w.alloc (.cells #[.int .i64 v.k,.int .i64 v.n] 43)).heap.size (w.alloc (.cells #[.int .i64 v.k,.int .i64 v.n] 43)) X)=>(show X.cell? ⟨A.FB rest.length,1,none⟩=some (.int .i64 f.pc)/\X.frozen? ⟨A.FB rest.length,1,none⟩=false from by
  obtain⟨_,_,u3,u4,_⟩:=(hM1.below hX).top hs;rw[hfb1] at u3 u4;exact⟨u3,u4⟩))
 have hb:(w.alloc (.cells #[.int .i64 v.k,.int .i64 v.n] 43)).heap[w.heap.size]?=some (.cells #[.int .i64 v.k,.int .i64 v.n] 43 (0,0)):=Tv _ _;have HB:=Aa hb;clear hM hM1 hg1 ht1 hc1 hfb1 hz hz1 hz2 hb;generalize A.FB rest.length=fb at *;generalize A.g.CV rest.length=cvt at *;generalize hn0:s.fr.length=n0 at *;clear hn0;have hp0:0<=(f.pc:Int)/\(f.pc:Int)<=1000:=by omega
 have epc:((f.pc+1:Nat):Int)=(f.pc:Int)+1:=by omega
 have e5:wrap64 ((f.pc:Int)+1)=(f.pc:Int)+1:=by unfold wrap64;omega
 go_enter func128,ntmps128
 go_wp2_with fail
 generalize w.alloc (.cells #[.int .i64 v.k,.int .i64 v.n] 43)=W at *;have hS0:Hb [(w.heap.size,#[Value.int .i64 v.k,Value.int .i64 v.n],43)] W.drew:=fun t ht=>by
  obtain rfl:t=(w.heap.size,#[Value.int .i64 v.k,Value.int .i64 v.n],43):=by simpa using ht
  exact HB.out
 cases z1
 ·refine AG (Hb [(w.heap.size,#[Value.int .i64 v.k,Value.int .i64 v.n],43)]) [(false,0),(false,1),(false,2),(false,3),(false,4),(true,5),(false,6),(false,7)] (by kernel_rfl) (by kernel_rfl) (Co _ _ _) hS0 ?_;have S0:=Aa hS0;clear hS0;simp only[lexL,Tl,Tm];iterate 5 (refine Aw (by rfl) (by intro w' hS';obtain⟨y0,y1,_,_⟩:=hS'.two Ti;clear hS';go_simp;exact rfl) ?_;simp only[Act.put,Td,Th,Tg])
  refine Az (fun K hK=>?_);go_simp;refine(FN _ _).mono ?_;rintro e w2 ⟨rfl,k2⟩;have hX:Below W.heap.size W w2:=(Tu _ _).drew.trans k2;have HX:=Aa hX;refine hK.out _ _ (S0.out.below k2) ?_;clear hK K k2 hX;iterate 2 (refine Aw (by rfl) (by intro w' hS';clear hS';go_simp;exact rfl) ?_;simp only[Act.put,Td,Th,Tg])
  refine AF ?_;obtain⟨u3,u4⟩:=HT.out w2 HX.out;cases z2
  ·have HQ:=Aa (HG.out w2 HX.out (f.pc+1));rw[epc] at HQ;go_wp2;go_end0;exact⟨rfl,HQ.out⟩
  ·have HQ:=Aa (HG.out w2 HX.out to);go_wp2;go_end0;exact⟨rfl,HQ.out⟩
 ·refine AG (Hb [(w.heap.size,#[Value.int .i64 v.k,Value.int .i64 v.n],43)]) [(false,0),(false,1),(false,2),(false,3),(false,4),(false,5),(false,6),(false,7)] (by kernel_rfl) (by kernel_rfl) (Co _ _ _) hS0 ?_;clear hS0;simp only[lexL,Tl,Tm];iterate 4 (refine Aw (by rfl) (by intro w' hS';obtain⟨y0,y1,_,_⟩:=hS'.two Ti;clear hS';go_simp;exact rfl) ?_;simp only[Act.put,Td,Th,Tg])
  iterate 3 (refine Cj (by rfl) ?_;simp only[Act.put,Td,Th,Tg])
  refine Aw (by rfl) (by intro w' hS';clear hS';go_simp;exact rfl) ?_;simp only[Act.put,Td,Th,Tg];refine AF ?_;have hX:Below W.heap.size W W.drew:=(Tu _ _).drew;obtain⟨u3,u4⟩:=HT.out W.drew hX;have HQ:=Aa (HG.out W.drew hX to);clear hX;go_wp2;go_end0;exact⟨rfl,HQ.out⟩
def ES(w:World)(B mb m:Nat)(F:Nat->PF)(MV:Nat->Value)(n0:Nat)(A:Af)(k:Nat)(s':Mc)(en:Int)(e:Ending)(w':World):Prop :=
 e=.returned (.tuple #[])/\AQ w B mb m F MV n0 A s' en w'/\w'.cell? ⟨A.FB k,4,none⟩=some (A.g.CV k)
theorem SN(hM:AH w B mb m F MV A s en)(hs:s.fr=f::rest)(to:Nat) :
  Calls prog 120 #[.pointer (some ⟨mb,0,none⟩),.pointer (some ⟨A.FB rest.length,0,none⟩),.agg #[.int .i64 10,.int .i64 to]] w (ES w B mb m F MV s.fr.length A rest.length {s with fr:={f with pc:=to}::rest} en):=by
 obtain⟨A1,hM1,hg1,ht1,hc1⟩:=hM.box #[.int .i64 10,.int .i64 to] 33;have hfb1:A1.FB rest.length=A.FB rest.length:=Dc hg1 _;have hgo:=hM1.goto hs to;obtain⟨h4,_,u3,u4,_⟩:=hM1.top hs;rw[hfb1] at hgo h4 u3 u4;rw[hg1] at h4;have HQ:=Aa (Tc (AQ.on hg1 hc1 hgo) (L5 h4 (.int .i64 to)));clear hM hM1 hg1 ht1 hc1 hfb1 hgo h4;unfold ES;generalize A.FB rest.length=fb at *;generalize A.g.CV rest.length=cvt at *;generalize hn0:s.fr.length=n0 at *;clear hn0;go_enter func120,ntmps120
 go_wp2;go_end0;exact⟨rfl,HQ.out⟩
theorem Pp(hM:AH w B mb m F MV A s en)(hs:s.fr=f::rest){st:List V}(hst:f.stk=v::st)(hn:st.length<=60)(h0:v.k=0->v.n=0)(to:Nat)(hpc:f.pc<=1000) :
  Calls prog 120 #[.pointer (some ⟨mb,0,none⟩),.pointer (some ⟨A.FB rest.length,0,none⟩),.agg #[.int .i64 11,.int .i64 to]] w (ES w B mb m F MV s.fr.length A rest.length {s with fr:={f with stk:=st,pc:=if Ce v=true then to else f.pc+1}::rest} en):=by
 have H0:=Aa ((Ap.start hM.lay hM.le).box #[.int .i64 11,.int .i64 to] 33);have HM:=Aa hM;generalize hfb:A.FB rest.length=fb;have HF:=Aa hfb;clear hM hfb;generalize hS':({s with fr:={f with stk:=st,pc:=if Ce v=true then to else f.pc+1}::rest}:Mc)=s';generalize hn0:s.fr.length=n0;have HN0:=Aa hn0;clear hn0;have HS:=Aa hS';clear hS';go_enter func120,ntmps120
 go_wp2_with fail
 generalize w.alloc (.cells #[.int .i64 11,.int .i64 to] 33)=W at *;have H1:=Aa H0.out.drew;clear H0;refine AG (Hb [(w.heap.size,#[Value.int .i64 11,Value.int .i64 to],33)]) [(false,0),(false,1),(false,2),(false,3),(false,5),(false,6),(true,4),(true,7)] (by kernel_rfl) (by kernel_rfl) (DN _ _ _) H1.out.hb ?_;simp only[lexL,Tl,Tm];iterate 6 (refine Aw (by rfl) (by intro w' hS';obtain⟨y0,y1,_,_⟩:=hS'.two Ti;clear hS';go_simp;exact rfl) ?_;simp only[Act.put,Td,Th,Tg])
 generalize W.drew=w1 at H1 ⊢;refine Az (fun K hK=>?_);go_simp;have hp:=H1.out.pop hs hst (by omega);rw[HF.out] at hp;refine hp.mono ?_;rintro e w2 ⟨rfl,c2⟩;have H2:=Aa c2;refine hK.out _ _ c2.hb ?_;clear hK K hp c2 H1;refine Az (fun K hK=>?_);go_simp;obtain⟨_,A2,l2,g2,c2,b2⟩:=H2.out;have hM2:AH w2 B mb m F MV A2 {s with fr:={f with stk:=st}::rest} en:=HM.out.same l2 g2 c2 ⟨by rw[hs];rfl,rfl,rfl,rfl,rfl,rfl⟩;have hbr:=hM2.branch (f:={f with stk:=st}) (rest:=rest) rfl v h0 to hpc;have hfb2:A2.FB rest.length=fb:=(Dc g2 _).trans HF.out;rw[hfb2] at hbr;refine hbr.mono ?_;rintro e w3 ⟨rfl,g3,k3⟩;have HQ:=Aa (show ES w B mb m F MV n0 A rest.length s' en (.returned (.tuple #[])) w3 from by
  rw[<-HS.out,<-HN0.out,hs];rw[g2] at k3;exact⟨rfl,AQ.on g2 c2 g3,by rw[HF.out];exact k3⟩)
 obtain⟨A3,m3,_,c3,_⟩:=g3;have hb3:Hb [(w.heap.size,#[Value.int .i64 11,Value.int .i64 to],33)] w3:=fun t ht=>(b2.keep c3 Db t ht).1
 refine hK.out _ _ hb3 ?_;clear hK K hbr l2 g2 c2 b2 hM2 m3 c3 hb3 k3;refine AF ?_;go_wp2;go_end0;exact HQ.out
theorem Sh(hM:AH w B mb m F MV A s en)(hs:s.fr=f::rest){st:List V}(hst:f.stk=v::st)(hn:st.length<=60)(hg:∀ g,g∈rest->g.stk.length<=60)(hr:rest.length<=60)(n:Int) :
  Calls prog 120 #[.pointer (some ⟨mb,0,none⟩),.pointer (some ⟨A.FB rest.length,0,none⟩),.agg #[.int .i64 14,.int .i64 n]] w (ES w B mb m F MV s.fr.length A rest.length (AT f rest s) en):=by
 have H0:=Aa ((Ap.start hM.lay hM.le).box #[.int .i64 14,.int .i64 n] 33);have HM:=Aa hM;generalize hfb:A.FB rest.length=fb;have HF:=Aa hfb;clear hM hfb;generalize hS':AT f rest s=s';generalize hn0:s.fr.length=n0;have HN0:=Aa hn0;clear hn0;have HS:=Aa hS';clear hS';go_enter func120,ntmps120
 go_wp2_with fail
 generalize w.alloc (.cells #[.int .i64 14,.int .i64 n] 33)=W at *;have hp:=H0.out.pop hs hst (by omega);rw[HF.out] at hp;refine hp.mono ?_;rintro e w2 ⟨rfl,_,A2,l2,g2,c2,b2⟩;have hM2:AH w2 B mb m F MV A2 {s with fr:={f with stk:=st}::rest} en:=HM.out.same l2 g2 c2 ⟨by rw[hs];rfl,rfl,rfl,rfl,rfl,rfl⟩;have hfb2:A2.FB rest.length=fb:=(Dc g2 _).trans HF.out;have h4:=(hM2.top rfl).1;rw[hfb2,g2] at h4;have H2:=Aa (Tc hM2 (Tc g2 (Tc c2 h4)));have HF2:=Aa hfb2;clear l2 g2 c2 b2 hM2 hp H0 h4 hfb2;cases rest with
 |nil =>
  have hrp:AT f [] s={s with fr:=[],high:=s.high.drop 1,gives:=v,fin:=1}:=by simp[AT,hst]
  have HR:=Aa (hrp.symm.trans HS.out);clear hrp;have HG:=Aa (Lu w2 B mb m F MV A2 _ en {f with stk:=st} v H2.out.1 rfl);clear hst;go_wp2_with fail
  refine HG.out.mono ?_;rintro e w3 ⟨rfl,g3,k3⟩;obtain⟨A3,m3,s3,c3,f3,v3⟩:=AQ.on H2.out.2.1 H2.out.2.2.1 g3;have k4:w3.cell? ⟨fb,4,none⟩=some (A.g.CV 0):=by
   have e:=HF2.out;simp only[List.length_nil] at e;rw[e] at k3;exact k3.trans H2.out.2.2.2
  have HQ:=Aa (show ES w B mb m F MV n0 A ([]:List Fr).length s' en (.returned (.tuple #[])) w3 from by
   rw[<-HR.out,<-HN0.out,hs];refine⟨rfl,⟨A3,m3.like rfl rfl rfl rfl rfl rfl rfl rfl rfl rfl,s3,c3,f3,v3⟩,?_⟩;rw[HF.out];exact k4)
  clear g3 k3 k4 m3 c3 f3 v3;go_wp2;go_end0;exact HQ.out
 |cons g r =>
  have hrp:AT f (g::r) s={s with fr:={g with stk:=v::g.stk}::r,high:=s.high.drop 1}:=by simp[AT,hst]
  have HR:=Aa (hrp.symm.trans HS.out);clear hrp;have HG:=Aa (J5 w2 B mb m F MV A2 _ en {f with stk:=st} g r v H2.out.1 rfl (hg g Ti) (by simp at hr;omega));clear hst;go_wp2_with fail
  refine HG.out.mono ?_;rintro e w3 ⟨rfl,g3,k3⟩;obtain⟨A3,m3,s3,c3,f3,v3⟩:=AQ.on H2.out.2.1 H2.out.2.2.1 g3;have k4:w3.cell? ⟨fb,4,none⟩=some (A.g.CV (r.length+1)):=by
   have e:=HF2.out;simp only[Tn] at e;rw[e] at k3;exact k3.trans H2.out.2.2.2
  have HQ:=Aa (show ES w B mb m F MV n0 A (g::r).length s' en (.returned (.tuple #[])) w3 from by
   rw[<-HR.out,<-HN0.out,hs];refine⟨rfl,⟨A3,m3.like rfl rfl rfl rfl rfl rfl rfl rfl rfl rfl,s3,c3,f3,v3⟩,?_⟩;rw[HF.out];exact k4)
  clear g3 k3 k4 m3 c3 f3 v3;go_wp2;go_end0;exact HQ.out
end
def Jo(w:World)(B mb m:Nat)(F:Nat->PF)(MV:Nat->Value)(n0:Nat)(A:Af)(s':Mc)(n h:Nat)(en:Int)(e:Ending)(w':World):Prop :=
 (3<=s'.fin/\e=BT s'.fin/\AQ w B mb m F MV n0 A {s' with steps:=n,cH:=h} en w')\/(s'.fin<3/\e=.returned (.tuple #[])/\AQ w B mb m F MV n0 A s' en w')
section
variable {w:World}{B mb m:Nat}{F:Nat->PF}{MV:Nat->Value}{A:Af}{s:Mc}{en:Int}{f:Fr}{rest:List Fr}
theorem Q0(hM:AH w B mb m F MV A s en)(hs:s.fr=f::rest)(xs r:List V)(g:V)(cnt:Nat)(hst:f.stk=xs++g::r)(hxs:xs.length=cnt)(hcnt:cnt<=8)(hr:r.length<=20)(hg:g.k=3->0<=g.n/\g.n<m)(hfun:∀ k,k<m->0<=(F k).locals/\(F k).locals<=8/\(F k).args<=(F k).locals)(hfr:rest.length<=30)(hm:m<=8)(hpc:f.pc<=64)(h0:s.fin=0) :
  Calls prog 120 #[.pointer (some ⟨mb,0,none⟩),.pointer (some ⟨A.FB rest.length,0,none⟩),.agg #[.int .i64 13,.int .i64 cnt]] w fun e w' =>
   (3<=(AJ F cnt f rest s).fin/\e=BT (AJ F cnt f rest s).fin/\AQ w B mb m F MV s.fr.length A (AJ F cnt f rest s) en w')\/((AJ F cnt f rest s).fin=0/\ES w B mb m F MV s.fr.length A rest.length (AJ F cnt f rest s) en e w'):=by
 obtain⟨A1,hM1,hg1,ht1,hc1⟩:=hM.box #[.int .i64 13,.int .i64 cnt] 33;have hfb1:A1.FB rest.length=A.FB rest.length:=Dc hg1 _;have hcall:=KR _ B mb m A1 s en F MV f rest xs r g cnt hM1 hs hst hxs hcnt hr hg hfun hfr hm hpc;rw[hfb1] at hcall;have hd:f.stk.drop cnt=g::r:=by rw[hst,List.drop_append_of_le_length (by omega),List.drop_of_length_le (by omega)];rfl
 have ht:f.stk.take cnt=xs:=by rw[hst,List.take_append_of_le_length (by omega),List.take_of_length_le (by omega)]
 have hcp:AJ F cnt f rest s=if g.k≠3\/(F g.n.toNat).args≠cnt then {s with fr:={f with stk:=r}::rest,fin:=6} else if 24<=rest.length+1 then {s with fr:={f with stk:=r}::rest,fin:=7} else {s with fr:={fn:=g.n.toNat,pc:=0,loc:=xs.reverse++List.replicate ((F g.n.toNat).locals.toNat-cnt) As,stk:=[]}::{f with pc:=f.pc+1,stk:=r}::rest,high:=s.made g.n.toNat::s.high}:=by
  unfold AJ;rw[hd,ht]
 have hfbne:=(hM.top hs).2.1;have HC:=Aa (Tc hcall (Tc hcp (Tc hg1 hc1)));generalize AJ F cnt f rest s=s' at *;have HN:Hid (rest.length+1=s.fr.length):=Aa (by rw[hs];rfl);clear hM hM1 hg1 ht1 hc1 hfb1 hcall hcp hd ht hst;generalize hfb:A.FB rest.length=fb at *;go_enter func120,ntmps120
 go_wp2_with fail
 refine HC.out.1.mono ?_;obtain⟨_,hcp,hg1,hc1⟩:=HC.out;rintro e w3 (⟨k1,rfl,g3⟩|⟨k1,k2,rfl,g3⟩|⟨k1,k2,rfl,g3⟩)
 ·have e1:=hcp.trans (if_pos k1);refine⟨rfl,Or.inl ⟨by rw[e1];show (3:Int)<=6;decide,by rw[e1];rfl,?_⟩⟩;rw[e1];have g4:=AQ.on hg1 hc1 g3;rw[HN.out] at g4;exact g4.like rfl rfl rfl rfl rfl rfl rfl rfl rfl rfl
 ·have e1:=hcp.trans ((if_neg k1).trans (if_pos k2));refine⟨rfl,Or.inl ⟨by rw[e1];show (3:Int)<=7;decide,by rw[e1];rfl,?_⟩⟩;rw[e1];have g4:=AQ.on hg1 hc1 g3;rw[HN.out] at g4;exact g4.like rfl rfl rfl rfl rfl rfl rfl rfl rfl rfl
 ·have e1:=hcp.trans ((if_neg k1).trans (if_neg k2));have g4:=AQ.on hg1 hc1 g3;rw[HN.out] at g4;have k4:w3.cell? ⟨fb,4,none⟩=some (A.g.CV rest.length):=by
   obtain⟨A3,m3,s3,c3,f3,v3⟩:=g4;have e3:=f3 rest.length (by show rest.length<rest.length+1+1;omega) (by rw[<-HN.out];omega);have e4:=(v3 rest.length (by show rest.length<rest.length+1+1;omega)).1 (by rw[<-HN.out];omega);obtain⟨q1,q2,q3⟩:=m3.lay.fb rest.length (by show rest.length<rest.length+1+1;omega);rw[e3,hfb,e4] at q1;exact(Ab q1).trans rfl
  have HQ:=Aa (show (3<=s'.fin/\(Ending.returned (.tuple #[]))=BT s'.fin/\AQ w B mb m F MV s.fr.length A s' en w3)\/(s'.fin=0/\ES w B mb m F MV s.fr.length A rest.length s' en (.returned (.tuple #[])) w3) from by
   rw[e1];exact Or.inr ⟨h0,rfl,g4.like rfl rfl rfl rfl rfl rfl rfl rfl rfl rfl,by rw[hfb];exact k4⟩)
  clear g3 g4 k4 k1 k2 e1 hcp hg1 hc1;go_wp2;go_end0;exact HQ.out
theorem Rx(hM:AH w B mb m F MV A s en)(hs:s.fr=f::rest)(hfn:f.fn<m)(hpc:f.pc<(F f.fn).cn) :
  ∃ pb po pc cb co cc,w.cell? ⟨mb,0,none⟩=some (.slice (some ⟨pb,po,none⟩) m pc)/\w.cell? ⟨A.FB rest.length,0,none⟩=some (.int .i64 f.fn)/\w.cell? ⟨A.FB rest.length,1,none⟩=some (.int .i64 f.pc)/\w.cell? ⟨pb,po+f.fn * 3+2,none⟩=some (.slice (some ⟨cb,co,none⟩) (F f.fn).cn cc)/\w.cell? ⟨cb,co+f.pc * 2,none⟩=some (.int .i64 ((F f.fn).op f.pc))/\w.cell? ⟨cb,co+f.pc * 2+1,none⟩=some (.int .i64 ((F f.fn).ar f.pc)):=by
 obtain⟨_,_,u3,_,u5,_,_⟩:=hM.top hs;obtain⟨pb,po,pc,CA,CC,hpv,hPA,hpb,_⟩:=hM.pg.at_;have s2:=(hPA.fn f.fn hfn).slice;obtain⟨cb,co,hca,hcb,hcode⟩:=(hPA.fn f.fn hfn).code (by omega);rw[hca] at s2;obtain⟨k0,k1⟩:=hcode f.pc hpc;exact⟨pb,po,pc,cb,co,CC f.fn,by rw[Ab hM.lay.run,<-hpv];rfl,u5,u3,s2,k0,k1⟩
theorem Gn(hM:AH w B mb m F MV A s en)(hs:s.fr=f::rest)(hfn:f.fn<m)(hpc:f.pc<(F f.fn).cn)(op ar:Int)(hop:(F f.fn).op f.pc=op)(har:(F f.fn).ar f.pc=ar)
  (R:Ending->World->Prop) (t:Bool) (ht:decide (op=10\/op=11\/op=13\/op=14)=t)
  (hturn:t=true->∀ X,Below w.heap.size w X->Calls prog 120 #[.pointer (some ⟨mb,0,none⟩),.pointer (some ⟨A.FB rest.length,0,none⟩),.agg #[.int .i64 op,.int .i64 ar]] X fun e w'=>(∃ t,e=BT t/\R e w')\/(e=.returned (.tuple #[])/\Calls prog 88 #[.pointer (some ⟨mb,0,none⟩),.pointer (some ⟨A.FB rest.length,0,none⟩),.int .i64 1] w' fun e w''=>e=.returned (.tuple #[])/\R e w''))
  (hstr:t=false->∀ X,Below w.heap.size w X->Calls prog 121 #[.pointer (some ⟨mb,0,none⟩),.pointer (some ⟨A.FB rest.length,0,none⟩),.agg #[.int .i64 op,.int .i64 ar]] X fun e w'=>(∃ t,e=BT t/\R e w')\/(e=.returned (.tuple #[])/\Calls prog 122 #[.pointer (some ⟨mb,0,none⟩),.pointer (some ⟨A.FB rest.length,0,none⟩),.int .i64 1] w' fun e w''=>e=.returned (.tuple #[])/\R e w'')) :
  Calls prog 104 #[.pointer (some ⟨mb,0,none⟩),.pointer (some ⟨A.FB rest.length,0,none⟩)] w R:=by
 obtain⟨pb,po,pc,cb,co,cc,c0,c1,c2,c3,c4,c5⟩:=Rx hM hs hfn hpc;rw[hop] at c4;rw[har] at c5;have HS:=Aa (Tc hturn hstr);have HC:=Aa (fun (w':World) (h:Below w.heap.size w w')=>(show w'.cell? ⟨mb,0,none⟩=some (.slice (some ⟨pb,po,none⟩) m pc)/\w'.cell? ⟨A.FB rest.length,0,none⟩=some (.int .i64 f.fn)/\w'.cell? ⟨A.FB rest.length,1,none⟩=some (.int .i64 f.pc)/\w'.cell? ⟨pb,po+f.fn * 3+2,none⟩=some (.slice (some ⟨cb,co,none⟩) (F f.fn).cn cc)/\w'.cell? ⟨cb,co+f.pc * 2,none⟩=some (.int .i64 op)/\w'.cell? ⟨cb,co+f.pc * 2+1,none⟩=some (.int .i64 ar) from
  ⟨(h.cell (p:=⟨mb,0,none⟩) (Tr w _ c0)).trans c0,(h.cell (p:=⟨A.FB rest.length,0,none⟩) (Tr w _ c1)).trans c1,(h.cell (p:=⟨A.FB rest.length,1,none⟩) (Tr w _ c2)).trans c2,(h.cell (p:=⟨pb,po+f.fn * 3+2,none⟩) (Tr w _ c3)).trans c3,(h.cell (p:=⟨cb,co+f.pc * 2,none⟩) (Tr w _ c4)).trans c4,(h.cell (p:=⟨cb,co+f.pc * 2+1,none⟩) (Tr w _ c5)).trans c5⟩))
 have i0:(0:Int)<=(f.fn:Int):=by omega
 have i1:(f.fn:Int)<(m:Int):=by omega
 have i2:(0:Int)<=(f.pc:Int):=by omega
 have i3:(f.pc:Int)<((F f.fn).cn:Int):=by omega
 have HM:=Aa (fun X=>LI op X);rw[ht] at HM;clear hM hstr hturn c0 c1 c2 c3 c4 c5 hop har ht;generalize (F f.fn).cn=cn at *;generalize A.FB rest.length=fb at *;generalize f.fn=fnl at *;generalize f.pc=pcl at *;go_enter func104,ntmps104
 go_wp2_with fail
 refine AG (Below w.heap.size w) [(false,0),(false,1),(false,2),(false,3),(false,4),(false,5),(false,6),(false,7),(false,8),(false,9),(false,10),(false,11),(false,12),(false,13),(false,14),(false,15),(false,16),(true,17),(true,18)] (by kernel_rfl) (by kernel_rfl) (Co _ _ _) (Tu _ _).drew ?_;simp only[lexL,Tl,Tm];iterate 17 (refine Aw (by rfl) (by intro w' hS';obtain⟨q0,q1,q2,q3,q4,q5⟩:=HC.out w' hS';clear hS';go_simp;exact rfl) ?_;simp only[Act.put,Td,Th,Tg])
 have hW:Below w.heap.size w (w.alloc (.cells #[.int .i64 0,.int .i64 0] 33)).drew:=((Tu _ _).alloc (Te _) _).drew;have hb:(w.alloc (.cells #[.int .i64 0,.int .i64 0] 33)).drew.heap[w.heap.size]?=some (.cells #[.int .i64 0,.int .i64 0] 33 (0,0)):=Tv w _;refine Az (fun K hK=>?_);go_simp;refine hK.out _ _ hW ?_;clear hK K;have HW:=Aa (Tc (hW.setCell (p:=⟨w.heap.size,0,none⟩) (Te _) (.int .i64 op)) hb);generalize (w.alloc (.cells #[.int .i64 0,.int .i64 0] 33)).drew=W at *;have x0:W.cell? ⟨w.heap.size,0,none⟩=some (.int .i64 0):=(Ab hb).trans rfl;have x1:W.cell? ⟨w.heap.size,1,none⟩=some (.int .i64 0):=(Ab hb).trans rfl;have z0:W.frozen? ⟨w.heap.size,0,none⟩=false:=Ax hb;have z1:W.frozen? ⟨w.heap.size,1,none⟩=false:=Ax hb;clear hW hb;refine Az (fun K hK=>?_);go_simp;have hX:=HW.out.1.setCell (p:=⟨w.heap.size,1,none⟩) (Te _) (.int .i64 ar);refine hK.out _ _ hX ?_;clear hK K x0 x1 z0 z1;have hb2:=AM (o:=1) (AM (o:=0) HW.out.2 (.int .i64 op)) (.int .i64 ar);have HX:=Aa hX;generalize (W.setCell ⟨w.heap.size,0,none⟩ (.int .i64 op)).setCell ⟨w.heap.size,1,none⟩ (.int .i64 ar)=X at *;have x0:X.cell? ⟨w.heap.size,0,none⟩=some (.int .i64 op):=(Ab hb2).trans rfl;have x1:X.cell? ⟨w.heap.size,1,none⟩=some (.int .i64 ar):=(Ab hb2).trans rfl;clear hX hb2;refine AF ?_;go_wp2_with fail
 refine(HM.out X).mono ?_;rintro e w2 ⟨rfl,hw2⟩;rw[hw2];clear hw2 w2 HM HW HC;cases t
 ·go_wp2_with fail
  refine(HS.out.2 (by simp) X HX.out).mono ?_;rintro e w3 (⟨t,rfl,h⟩|⟨rfl,h⟩)
  ·exact⟨rfl,h⟩
  ·have HP:=Aa h;clear h;go_wp2_with fail
   refine HP.out.mono ?_;rintro e w4 ⟨rfl,h⟩;have HR:=Aa h;clear h;go_wp2;go_end0;exact HR.out
 ·go_wp2_with fail
  refine(HS.out.1 (by simp) X HX.out).mono ?_;rintro e w3 (⟨t,rfl,h⟩|⟨rfl,h⟩)
  ·exact⟨rfl,h⟩
  ·have HP:=Aa h;clear h;go_wp2_with fail
   refine HP.out.mono ?_;rintro e w4 ⟨rfl,h⟩;have HR:=Aa h;clear h;go_wp2;refine bodyPost_ret (results_none rfl _ _ _) rfl ?_;exact HR.out
end
def AY(F:Nat->PF)(s:Mc):Nat->Mc
 |0=>s
 |n+1=>if (AY F s n).fin=0 then AA F (AY F s n) else AY F s n
def AC(F:Nat->PF):Mc :=
 {fr:=[{fn:=0,pc:=0,loc:=List.replicate (F 0).locals.toNat As,stk:=[]}],arr:=[],out:=[],gives:=As,steps:=0,fin:=0,high:=[false],made:=fun _=>false,cH:=0,cU:=0,cD:=0}
variable {F:Nat->PF}
theorem Rf(arr:List (List V))(a i:V):AS arr a i=0\/AS arr a i=3\/AS arr a i=5:=by
 unfold AS;repeat' split
 all_goals omega
theorem Pj(op:Int)(a b:V):(AE op a b).2=0\/(AE op a b).2=3\/(AE op a b).2=4:=by
 unfold AE;repeat' split
 all_goals simp
theorem Jp(op a:Int)(f:Fr)(arr:List (List V))(out:List V):(∃ l,(Ak op a f arr out).2.2.1=out++l)/\((Ak op a f arr out).2.2.2=0\/(3<=(Ak op a f arr out).2.2.2/\(Ak op a f arr out).2.2.2<=8)):=by
 have hw:=Rf arr;have h2:=Pj op;have hn:∃ l,out=out++l:=⟨[],by simp⟩
 have t0:∀ (g:Fr) (ar:List (List V)),(∃ l,((g,ar,out,(0:Int)):Fr × List (List V) × List V × Int).2.2.1=out++l)/\(((g,ar,out,(0:Int)):Fr × List (List V) × List V × Int).2.2.2=0\/(3<=((g,ar,out,(0:Int)):Fr × List (List V) × List V × Int).2.2.2/\((g,ar,out,(0:Int)):Fr × List (List V) × List V × Int).2.2.2<=8)):=fun _ _=>⟨hn,Or.inl rfl⟩
 have tt:∀ (g:Fr) (ar:List (List V)) (t:Int),(3<=t/\t<=8)->(∃ l,((g,ar,out,t):Fr × List (List V) × List V × Int).2.2.1=out++l)/\(((g,ar,out,t):Fr × List (List V) × List V × Int).2.2.2=0\/(3<=((g,ar,out,t):Fr × List (List V) × List V × Int).2.2.2/\((g,ar,out,t):Fr × List (List V) × List V × Int).2.2.2<=8)):=fun _ _ _ h=>⟨hn,Or.inr h⟩
 unfold Ak;by_cases e:op=0
 ·rw[if_pos e];exact t0 _ _
 rw[if_neg e];clear e;by_cases e:op=1
 ·rw[if_pos e];exact t0 _ _
 rw[if_neg e];clear e;by_cases e:op=12
 ·rw[if_pos e];exact t0 _ _
 rw[if_neg e];clear e;by_cases e:op=2
 ·rw[if_pos e];exact t0 _ _
 rw[if_neg e];clear e;cases f with
 |mk fn pc loc stk =>
 cases stk with
 |nil=>exact t0 _ _
 |cons x r =>
 dsimp only;by_cases e:op=3
 ·rw[if_pos e];exact t0 _ _
 rw[if_neg e];clear e;by_cases e:op=19
 ·rw[if_pos e];exact⟨⟨_,rfl⟩,Or.inl rfl⟩
 rw[if_neg e];clear e;by_cases e:op=20
 ·rw[if_pos e];exact t0 _ _
 rw[if_neg e];clear e;by_cases e:op=21
 ·rw[if_pos e];exact t0 _ _
 rw[if_neg e];clear e;by_cases e:op=15
 ·rw[if_pos e];by_cases e:x.k≠1
  ·rw[if_pos e];exact tt _ _ _ (by omega)
  rw[if_neg e];clear e;by_cases e:x.n<0
  ·rw[if_pos e];exact tt _ _ _ (by omega)
  rw[if_neg e];clear e;by_cases e:200-AL arr<x.n
  ·rw[if_pos e];exact tt _ _ _ (by omega)
  rw[if_neg e];exact t0 _ _
 rw[if_neg e];clear e;by_cases e:op=18
 ·rw[if_pos e];by_cases e:x.k≠2
  ·rw[if_pos e];exact tt _ _ _ (by omega)
  rw[if_neg e];exact t0 _ _
 rw[if_neg e];clear e;cases r with
 |nil=>exact t0 _ _
 |cons y q =>
 dsimp only;by_cases e:op=16
 ·rw[if_pos e];by_cases e:AS arr y x=0
  ·rw[if_pos e];exact t0 _ _
  rw[if_neg e];exact tt _ _ _ (by have:=hw y x;omega)
 rw[if_neg e];clear e;by_cases e:op=17
 ·rw[if_pos e];cases q with
  |nil=>exact t0 _ _
  |cons z p =>
  dsimp only;by_cases e:AS arr z y=0
  ·rw[if_pos e];exact t0 _ _
  rw[if_neg e];exact tt _ _ _ (by have:=hw z y;omega)
 rw[if_neg e];clear e;by_cases e:(AE op y x).2=0
 ·rw[if_pos e];exact t0 _ _
 rw[if_neg e];exact tt _ _ _ (by have:=h2 y x;omega)
theorem RU(op a:Int)(f:Fr)(arr:List (List V))(out:List V):∃ l,(Ak op a f arr out).2.2.1=out++l:=(Jp op a f arr out).1
theorem Iv(op a:Int)(f:Fr)(arr:List (List V))(out:List V):(Ak op a f arr out).2.2.2=0\/(3<=(Ak op a f arr out).2.2.2/\(Ak op a f arr out).2.2.2<=8):=(Jp op a f arr out).2
theorem Kc(A:Nat)(f:Fr)(rest:List Fr)(s:Mc)(hs:s.fin=0):(AJ F A f rest s).steps=s.steps/\(AJ F A f rest s).out=s.out/\(AJ F A f rest s).gives=s.gives/\((AJ F A f rest s).fin=0\/(AJ F A f rest s).fin=6\/(AJ F A f rest s).fin=7)/\((AJ F A f rest s).fr=[]->s.fr=[]):=by
 unfold AJ;repeat' split
 all_goals simp[hs]
theorem RI(f:Fr)(rest:List Fr)(s:Mc)(hs:s.fin=0)(hf:s.fr≠[]):(AT f rest s).steps=s.steps/\(AT f rest s).out=s.out/\((AT f rest s).fin=1\/(AT f rest s).gives=s.gives)/\((AT f rest s).fin=0\/(AT f rest s).fin=1)/\((AT f rest s).fr=[]↔(AT f rest s).fin=1):=by
 unfold AT;repeat' split
 all_goals simp[hs,hf]
structure PM (s s':Mc):Prop where
 steps:s'.steps=s.steps+1
 out:∃ l,s'.out=s.out++l
 gives:s'.fin=1\/s'.gives=s.gives
 fin:s'.fin=0\/s'.fin=1\/(3<=s'.fin/\s'.fin<=8)
 fr:s'.fr=[]↔s'.fin=1
theorem Fb{s:Mc}(hs:s.fin=0)(hf:s.fr≠[]):PM s (AA F s):=by
 unfold AA;cases hfr:s.fr with
 |nil=>exact absurd hfr hf
 |cons f rest =>
  dsimp only;have hne:¬((1:Int)=0):=by decide
  split
  ·exact⟨rfl,⟨[],by simp⟩,Or.inr rfl,Or.inl hs,by simp[hs]⟩
  split
  ·split
   ·refine⟨rfl,⟨[],by simp⟩,Or.inr rfl,Or.inl hs,?_⟩;simp[hs]
   ·exact⟨rfl,⟨[],by simp⟩,Or.inr rfl,Or.inl hs,by simp[hs]⟩
  split
  ·obtain⟨h1,h2,h3,h4,h5⟩:=Kc (F:=F) ((F f.fn).ar f.pc).toNat f rest {s with fr:=f::rest,steps:=s.steps+1,cH:=s.cH+(if s.high.headD false=true then 1 else 0)} hs;refine⟨h1,⟨[],by simpa using h2⟩,Or.inr h3,by omega,?_⟩;constructor
   ·intro h;have:=h5 h;simp at this
   ·intro h;omega
  split
  ·obtain⟨h1,h2,h3,h4,h5⟩:=RI f rest {s with fr:=f::rest,steps:=s.steps+1,cH:=s.cH+(if s.high.headD false=true then 1 else 0)} hs (by simp);exact⟨h1,⟨[],by simpa using h2⟩,h3,by omega,h5⟩
  ·have ht:=Iv ((F f.fn).op f.pc) ((F f.fn).ar f.pc) f s.arr s.out;refine⟨rfl,RU _ _ _ _ _,Or.inr rfl,?_,?_⟩
   ·dsimp only;omega
   ·constructor
    ·intro h;simp at h
    ·intro h;have h:(Ak ((F f.fn).op f.pc) ((F f.fn).ar f.pc) f s.arr s.out).2.2.2=1:=h;omega
structure Sk (m:Nat) (F:Nat->PF) (K:Nat->Nat->Bool) (H:Nat->Nat->Int) (n:Nat) (s:Mc):Prop where
 inv:s.fin=0->BS m F K H s/\s.steps=n
 le:s.steps<=n
 fin:s.fin=0\/s.fin=1\/(3<=s.fin/\s.fin<=8)
 gives:s.fin≠1->s.gives=As
 fr:s.fr=[]↔s.fin=1
variable {m:Nat} {K:Nat->Nat->Bool} {H:Nat->Nat->Int} {s:Mc}
theorem BS.some(h:BS m F K H s):s.fr≠[]:=by
 obtain⟨f,rest,e,_⟩:=h.top;rw[e];simp
theorem Li(hF:AP m F K H)(hI:BS m F K H s)(h0:s.fin=0)(hs:s.steps=0)(hg:s.gives=As):∀ n,Sk m F K H n (AY F s n)
 |0=>⟨fun _=>⟨hI,hs⟩,by show s.steps<=0;omega,Or.inl h0,fun _=>hg,⟨fun e=>absurd e hI.some,fun e=>by have:s.fin=1:=e;omega⟩⟩
 |n+1=>by
  have ih:=Li hF hI h0 hs hg n;unfold AY;split
  ·rename_i hz;obtain⟨i1,i2⟩:=ih.inv hz;have hst:=Fb (F:=F) hz i1.some;refine⟨fun e=>⟨EH hF i1 e,by rw[hst.steps,i2]⟩,by rw[hst.steps,i2];omega,hst.fin,fun e=>?_,hst.fr⟩;rcases hst.gives with h|h
   ·exact absurd h e
   ·rw[h];exact ih.gives (by omega)
  ·rename_i hz;exact⟨fun e=>absurd e hz,by have:=ih.le;omega,ih.fin,ih.gives,ih.fr⟩
theorem Jf{n:Nat}(h:(AY F s n).fin≠0):∀ k,AY F s (n+k)=AY F s n
 |0=>rfl
 |k+1=>by
  have e:AY F s (n+(k+1))=if (AY F s (n+k)).fin=0 then AA F (AY F s (n+k)) else AY F s (n+k):=rfl
  rw[e,Jf h k,if_neg h]
end Go.Proofs.YtkafkipjedpohaaGreatDoor

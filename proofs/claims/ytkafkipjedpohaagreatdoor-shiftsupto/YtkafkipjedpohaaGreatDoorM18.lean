import Derived.Test.YtkafkipjedpohaaGreatDoorU5
namespace Go.Proofs.YtkafkipjedpohaaGreatDoor
set_option maxRecDepth 100000
set_option maxHeartbeats 16000000
open Go.RowKit _root_.Go.Proofs.Tryz
theorem PI{l:List Bool}{n:Nat}(h:l.length=n+1)(i:Nat)(hi:i<n):AU (l.drop 1) i=AU l i:=by
 cases l with
 |nil=>simp at h
 |cons b r=>exact(EF b r i (by simp at h;omega)).symm
theorem AB.popped{w:World}{B mb:Nat}{A:Af}{s:Mc}{en:Int}{f:Fr}{rest:List Fr}(h:AB w B mb A s en)(hs:s.fr=f::rest){gb cap:Nat}(hfv:A.fv=.slice (some ⟨gb,0,none⟩) (rest.length+1) cap) :
  AB (w.setCell ⟨mb,3,none⟩ (.slice (some ⟨gb,0,none⟩) rest.length cap)) B mb {A with fv:=.slice (some ⟨gb,0,none⟩) rest.length cap} {s with fr:=rest} en/\Ch B (fun d=>d=0) A.tag A.tag w (w.setCell ⟨mb,3,none⟩ (.slice (some ⟨gb,0,none⟩) rest.length cap)):=by
 have hlen:s.fr.length=rest.length+1:=by rw[hs];rfl
 have hc:Ch B (fun d=>d=0) A.tag A.tag w (w.setCell ⟨mb,3,none⟩ (.slice (some ⟨gb,0,none⟩) rest.length cap)):=Ch.set w _ _ _ h.own.1 h.own.2;have hfr:=h.fr;rw[hlen,hfv] at hfr;have hot:∀ i,i<rest.length->Am rest i=Am s.fr i:=fun i hi=>by rw[hs,B9 _ _ _ hi]
 refine⟨⟨AM h.run _,⟨h.own.1,h.own.2⟩,(hfr.take rest.length (by omega)).keep hc (by omega),fun i hi=>?_,h.ar.keep hc (by omega),h.out.keep hc (by omega),fun i hi=>?_,fun i hi=>?_,fun j hj=>(h.arr j hj).keep hc (by omega)⟩,hc⟩
 ·have hi':i<rest.length:=hi;obtain⟨g1,g2,g3⟩:=h.fb i (by omega);obtain⟨g4,g5⟩:=Bq g1 hc (by rw[g3];omega);refine⟨?_,g2,g5.trans g3⟩;show _=some (Obj.cells (E2 (Am rest i) _ _ _) _ _);rw[hot i hi'];exact g4
 ·have hi':i<rest.length:=hi;show Ae _ B A.tag _ _ 2 _ (Am rest i).loc.length (Ar (Am rest i).loc);rw[hot i hi'];exact(h.loc i (by omega)).keep hc (by omega)
 ·have hi':i<rest.length:=hi;show Ae _ B A.tag _ _ 2 _ (Am rest i).stk.length (Ar (Am rest i).stk.reverse);rw[hot i hi'];exact(h.stk i (by omega)).keep hc (by omega)
theorem AB.gave_{w:World}{B mb:Nat}{A:Af}{s:Mc}{en:Int}(h:AB w B mb A s en)(v:V) :
  AB ((w.setCell ⟨mb,12,none⟩ (.int .i64 v.k)).setCell ⟨mb,13,none⟩ (.int .i64 v.n)) B mb A {s with gives:=v} en/\Ch B (fun d=>d=0) A.tag A.tag w ((w.setCell ⟨mb,12,none⟩ (.int .i64 v.k)).setCell ⟨mb,13,none⟩ (.int .i64 v.n)):=by
 have hc:Ch B (fun d=>d=0) A.tag A.tag w ((w.setCell ⟨mb,12,none⟩ (.int .i64 v.k)).setCell ⟨mb,13,none⟩ (.int .i64 v.n)):=(Ch.set w _ _ _ h.own.1 h.own.2).trans (Ch.set _ _ _ _ h.own.1 h.own.2);refine⟨⟨AM (AM h.run _) _,h.own,h.fr.keep hc (by omega),fun i hi=>?_,h.ar.keep hc (by omega),h.out.keep hc (by omega),fun i hi=>(h.loc i hi).keep hc (by omega),fun i hi=>(h.stk i hi).keep hc (by omega),fun j hj=>(h.arr j hj).keep hc (by omega)⟩,hc⟩;obtain⟨g1,g2,g3⟩:=h.fb i hi;obtain⟨g4,g5⟩:=Bq g1 hc (by rw[g3];omega);exact⟨g4,g2,g5.trans g3⟩
theorem Lu(w:World)(B mb m:Nat)(F:Nat->PF)(MV:Nat->Value)(A:Af)(s:Mc)(en:Int)(f:Fr)(v:V)(hM:AH w B mb m F MV A s en)(hs:s.fr=[f]) :
  Calls prog 131 #[.pointer (some ⟨mb,0,none⟩),.agg #[.int .i64 v.k,.int .i64 v.n]] w fun e w'=>e=.returned (.tuple #[]) /\
   AQ w B mb m F MV 1 A {s with fr:=[],high:=s.high.drop 1,gives:=v} en w'/\w'.cell? ⟨A.FB 0,4,none⟩=w.cell? ⟨A.FB 0,4,none⟩:=by
 have hbl:Below w.heap.size w (w.alloc (.cells #[.int .i64 v.k,.int .i64 v.n] 43)):=(Tu _ _).alloc (Te _) _;have b0:(w.alloc (.cells #[.int .i64 v.k,.int .i64 v.n] 43)).heap[w.heap.size]?=some (.cells #[.int .i64 v.k,.int .i64 v.n] 43 (0,0)):=Tv _ _;have hlen:s.fr.length=0+1:=by rw[hs];rfl
 obtain⟨e1,e2,e3⟩:=hM.lay.fb (0) (by omega);have hfz:=Ah e1;have hcf:(w.alloc (.cells #[.int .i64 v.k,.int .i64 v.n] 43)).cell? ⟨A.FB 0,4,none⟩=w.cell? ⟨A.FB 0,4,none⟩:=hbl.cell hfz;obtain⟨A3,l3,p3,t3,c3,tf⟩:∃ A3:Af,AB (w.alloc (.cells #[.int .i64 v.k,.int .i64 v.n] 43)) B mb A3 s en/\A3.g=A.g/\A3.tag w.heap.size=5/\Ch B N5 A.tag A3.tag w (w.alloc (.cells #[.int .i64 v.k,.int .i64 v.n] 43))/\A3.tag (A.FB 0)=10 :=
  ⟨_,hM.lay.box _,rfl,Au _ _ _,Ch.of_tags hbl (fun b hb=>Ao _ _ _ _ (by omega)),by show Ac A.tag w.heap.size 5 _=_;rw[Ao _ _ _ _ (by omega)];simpa using e3⟩
 have HM:=Aa (Tc l3 (Tc p3 (Tc t3 (Tc c3 (Tc b0 (Tc hcf (Tc tf hM)))))));generalize A.FB 0=fb at *;clear l3 p3 t3 c3 b0 hM hbl hcf tf e1 e2 e3;go_enter func131,ntmps131
 go_wp2_with fail
 obtain⟨l3,p3,t3,c3,bb,hcf,tf,hM⟩:=HM.out;have b0:(w.alloc (.cells #[.int .i64 v.k,.int .i64 v.n] 43)).cell? ⟨w.heap.size,0,none⟩=some (.int .i64 v.k):=(Ab bb).trans rfl;have b1:(w.alloc (.cells #[.int .i64 v.k,.int .i64 v.n] 43)).cell? ⟨w.heap.size,1,none⟩=some (.int .i64 v.n):=(Ab bb).trans rfl;clear bb;clear HM;generalize w.alloc (.cells #[.int .i64 v.k,.int .i64 v.n] 43)=W at *;generalize hbx:w.heap.size=bx at *;have l4r:=l3.fr;rw[hlen] at l4r;obtain⟨gb,gcap,hgv,hgB,hgz,hgt,hgc⟩:=l4r.form (by omega);rw[hgv] at l4r;have x1:W.cell? ⟨mb,3,none⟩=some (.slice (some ⟨gb,0,none⟩) (0+1) gcap):=by rw[Ab l3.run,<-hgv];rfl
 have z1:W.frozen? ⟨mb,3,none⟩=false:=Ax l3.run;have q1:W.cell? ⟨gb,0,none⟩=some (CE A3.FB 0):=l4r.cell (i:=0) (by show 0<(0+1) * 1;omega);obtain⟨l4,c4⟩:=l3.popped (rest:=[]) hs hgv;obtain⟨l5,c5⟩:=l4.gave_ v;have hmt:=l3.own.2;have hmz:=Ah l3.run;have hne:¬bx=mb:=by intro e;rw[e,hmt] at t3;omega
 have y7:W.cell? ⟨mb,12,none⟩=some (.int .i64 s.gives.k):=by rw[Ab l3.run];rfl
 have y8:W.cell? ⟨mb,13,none⟩=some (.int .i64 s.gives.n):=by rw[Ab l3.run];rfl
 have z7:W.frozen? ⟨mb,12,none⟩=false:=Ax l3.run;have z8:W.frozen? ⟨mb,13,none⟩=false:=Ax l3.run;have hpopf:=Ke W mb 3 0 gb gcap _ x1 z1 q1 (by omega) hgc;have HPF:=Aa hpopf;have hcc:Ch B N5 A.tag A3.tag w (((W.setCell ⟨mb,3,none⟩ (.slice (some ⟨gb,0,none⟩) 0 gcap)).setCell ⟨mb,12,none⟩ (.int .i64 v.k)).setCell ⟨mb,13,none⟩ (.int .i64 v.n)):=c3.trans ((c4.mono (q:=N5) (fun d hd=>by unfold N5;omega)).trans (c5.mono (q:=N5) (fun d hd=>by unfold N5;omega)));have hfbz:fb<W.heap.size:=by have:=c3.size;omega
 have hend:(((W.setCell ⟨mb,3,none⟩ (.slice (some ⟨gb,0,none⟩) 0 gcap)).setCell ⟨mb,12,none⟩ (.int .i64 v.k)).setCell ⟨mb,13,none⟩ (.int .i64 v.n)).cell? ⟨fb,4,none⟩=w.cell? ⟨fb,4,none⟩ :=
  ((c4.trans c5).cell (a:=⟨fb,4,none⟩) hfbz (by rw[tf];omega)).trans hcf
 have HQ:=Aa (Tc (show AQ w B mb m F MV 1 A {s with fr:=[],high:=s.high.drop 1,gives:=v} en (((W.setCell ⟨mb,3,none⟩ (.slice (some ⟨gb,0,none⟩) 0 gcap)).setCell ⟨mb,12,none⟩ (.int .i64 v.k)).setCell ⟨mb,13,none⟩ (.int .i64 v.n)) from ⟨_,hM.ch (s':={s with fr:=[],high:=s.high.drop 1,gives:=v}) (l5.like rfl rfl rfl rfl rfl) (by have:=hM.hl;show (s.high.drop 1).length=0;rw[List.length_drop];omega) (fun i hi=>absurd hi (by simp)) (by show A3.g.hi=_/\A3.g.up=_/\A3.g.dn=_;rw[p3];exact hM.cnt) rfl (Bw.of p3) hcc,Bw.of p3,hcc,fun i _ _=>Dc (A':=A3) p3 i,fun i hi=>absurd hi (by simp)⟩) hend);have hlf:Hid (∀ X:World,X.cell? ⟨mb,3,none⟩=some (.slice (some ⟨gb,0,none⟩) 0 gcap)->Calls prog 92 #[.pointer (some ⟨mb,3,none⟩)] X fun e w'=>e=.returned (.int .i64 (0:Nat))/\w'=X):=fun X hX=>FX X mb 3 0 gcap _ hX
 have hs1:Hid ((W.setCell ⟨mb,3,none⟩ (.slice (some ⟨gb,0,none⟩) 0 gcap)).cell? ⟨mb,3,none⟩=some (.slice (some ⟨gb,0,none⟩) 0 gcap)):=by
  unfold Hid;rw[Ab (AM l3.run _)];rfl
 clear hpopf l3 l4 l5 c3 c4 c5 l4r hgv hcc hmt p3 x1 z1 q1 hend hcf tf hM;refine HPF.out.mono ?_;rintro e w6 ⟨rfl,hw6⟩;rw[hw6];clear hw6 w6 HPF;go_wp2_with fail
 refine(hlf.out _ hs1.out).mono ?_;rintro e w6 ⟨rfl,hw6⟩;rw[hw6];clear hw6 w6;go_wp2;refine bodyPost_ret (results_none rfl _ _ _) rfl ?_;exact⟨rfl,HQ.out⟩
theorem J5(w:World)(B mb m:Nat)(F:Nat->PF)(MV:Nat->Value)(A:Af)(s:Mc)(en:Int)(f g:Fr)(r:List Fr)(v:V)(hM:AH w B mb m F MV A s en)(hs:s.fr=f::g::r)(hg:g.stk.length<=60)(hr:r.length<=60) :
  Calls prog 131 #[.pointer (some ⟨mb,0,none⟩),.agg #[.int .i64 v.k,.int .i64 v.n]] w fun e w'=>e=.returned (.tuple #[]) /\
   AQ w B mb m F MV (r.length+2) A {s with fr:={g with stk:=v::g.stk}::r,high:=s.high.drop 1} en w'/\w'.cell? ⟨A.FB (r.length+1),4,none⟩=w.cell? ⟨A.FB (r.length+1),4,none⟩:=by
 have hbl:Below w.heap.size w (w.alloc (.cells #[.int .i64 v.k,.int .i64 v.n] 43)):=(Tu _ _).alloc (Te _) _;have b0:(w.alloc (.cells #[.int .i64 v.k,.int .i64 v.n] 43)).heap[w.heap.size]?=some (.cells #[.int .i64 v.k,.int .i64 v.n] 43 (0,0)):=Tv _ _;have hlen:s.fr.length=r.length+1+1:=by rw[hs];rfl
 obtain⟨e1,e2,e3⟩:=hM.lay.fb (r.length+1) (by omega);have hfz:=Ah e1;have hcf:(w.alloc (.cells #[.int .i64 v.k,.int .i64 v.n] 43)).cell? ⟨A.FB (r.length+1),4,none⟩=w.cell? ⟨A.FB (r.length+1),4,none⟩:=hbl.cell hfz;obtain⟨A3,l3,p3,t3,c3,tf⟩:∃ A3:Af,AB (w.alloc (.cells #[.int .i64 v.k,.int .i64 v.n] 43)) B mb A3 s en/\A3.g=A.g/\A3.tag w.heap.size=5/\Ch B N5 A.tag A3.tag w (w.alloc (.cells #[.int .i64 v.k,.int .i64 v.n] 43))/\A3.tag (A.FB (r.length+1))=10+4 * (r.length+1) :=
  ⟨_,hM.lay.box _,rfl,Au _ _ _,Ch.of_tags hbl (fun b hb=>Ao _ _ _ _ (by omega)),by show Ac A.tag w.heap.size 5 _=_;rw[Ao _ _ _ _ (by omega)];simpa using e3⟩
 have HM:=Aa (Tc l3 (Tc p3 (Tc t3 (Tc c3 (Tc b0 (Tc hcf (Tc tf hM)))))));generalize A.FB (r.length+1)=fb at *;clear l3 p3 t3 c3 b0 hM hbl hcf tf e1 e2 e3;go_enter func131,ntmps131
 go_wp2_with fail
 obtain⟨l3,p3,t3,c3,b0,hcf,tf,hM⟩:=HM.out;clear HM;generalize w.alloc (.cells #[.int .i64 v.k,.int .i64 v.n] 43)=W at *;generalize hbx:w.heap.size=bx at *;have l4r:=l3.fr;rw[hlen] at l4r;obtain⟨gb,gcap,hgv,hgB,hgz,hgt,hgc⟩:=l4r.form (by omega);rw[hgv] at l4r;have x1:W.cell? ⟨mb,3,none⟩=some (.slice (some ⟨gb,0,none⟩) (r.length+1+1) gcap):=by rw[Ab l3.run,<-hgv];rfl
 have z1:W.frozen? ⟨mb,3,none⟩=false:=Ax l3.run;have q1:W.cell? ⟨gb,r.length+1,none⟩=some (CE A3.FB (r.length+1)):=l4r.cell (i:=r.length+1) (by show r.length+1<(r.length+1+1) * 1;omega);have q0:W.cell? ⟨gb,r.length,none⟩=some (CE A3.FB r.length):=l4r.cell (i:=r.length) (by show r.length<(r.length+1+1) * 1;omega);obtain⟨l4,c4⟩:=l3.popped hs hgv;have hmt:=l3.own.2;have hmz:=Ah l3.run;have hpopf:=Ke W mb 3 (r.length+1) gb gcap _ x1 z1 q1 (by omega) hgc;have HPF:=Aa hpopf;have hbxz:=Ah b0;obtain⟨b5,_⟩:=Bq b0 c4 (by rw[t3];omega);have q5:(W.setCell ⟨mb,3,none⟩ (.slice (some ⟨gb,0,none⟩) (r.length+1) gcap)).cell? ⟨gb,r.length,none⟩=some (CE A3.FB r.length):=(c4.cell (a:=⟨gb,r.length,none⟩) hgz (by rw[hgt];omega)).trans q0;have x5:(W.setCell ⟨mb,3,none⟩ (.slice (some ⟨gb,0,none⟩) (r.length+1) gcap)).cell? ⟨mb,3,none⟩=some (.slice (some ⟨gb,0,none⟩) (r.length+1) gcap):=by rw[Ab (AM l3.run _)];rfl
 have hfbz:fb<W.heap.size:=by have:=c3.size;omega
 have f5:(W.setCell ⟨mb,3,none⟩ (.slice (some ⟨gb,0,none⟩) (r.length+1) gcap)).cell? ⟨fb,4,none⟩=w.cell? ⟨fb,4,none⟩:=(c4.cell (a:=⟨fb,4,none⟩) hfbz (by rw[tf];omega)).trans hcf;have hfb5:fb<(W.setCell ⟨mb,3,none⟩ (.slice (some ⟨gb,0,none⟩) (r.length+1) gcap)).heap.size:=by simp[World.setCell];omega
 have c5:Ch B N5 A.tag A3.tag w (W.setCell ⟨mb,3,none⟩ (.slice (some ⟨gb,0,none⟩) (r.length+1) gcap)):=c3.trans (c4.mono (q:=N5) (fun d hd=>by unfold N5;omega));clear hpopf l3 c3 c4 l4r hgv hcf x1 z1 q1 q0 b0;refine HPF.out.mono ?_;rintro e w6 ⟨rfl,hw6⟩;rw[hw6];clear hw6 w6 HPF;generalize W.setCell ⟨mb,3,none⟩ (.slice (some ⟨gb,0,none⟩) (r.length+1) gcap)=X at *;have HX:=Aa (Tc l4 (Tc c5 (Tc p3 (Tc b5 (Tc f5 (Tc tf (Tc hM t3)))))));have HQ5:=Aa (Tc q5 x5);have hrn:((r.length+1:Nat):Int)=(r.length:Int)+1:=by omega
 clear l4 c5 p3 b5 f5 tf hM t3 q5;go_wp2_with fail
 refine(FX X mb 3 (r.length+1) gcap _ x5).mono ?_;rintro e w6 ⟨rfl,hw6⟩;rw[hw6];clear hw6 w6 x5;have hz0:(((r.length+1:Nat):Int)==0)=false:=by simp;omega
 generalize hrl:r.length+1=rl at *;have HRL:=Aa hrl;clear hrl hrn;go_wp2_with fail
 have hS0:Hb [(bx,#[Value.int .i64 v.k,Value.int .i64 v.n],43)] X.drew:=fun t ht=>by
  obtain rfl:t=(bx,#[Value.int .i64 v.k,Value.int .i64 v.n],43):=by simpa using ht
  exact HX.out.2.2.2.1
 have S0:=Aa hS0;refine AG (Hb [(bx,#[Value.int .i64 v.k,Value.int .i64 v.n],43)]) [(false,0),(false,1),(false,2),(false,6),(true,3),(true,4),(true,5),(true,7)] (by kernel_rfl) (by kernel_rfl) (A8 _ _) hS0 ?_;clear hS0;simp only[lexL,Tl,Tm];iterate 4 (refine Aw (by rfl) (by intro w' hS';obtain⟨y0,y1,_,_⟩:=hS'.two Ti;clear hS';go_simp;exact rfl) ?_;simp only[Act.put,Td,Th,Tg])
 refine Az (fun K hK=>?_);go_simp;have htop:=Ha X.drew mb 3 r.length gb gcap (CE A3.FB r.length) (by rw[HRL.out];exact HQ5.out.2) HQ5.out.1 (by omega);refine htop.mono ?_;rintro e w6 ⟨rfl,k6,hw6⟩;have hB6:Below X.heap.size X w6:=by rw[hw6];exact below_drewN (Tu _ _).drew _
 have HB6:=Aa hB6;have S6:=Aa (show Hb [(bx,#[Value.int .i64 v.k,Value.int .i64 v.n],43)] w6 from (show Hb [(bx,#[Value.int .i64 v.k,Value.int .i64 v.n],43)] X from S0.out).below hB6);refine hK.out _ _ S6.out ?_;clear hK K htop hw6 hB6;unfold CE;refine Az (fun K hK=>?_);go_simp;refine hK.out _ _ S6.out ?_;clear hK K;refine Az (fun K hK=>?_);go_simp;refine hK.out _ _ S6.out ?_;clear hK K;refine Az (fun K hK=>?_);go_simp;have hpush:=SZ (fbk:=A3.FB r.length) HX.out.1 rfl (by have:=HX.out.2.1.size;have:=HX.out.2.2.2.2.2.2.1.le;omega) (by omega) rfl v w6 HB6.out;refine hpush.mono ?_;rintro e w7 ⟨rfl,A7,l7,p7,c7⟩;have tb7:=HX.out.2.2.2.2.2.2.2;have hbx7:=Ah HX.out.2.2.2.1;have b7:w7.heap[bx]?=some (.cells #[.int .i64 v.k,.int .i64 v.n] 43 (0,0)):=(c7.block bx hbx7 (Or.inr (by rw[tb7];exact Ht _))).trans HX.out.2.2.2.1;have f7:w7.cell? ⟨fb,4,none⟩=w.cell? ⟨fb,4,none⟩:=(c7.cell (a:=⟨fb,4,none⟩) hfb5 (by show ¬Tk r.length (A3.tag fb);rw[HX.out.2.2.2.2.2.1];have:=HRL.out;unfold Tk;omega)).trans HX.out.2.2.2.2.1;have hcN:Ch B N5 A.tag A7.tag w w7:=HX.out.2.1.trans (c7.mono (fun _=>Ek));have hgG:A7.g=A.g:=p7.trans HX.out.2.2.1;have hM0:=HX.out.2.2.2.2.2.2.1;have hhl:=hM0.hl;have hrl2:=HRL.out;have hMf:=hM0.ch (s':={s with fr:={g with stk:=v::g.stk}::r,high:=s.high.drop 1}) (l7.like rfl rfl rfl rfl rfl) (by show (s.high.drop 1).length=r.length+1;rw[List.length_drop];omega) (fun i hi=>by
  have hi':i<r.length+1:=hi;show CT (A7.g.CV i) (AU (s.high.drop 1) i);rw[hgG,PI (n:=r.length+1) (by omega) i hi'];exact hM0.cod i (by omega)) (by show A7.g.hi=_/\A7.g.up=_/\A7.g.dn=_;rw[hgG];exact hM0.cnt) rfl (Bw.of hgG) hcN
 have HQ:=Aa (Tc (show AQ w B mb m F MV (r.length+2) A {s with fr:={g with stk:=v::g.stk}::r,high:=s.high.drop 1} en w7 from ⟨A7,hMf,Bw.of hgG,hcN,fun i _ _=>Dc hgG i,fun i hi=>⟨fun _=>by rw[hgG],fun h=>absurd (show i<r.length+1 from hi) (by omega)⟩⟩) f7);refine hK.out _ _ (fun t ht=>by
  obtain rfl:t=(bx,#[Value.int .i64 v.k,Value.int .i64 v.n],43):=by simpa using ht
  exact b7) ?_
 clear hK K hpush l7 p7 c7 b7 f7 hcN hgG hMf hM0 hhl hrl2;refine AF ?_;go_wp2;go_end0;exact⟨rfl,HQ.out⟩
section
variable {w:World}{B mb m:Nat}{A:Af}{en:Int}{s:Mc}{F:Nat->PF}{MV:Nat->Value}{f:Fr}{rest:List Fr}
theorem AB.tick(h:AB w B mb A s en)(n:Nat) :
  AB (w.setCell ⟨mb,7,none⟩ (.int .i64 n)) B mb A {s with steps:=n} en/\Ch B (fun d=>d=0) A.tag A.tag w (w.setCell ⟨mb,7,none⟩ (.int .i64 n)):=by
 have hc:Ch B (fun d=>d=0) A.tag A.tag w (w.setCell ⟨mb,7,none⟩ (.int .i64 n)):=Ch.set w _ _ _ h.own.1 h.own.2;refine⟨⟨AM h.run _,h.own,h.fr.keep hc (by omega),fun i hi=>?_,h.ar.keep hc (by omega),h.out.keep hc (by omega),fun i hi=>(h.loc i hi).keep hc (by omega),fun i hi=>(h.stk i hi).keep hc (by omega),fun j hj=>(h.arr j hj).keep hc (by omega)⟩,hc⟩;obtain⟨g1,g2,g3⟩:=h.fb i hi;obtain⟨g4,g5⟩:=Bq g1 hc (by rw[g3];omega);exact⟨g4,g2,g5.trans g3⟩
def GO.cnt(g:GO)(k:Nat)(v:Int):GO:={g with hi:=if k=8 then v else g.hi,up:=if k=9 then v else g.up,dn:=if k=10 then v else g.dn}
theorem AB.counted(h:AB w B mb A s en)(k:Nat)(hk:k=8\/k=9\/k=10)(v:Int) :
  AB (w.setCell ⟨mb,k,none⟩ (.int .i64 v)) B mb {A with g:=A.g.cnt k v} s en/\Ch B (fun d=>d=0) A.tag A.tag w (w.setCell ⟨mb,k,none⟩ (.int .i64 v)):=by
 have hc:Ch B (fun d=>d=0) A.tag A.tag w (w.setCell ⟨mb,k,none⟩ (.int .i64 v)):=Ch.set w _ _ _ h.own.1 h.own.2;refine⟨⟨?_,h.own,h.fr.keep hc (by omega),fun i hi=>?_,h.ar.keep hc (by omega),h.out.keep hc (by omega),fun i hi=>(h.loc i hi).keep hc (by omega),fun i hi=>(h.stk i hi).keep hc (by omega),fun j hj=>(h.arr j hj).keep hc (by omega)⟩,hc⟩
 ·rw[AM h.run _];rcases hk with rfl|rfl|rfl<;>rfl
 ·obtain⟨g1,g2,g3⟩:=h.fb i hi;obtain⟨g4,g5⟩:=Bq g1 hc (by rw[g3];omega);exact⟨g4,g2,g5.trans g3⟩
theorem Qo(X:World):(binOp .neq 136 (.slice none 0 0) (.slice none 0 0)).run prog X=.ok (.bool false) X:=by
 go_simp
theorem PC(a:Addr)(n c:Nat)(X:World):(binOp .neq 136 (.slice (some a) n c) (.slice none 0 0)).run prog X=.ok (.bool true) X:=by
 go_simp
theorem Hu{v:Value}{b:Bool}(h:CT v b)(X:World):(binOp .neq 136 v (.slice none 0 0)).run prog X=.ok (.bool b) X:=by
 rcases h with⟨rfl,rfl⟩|⟨rfl,a,n,c,rfl⟩
 ·exact Qo X
 ·exact PC a n c X
theorem Fk{v:Value}{b:Bool}(h:CT v b):∃ p n c,v=.slice p n c:=by
 rcases h with⟨_,h⟩|⟨_,a,n,c,h⟩
 ·exact⟨_,_,_,h⟩
 ·exact⟨_,_,_,h⟩
def Eo(w:World)(mb:Nat)(st hi:Nat)(n:Nat)(b:Bool):World :=
 if b=true then (w.setCell ⟨mb,7,none⟩ (.int .i64 (st+n:Nat))).setCell ⟨mb,8,none⟩ (.int .i64 (hi+n:Nat)) else w.setCell ⟨mb,7,none⟩ (.int .i64 (st+n:Nat))
theorem NT(w:World)(mb fb:Nat)(st hi n:Nat)(cv:Value)(b:Bool)(hst:w.cell? ⟨mb,7,none⟩=some (.int .i64 st))(hz:w.frozen? ⟨mb,7,none⟩=false)(hhi:w.cell? ⟨mb,8,none⟩=some (.int .i64 hi))(hz8:w.frozen? ⟨mb,8,none⟩=false)(hc:w.cell? ⟨fb,4,none⟩=some cv)(hcv:CT cv b)(hne:¬fb=mb)(hb:st<=1000000)(hh:hi<=1000000)(hn:n<=1000) :
  Calls prog 88 #[.pointer (some ⟨mb,0,none⟩),.pointer (some ⟨fb,0,none⟩),.int .i64 n] w fun e w'=>e=.returned (.tuple #[])/\w'=Eo w mb st hi n b:=by
 have hcn:=fun X=>Hu hcv X
 obtain⟨p,cl,cc,rfl⟩:=Fk hcv;clear hcv;have hsp:(0:Int)<=(st:Int)/\(st:Int)<=1000000:=by omega
 have hhp:(0:Int)<=(hi:Int)/\(hi:Int)<=1000000:=by omega
 have hnp:(0:Int)<=(n:Int)/\(n:Int)<=1000:=by omega
 unfold Eo;have e6:((st+n:Nat):Int)=(st:Int)+(n:Int):=by omega
 have e7:((hi+n:Nat):Int)=(hi:Int)+(n:Int):=by omega
 rw[e6,e7];generalize (st:Int)=sp at *;generalize (hi:Int)=hp at *;generalize (n:Int)=np at *;have e5:wrap64 (sp+np)=sp+np:=by unfold wrap64;omega
 have e8:wrap64 (hp+np)=hp+np:=by unfold wrap64;omega
 have hc2:(w.setCell ⟨mb,7,none⟩ (.int .i64 (sp+np))).cell? ⟨fb,4,none⟩=some (.slice p cl cc):=by
  rw[To _ _ _ _ (fun e=>hne e.symm)];exact hc
 cases b
 ·go_enter func88,ntmps88
  go_wp2;go_end0;exact⟨rfl,by simp⟩
 ·go_enter func88,ntmps88
  go_wp2;go_end0;exact⟨rfl,by simp⟩
theorem AB.ticks(h:AB w B mb A s en)(n:Nat)(b:Bool)(hhi:A.g.hi=s.cH) :
  ∃ A':Af,AB (Eo w mb s.steps s.cH n b) B mb A' {s with steps:=s.steps+n,cH:=s.cH+(if b=true then n else 0)} en/\A'={A with g:={A.g with hi:=A'.g.hi}}/\A'.g.hi=(s.cH+(if b=true then n else 0):Nat)/\Ch B (fun d=>d=0) A.tag A.tag w (Eo w mb s.steps s.cH n b):=by
 obtain⟨l1,c1⟩:=h.tick (s.steps+n);unfold Eo;cases b
 ·rw[if_neg (by simp)];exact⟨A,l1.like rfl rfl rfl rfl rfl,rfl,by simpa using hhi,c1⟩
 ·rw[if_pos rfl];obtain⟨l2,c2⟩:=l1.counted 8 (by omega) (s.cH+n:Nat);refine⟨_,l2.like rfl rfl rfl rfl rfl,rfl,?_,c1.trans c2⟩;simp[GO.cnt]
theorem AH.count(hM:AH w B mb m F MV A s en)(fb:Nat)(cv:Value)(b:Bool)(hc:w.cell? ⟨fb,4,none⟩=some cv)(hcv:CT cv b)(hne:¬fb=mb)(hb:s.steps<=1000000)(hh:s.cH<=1000000)(n:Nat)(hn:n<=1000) :
  Calls prog 88 #[.pointer (some ⟨mb,0,none⟩),.pointer (some ⟨fb,0,none⟩),.int .i64 n] w fun e w'=>e=.returned (.tuple #[])/\w'=Eo w mb s.steps s.cH n b/\AQ w B mb m F MV s.fr.length A {s with steps:=s.steps+n,cH:=s.cH+(if b=true then n else 0)} en w':=by
 have x7:w.cell? ⟨mb,7,none⟩=some (.int .i64 s.steps):=by rw[Ab hM.lay.run];rfl
 have x8:w.cell? ⟨mb,8,none⟩=some (.int .i64 s.cH):=by rw[Ab hM.lay.run,<-hM.cnt.1];rfl
 refine(NT w mb fb s.steps s.cH n cv b x7 (Ax hM.lay.run) x8 (Ax hM.lay.run) hc hcv hne hb hh hn).mono ?_;rintro e w' ⟨rfl,rfl⟩;obtain⟨A',l1,eA,eH,c1⟩:=hM.lay.ticks n b hM.cnt.1;have cN:Ch B N5 A.tag A'.tag w (Eo w mb s.steps s.cH n b):=by rw[eA];exact c1.mono (q:=N5) (fun d hd=>by unfold N5;omega)
 have hsg:Bw A A':=by rw[eA];exact⟨rfl,rfl,rfl⟩
 have hcv':A'.g.CV=A.g.CV:=by rw[eA]
 refine⟨rfl,rfl,A',hM.ch l1 hM.hl (fun i hi=>by rw[hcv'];exact hM.cod i hi) ⟨eH,by rw[eA];exact hM.cnt.2.1,by rw[eA];exact hM.cnt.2.2⟩ rfl hsg cN,hsg,cN,fun i _ _=>by unfold Af.FB;rw[eA],fun i hi=>⟨fun _=>by rw[hcv'],fun h=>absurd (show i<s.fr.length from hi) (by omega)⟩⟩
theorem AH.top(hM:AH w B mb m F MV A s en)(hs:s.fr=f::rest) :
  w.cell? ⟨A.FB rest.length,4,none⟩=some (A.g.CV rest.length)/\¬A.FB rest.length=mb/\w.cell? ⟨A.FB rest.length,1,none⟩=some (.int .i64 f.pc)/\w.frozen? ⟨A.FB rest.length,1,none⟩=false/\w.cell? ⟨A.FB rest.length,0,none⟩=some (.int .i64 f.fn)/\A.tag (A.FB rest.length)=10+4 * rest.length/\A.FB rest.length<w.heap.size:=by
 have hlen:s.fr.length=rest.length+1:=by rw[hs];rfl
 obtain⟨g1,g2,g3⟩:=hM.lay.fb rest.length (by omega);have e0:Am s.fr rest.length=f:=by rw[hs];exact Bg _ _
 rw[e0] at g1;refine⟨(Ab g1).trans rfl,fun e=>?_,(Ab g1).trans rfl,Ax g1,(Ab g1).trans rfl,g3,Ah g1⟩;rw[e,hM.lay.own.2] at g3;omega
theorem AH.gear(hM:AH w B mb m F MV A s en)(hs:s.fr=f::rest):CT (A.g.CV rest.length) (s.high.headD false):=by
 have hlen:s.fr.length=rest.length+1:=by rw[hs];rfl
 have hc:=hM.cod rest.length (by omega);have hl:=hM.hl;cases hh:s.high with
 |nil=>rw[hh] at hl;simp at hl;omega
 |cons b r =>
  rw[hh] at hc hl;rw[Ff b r (by simp at hl;omega)] at hc;exact hc
theorem AH.goto(hM:AH w B mb m F MV A s en)(hs:s.fr=f::rest)(pc:Nat):AQ w B mb m F MV s.fr.length A {s with fr:={f with pc:=pc}::rest} en (w.setCell ⟨A.FB rest.length,1,none⟩ (.int .i64 pc)):=by
 obtain⟨l1,c1⟩:=hM.lay.goto hs pc;exact hM.aft ⟨A,l1,rfl,c1.mono (q:=N5) (fun _=>Ek)⟩ ⟨by rw[hs];rfl,rfl,rfl,rfl,rfl,rfl⟩
theorem AQ.then_{w1 w':World}{n0:Nat}{A1:Af}{s1 s':Mc}(hn:s1.fr.length=n0)(hg:Bw A A1)(hc:Ch B N5 A.tag A1.tag w w1)(hf:∀ i,A1.FB i=A.FB i)(hcv:∀ i,i<n0->A1.g.CV i=A.g.CV i)(h:AQ w1 B mb m F MV s1.fr.length A1 s' en w'):AQ w B mb m F MV n0 A s' en w':=by
 obtain⟨A',h1,h2,h3,h4,h5⟩:=h;subst hn;exact⟨A',h1,hg.trans h2,hc.trans h3,fun i hi hn=>(h4 i hi hn).trans (hf i),fun i hi=>⟨fun h=>((h5 i hi).1 h).trans (hcv i h),(h5 i hi).2⟩⟩
theorem AH.pass(hM:AH w B mb m F MV A s en)(hs:s.fr=f::rest)(hb:s.steps<=1000000)(hh:s.cH<=1000000)(hpc:f.pc<=1000)(n:Nat)(hn:n<=1000) :
  Calls prog 122 #[.pointer (some ⟨mb,0,none⟩),.pointer (some ⟨A.FB rest.length,0,none⟩),.int .i64 n] w fun e w'=>e=.returned (.tuple #[])/\AQ w B mb m F MV s.fr.length A {s with steps:=s.steps+n,cH:=s.cH+(if s.high.headD false=true then n else 0),fr:={f with pc:=f.pc+n}::rest} en w':=by
 obtain⟨t1,t2,t3,t4,_,_,_⟩:=hM.top hs;have hcg:=hM.gear hs;have HC:=Aa (hM.count (A.FB rest.length) _ _ t1 hcg t2 hb hh n hn);obtain⟨A',l1,eA,eH,c1⟩:=hM.lay.ticks n (s.high.headD false) hM.cnt.1;have cN:Ch B N5 A.tag A'.tag w (Eo w mb s.steps s.cH n (s.high.headD false)):=by rw[eA];exact c1.mono (q:=N5) (fun d hd=>by unfold N5;omega)
 have hsg:Bw A A':=by rw[eA];exact⟨rfl,rfl,rfl⟩
 have hcv':A'.g.CV=A.g.CV:=by rw[eA]
 have hfb:∀ i,A'.FB i=A.FB i:=fun i=>by unfold Af.FB;rw[eA]
 have hM1:=hM.ch l1 hM.hl (fun i hi=>by rw[hcv'];exact hM.cod i hi) ⟨eH,by rw[eA];exact hM.cnt.2.1,by rw[eA];exact hM.cnt.2.2⟩ rfl hsg cN;obtain⟨_,_,u3,u4,_,_,_⟩:=hM1.top hs;have hg:=hM1.goto hs (f.pc+n);rw[hfb] at hg u3 u4;have e6:((f.pc+n:Nat):Int)=(f.pc:Int)+(n:Int):=by omega
 rw[e6] at hg;have HQ:=Aa (AQ.then_ (n0:=s.fr.length) rfl hsg cN hfb (fun i _=>by rw[hcv']) hg);clear hM hM1 l1 c1 cN hg t1 t2 t3 t4 e6 hsg hcv' hfb eA eH hcg;generalize A.FB rest.length=fb at *;generalize Eo w mb s.steps s.cH n (s.high.headD false)=W at *;have hp0:0<=(f.pc:Int)/\(f.pc:Int)<=1000:=by omega
 have hnp:(0:Int)<=(n:Int)/\(n:Int)<=1000:=by omega
 obtain⟨pcl,hpcl⟩:∃ pcl,pcl=(f.pc:Int):=⟨_,rfl⟩
 obtain⟨np,hnl⟩:∃ np,np=(n:Int):=⟨_,rfl⟩
 rw[<-hpcl] at u3 hp0;rw[<-hnl] at hnp;have HZ:=Aa (Tc hpcl hnl);rw[<-hnl] at HC ⊢;have HQ2:Hid (AQ w B mb m F MV s.fr.length A {s with steps:=s.steps+n,cH:=s.cH+(if s.high.headD false=true then n else 0),fr:={f with pc:=f.pc+n}::rest} en (W.setCell ⟨fb,1,none⟩ (.int .i64 (pcl+np)))):=by
  unfold Hid;rw[hpcl,hnl];exact HQ.out
 clear hpcl hnl hpc hn HQ;generalize s.fr.length=n0 at *;generalize ({s with steps:=s.steps+n,cH:=s.cH+(if s.high.headD false=true then n else 0),fr:={f with pc:=f.pc+n}::rest}:Mc)=s' at *;have e5:wrap64 (pcl+np)=pcl+np:=by unfold wrap64;omega
 go_enter func122,ntmps122
 go_wp2_with fail
 refine HC.out.mono ?_;rintro e w1 ⟨rfl,hw1,hjk⟩;clear hjk;rw[hw1];clear hw1 w1;go_wp2;go_end0;exact⟨rfl,HQ2.out⟩
end
end Go.Proofs.YtkafkipjedpohaaGreatDoor

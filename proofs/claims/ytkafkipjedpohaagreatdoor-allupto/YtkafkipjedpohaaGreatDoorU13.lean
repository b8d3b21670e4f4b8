import Derived.Test.YtkafkipjedpohaaGreatDoorE2
namespace Go.Proofs.YtkafkipjedpohaaGreatDoor
set_option maxRecDepth 100000
set_option maxHeartbeats 16000000
open Go.RowKit _root_.Go.Proofs.Tryz
section
variable {w:World}{B k B1:Nat}{tag tag':Nat->Nat}{v:Value}
theorem Ae.rebase{c:Nat}{e:TypeId}{sz:Nat}{n:Nat}{f:Nat->Value}(h:Ae w B1 tag c e sz v n f)(hB:B<=B1)(ht:∀ b,B1<=b->b<w.heap.size->tag' b=tag b):Ae w B tag' c e sz v n f:=by
 rcases h with h|⟨b,cap,cur,hv,hb,htb,hh,hr⟩
 ·exact Or.inl h
 ·exact Or.inr ⟨b,cap,cur,hv,by omega,(ht b hb (Ah hh)).trans htb,hh,hr⟩
theorem Cc.rebase{LV SV:Nat->Value}{fr:Nat->Fr}(h:Cc w B1 tag v LV SV fr k)(hB:B<=B1)(ht:∀ b,B1<=b->b<w.heap.size->tag' b=tag b):Cc w B tag' v LV SV fr k :=
 ⟨h.row.rebase hB ht,fun i hi=>(h.loc i hi).rebase hB ht,fun i hi=>(h.stk i hi).rebase hB ht⟩
theorem Cd.rebase{AV:Nat->Value}{arr:List (List V)}(h:Cd w B1 tag v AV arr k)(hB:B<=B1)(ht:∀ b,B1<=b->b<w.heap.size->tag' b=tag b):Cd w B tag' v AV arr k :=
 ⟨h.row.rebase hB ht,fun i hi=>(h.arr i hi).rebase hB ht⟩
theorem Cc.below{w':World}{LV SV:Nat->Value}{fr:Nat->Fr}(h:Cc w B tag v LV SV fr k)(c:Below w.heap.size w w'):Cc w' B tag v LV SV fr k :=
 ⟨h.row.below c,fun i hi=>(h.loc i hi).below c,fun i hi=>(h.stk i hi).below c⟩
theorem Cd.below{w':World}{AV:Nat->Value}{arr:List (List V)}(h:Cd w B tag v AV arr k)(c:Below w.heap.size w w'):Cd w' B tag v AV arr k :=
 ⟨h.row.below c,fun i hi=>(h.arr i hi).below c⟩
theorem B3.afterS{X w2:World}{wb:Nat}{A A2:AN}{n n2:Nat->Nat}{nc:Nat}{CV PV:Nat->Value}{M:Nat->Nat}{FF:Nat->Nat->PF}{tX:Nat->Nat}(h:B3 w B wb A n nc CV PV M FF)(hX:Below w.heap.size w X)(ht:∀ b,b<w.heap.size->tX b=A.tag b)
  (h2:AZ w2 B wb A2 (fun d=>d=9) n2) (hb:∀ b,b<X.heap.size->(b<B\/tX b=3\/tX b=4\/tX b=9)->w2.heap[b]?=X.heap[b]?) (htt:∀ b,b<X.heap.size->(tX b=3\/tX b=4\/tX b=9)->A2.tag b=tX b) (hz:X.heap.size<=w2.heap.size) (hcv:A2.cv=A.cv) (hpv:A2.pv=A.pv) (h4:∀ k,k<4->n2 k % 4=0) :
  B3 w2 B wb A2 n2 nc CV PV M FF:=by
 have hrow:∀ {c:Nat} {e:TypeId} {sz:Nat} {v:Value} {m:Nat} {f:Nat->Value},(c=3\/c=4)->Ae w B A.tag c e sz v m f->Ae w2 B A2.tag c e sz v m f:=by
  intro c e sz v m f hc hr;rcases hr with hr|⟨b,cap,cur,hv,hbB,htb,hh,hr⟩
  ·exact Or.inl hr
  ·have hlt:=Ah hh;have hx:=Ts hlt hX.size;have e1:tX b=c:=(ht b hlt).trans htb;exact Or.inr ⟨b,cap,cur,hv,hbB,(htt b hx (by omega)).trans e1,(hb b hx (by omega)).trans ((hX.block b hlt).trans hh),hr⟩
 refine⟨h2,h4,by rw[hcv];exact hrow (by omega) h.cr,by rw[hpv];exact hrow (by omega) h.pr,fun i hi=>(h.cd i hi).keep (Nat.le_trans hX.size hz) (fun b hs=>?_) (fun b hlt h9=>?_)⟩
 ·have hx:=Ts hs.1 hX.size;refine(hb b hx ?_).trans (hX.block b hs.1);rcases hs.2 with h|h
  ·exact Or.inl h
  ·exact Or.inr (Or.inr (Or.inr ((ht b hs.1).trans h)))
 ·have hx:=Ts hlt hX.size;have e1:tX b=9:=(ht b hlt).trans h9;exact(htt b hx (by omega)).trans e1
theorem QJ(w:World)(B wb:Nat)(A:AN)(n:Nat->Nat)(nc:Nat)(CV PV:Nat->Value)(M:Nat->Nat)(FF:Nat->Nat->PF)(h:B3 w B wb A n nc CV PV M FF)(at_ N:Int)(ep pp:Option Addr)(el ec pl pc:Nat)(hat:-9223372036854775808<=at_/\at_<=9223372036854775807)(hnc:1<=nc)(hnc2:nc<=10000000)(hnb:∀ k,k<4->n k<=3000000000000) :
  Calls prog 38 #[.pointer (some ⟨wb,0,none⟩),.agg #[.int .i64 4,.int .i64 at_,.int .i64 N,.slice ep el ec,.slice pp pl pc]] w (Cn w B wb n nc CV PV M FF):=by
 have hcr:=h.cr;have hpr:=h.pr;obtain⟨crb,crc,hcv,_,hcz,hct,_⟩:=hcr.form (by omega);obtain⟨prb,prc,hpv,_,hpz,hpt,_⟩:=hpr.form (by omega);rw[hcv] at hcr;rw[hpv] at hpr;have x0:w.cell? ⟨wb,0,none⟩=some (.slice (some ⟨crb,0,none⟩) nc crc):=by rw[Ab h.hold.blk,<-hcv];rfl
 have x1:w.cell? ⟨wb,1,none⟩=some (.slice (some ⟨prb,0,none⟩) nc prc):=by rw[Ab h.hold.blk,<-hpv];rfl
 have hwz:=Ah h.hold.blk;obtain⟨W,hWd⟩:∃ W,W=w.alloc (.cells #[.int .i64 4,.int .i64 at_,.int .i64 N,.slice ep el ec,.slice pp pl pc] 100):=⟨_,rfl⟩
 have hW:Below w.heap.size w W:=by rw[hWd];exact(Tu _ _).alloc (Te _) _
 have ob:W.heap[w.heap.size]?=some (.cells #[.int .i64 4,.int .i64 at_,.int .i64 N,.slice ep el ec,.slice pp pl pc] 100 (0,0)):=by rw[hWd];exact Tv _ _
 have o1:W.cell? ⟨w.heap.size,1,none⟩=some (.int .i64 at_):=(Ab ob).trans rfl;have y0:=(hW.cell (p:=⟨wb,0,none⟩) hwz).trans x0;have y1:=(hW.cell (p:=⟨wb,1,none⟩) hwz).trans x1;have hrc:=fun r (hr:r<nc)=>(hW.cell (p:=⟨crb,r,none⟩) hcz).trans (hcr.cell (i:=r) (by omega))
 have hrp:=fun r (hr:r<nc)=>(hW.cell (p:=⟨prb,r,none⟩) hpz).trans (hpr.cell (i:=r) (by omega))
 have HX:=Aa (Tc h (Tc hnb (Tc hW (Tc ob (Tc hrc hrp)))));have HD:=Aa hWd;clear h hnb hcr hpr hcv hpv x0 x1 hW ob hrc hrp hct hpt hWd;have hoz:w.heap.size<W.heap.size:=Ah HX.out.2.2.2.1;have hwzW:wb<W.heap.size:=by omega
 go_enter func38,ntmps38
 go_wp2_with fail
 rw[<-HD.out];refine AG (fun w'=>w'.cell? ⟨w.heap.size,1,none⟩=some (.int .i64 at_)/\w'.cell? ⟨wb,0,none⟩=some (.slice (some ⟨crb,0,none⟩) nc crc)) TH (by kernel_rfl) (by kernel_rfl) (Co _ _ _) ⟨o1,y0⟩ ?_;simp only[TH,lexL,Tl,Tm];iterate 7 (refine Aw (by rfl) (by intro w' hS';obtain⟨q0,q1⟩:=hS';go_simp;exact rfl) ?_;simp only[Act.put,Td,Th,Tg])
 refine Az (fun K hK=>?_);go_simp;refine(Gi at_ (nc:Int) W.drew hat (by omega)).mono ?_;rintro e w' ⟨r,rfl,hr,rfl⟩;refine hK.out _ _ ⟨o1,y0⟩ ?_;clear hK K;refine Aw (by rfl) (by intro w' hS';go_simp;exact rfl) ?_;simp only[Act.put,Td,Th,Tg];refine AF ?_;have hrn:r<nc:=by omega
 obtain⟨cb,g,cap,CA,CC,pb,po,pcc,CA2,CC2,K,H,ecv,c1,hP,hcc,epv,hP2,hF,hcbz⟩:=Gw (HX.out.1.cd r hrn);have z0:=HX.out.2.2.2.2.1 r hrn;have z1:=HX.out.2.2.2.2.2 r hrn;rw[ecv] at z0;rw[epv] at z1;have hWB:=HX.out.2.2.1;have hWd2:Below W.heap.size W W.drew:=(Tu _ _).drew;have hszs:=EX hF (AX N);have hfl:=EI N;have hrun:=Pm W.drew cb g 0 cap (M r) (FF r) K H CA CC N (((hWB.trans (hWd2.mono hWB.size)).cell (p:=⟨cb,0,none⟩) hcbz).trans c1) (hP.below (hWB.trans (hWd2.mono hWB.size)) (Te _)) hcc hF;have o0:W.cell? ⟨w.heap.size,0,none⟩=some (.int .i64 4):=(Ab HX.out.2.2.2.1).trans rfl;have o2:W.cell? ⟨w.heap.size,2,none⟩=some (.int .i64 N):=(Ab HX.out.2.2.2.1).trans rfl;have HR:=Aa hrun;have HP:=Aa (Tc hP2 (Tc hF (Tc hszs hfl)));have i0:(0:Int)<=(r:Int):=by omega
 clear hrun hP hP2 hF hszs hfl ecv epv c1 hWB hWd2;go_wp2_with fail
 refine HR.out.mono ?_;rintro e w2 ⟨fv,av,LV,SV,AV,tg,rfl,hB2,hFo,hAo⟩;have hszs:ER (Bl (FF r) N)/\(Bl (FF r) N).arr.length<=100000:=⟨HP.out.2.2.1.1,by have h1:=HP.out.2.2.1.2.1;have h2:=HP.out.2.2.2;show (AY (FF r) (AC (FF r)) (AX N)).arr.length<=100000;omega⟩
 generalize hsN:Bl (FF r) N=sN at *;obtain⟨fp,fc,rfl⟩:=hFo.row.slc;obtain⟨ap,ac,rfl⟩:=hAo.row.slc;have hWB:=HX.out.2.2.1;have hWd2:Below W.heap.size W W.drew:=(Tu _ _).drew;have hw2:Below w.heap.size w w2:=(hWB.trans (hWd2.mono hWB.size)).trans (hB2.mono hWB.size);obtain⟨X1,hX1⟩:∃ X1,X1=w2.alloc (.cells #[.slice fp sN.fr.length fc,.slice ap sN.arr.length ac] 53):=⟨_,rfl⟩
 have hXB:Below w2.heap.size w2 X1:=by rw[hX1];exact(Tu _ _).alloc (Te _) _
 have hbx:X1.heap[w2.heap.size]?=some (.cells #[.slice fp sN.fr.length fc,.slice ap sN.arr.length ac] 53 (0,0)):=by rw[hX1];exact Tv _ _
 have hwX:Below w.heap.size w X1:=hw2.trans (hXB.mono hw2.size);have hobz:w.heap.size<w2.heap.size:=Ts hoz hB2.size;have p2:X1.cell? ⟨w.heap.size,2,none⟩=some (.int .i64 N):=(hXB.cell (p:=⟨w.heap.size,2,none⟩) hobz).trans ((hB2.cell (p:=⟨w.heap.size,2,none⟩) hoz).trans o2);have b0:X1.cell? ⟨w2.heap.size,0,none⟩=some (.slice fp sN.fr.length fc):=(Ab hbx).trans rfl;have b1:X1.cell? ⟨w2.heap.size,1,none⟩=some (.slice ap sN.arr.length ac):=(Ab hbx).trans rfl;have hXd:Below X1.heap.size X1 X1.drew:=(Tu _ _).drew;have hpl:=Ly X1.drew (M r) _ (FF r) K H N (Pg.of_prog (pc:=pcc) (HP.out.1.below (hwX.trans (hXd.mono hwX.size)) (Te _))) HP.out.2.1;rw[hsN] at hpl;have hbz:w2.heap.size<X1.heap.size:=Ah hbx;have hobX:w.heap.size<X1.heap.size:=by omega
 have hfin:=hFo.frin.below hXB;have hain:=hAo.arin.below hXB;have h1:sN.fr.length<=24:=hszs.1.fr;have h2:∀ i,i<sN.fr.length->(Am sN.fr i).loc.length<=200000/\(Am sN.fr i).stk.length<=200000:=fun i hi=>by have:=hszs.1.ls _ (Hz hi);omega
 have h3:∀ j,j<sN.arr.length->(sN.arr.getD j []).length<=200000:=fun j hj=>by have:=hszs.1.al _ (Ij hj);omega
 have h4:sN.arr.length<=100000:=hszs.2;have HPL:=Aa hpl;have HO:=Aa (Tc hFo (Tc hAo (Tc hB2 (Tc hXB (Tc hwX (Tc hfin (Tc hain (Tc h2 h3))))))));have HX1:=Aa hX1;clear hpl hFo hAo hB2 hXB hwX hbx hWB hWd2 hw2 hX1 hXd HR HP hsN hfin hain h2 h3 hszs;go_wp2_with fail
 rw[<-HX1.out];refine AG (fun w'=>w'.cell? ⟨w2.heap.size,0,none⟩=some (.slice fp sN.fr.length fc)/\w'.cell? ⟨w2.heap.size,1,none⟩=some (.slice ap sN.arr.length ac)/\w'.cell? ⟨w.heap.size,2,none⟩=some (.int .i64 N)) TI (by kernel_rfl) (by kernel_rfl) (fun c0 a0 d0 v0 z0 h0=>A8 (P:=prog) f38 (Cn w B wb n nc CV PV M FF) c0 a0 d0 v0 z0 h0) ⟨b0,b1,p2⟩ ?_;simp only[TI,lexL,Tl,Tm];iterate 4 (refine Aw (by rfl) (by intro w' hS';obtain⟨q0,q1,q2⟩:=hS';go_simp;exact rfl) ?_;simp only[Act.put,Td,Th,Tg])
 refine Az (fun K' hK=>?_);go_simp;refine HPL.out.mono ?_;rintro e w3 ⟨rb,rfl,hB3,A2,l2⟩;have hB3':Below X1.heap.size X1 w3:=(show Below X1.heap.size X1 X1.drew from (Tu _ _).drew).trans hB3;have cc:∀ a:Addr,a.block<X1.heap.size->w3.cell? a=X1.cell? a:=fun a ha=>hB3'.cell (p:=a) ha
 refine hK.out _ _ ⟨(cc ⟨w2.heap.size,_,none⟩ hbz).trans b0,(cc ⟨w2.heap.size,_,none⟩ hbz).trans b1,(cc ⟨w.heap.size,_,none⟩ hobX).trans p2⟩ ?_;clear hK K';have hoc:=Mv w3 _ rb A2 (C2 sN) fp ap fc ac l2 (HO.out.2.2.2.2.2.1.below hB3') (HO.out.2.2.2.2.2.2.1.below hB3') (by show sN.fr.length<=1000;omega) (by show sN.arr.length<=200000;omega) HO.out.2.2.2.2.2.2.2.1 HO.out.2.2.2.2.2.2.2.2;have HOC:=Aa hoc;have e0:=(cc ⟨w2.heap.size,0,none⟩ hbz).trans b0;have e1:=(cc ⟨w2.heap.size,1,none⟩ hbz).trans b1;have e5:=(cc ⟨w.heap.size,2,none⟩ hobX).trans p2;have HB3:=Aa hB3';have hz3:=hB3'.size;clear hoc cc hB3 hB3' l2 b0 b1 p2 HPL;refine Az (fun K' hK=>?_);go_simp;refine HOC.out.mono ?_;rintro e w4 ⟨rfl,hB4⟩;have cc:∀ a:Addr,a.block<w3.heap.size->w4.cell? a=w3.cell? a:=fun a ha=>hB4.cell (p:=a) ha
 have hbz3:w2.heap.size<w3.heap.size:=by omega
 have hob3:w.heap.size<w3.heap.size:=by omega
 refine hK.out _ _ ⟨(cc ⟨w2.heap.size,_,none⟩ hbz3).trans e0,(cc ⟨w2.heap.size,_,none⟩ hbz3).trans e1,(cc ⟨w.heap.size,_,none⟩ hob3).trans e5⟩ ?_;clear hK K';have f0:=(cc ⟨w2.heap.size,0,none⟩ hbz3).trans e0;have f1:=(cc ⟨w2.heap.size,1,none⟩ hbz3).trans e1;have HB4:=Aa (HB3.out.trans (hB4.mono HB3.out.size));clear hB4 cc e0 e1 e5 HOC HB3;refine Aw (by rfl) (by intro w' hS';go_simp;exact rfl) ?_;simp only[Act.put,Td,Th,Tg];refine AF ?_;go_wp2_with fail
 refine AG (fun w'=>w'.cell? ⟨w2.heap.size,0,none⟩=some (.slice fp sN.fr.length fc)/\w'.cell? ⟨w2.heap.size,1,none⟩=some (.slice ap sN.arr.length ac)) [(false,0),(false,1),(false,2),(false,3),(true,4)] (by kernel_rfl) (by kernel_rfl) (fun c0 a0 d0 v0 z0 h0=>A8 (P:=prog) f38 (Cn w B wb n nc CV PV M FF) c0 a0 d0 v0 z0 h0) ⟨f0,f1⟩ ?_;simp only[lexL,Tl,Tm];iterate 4 (refine Aw (by rfl) (by intro w' hS';obtain⟨q0,q1⟩:=hS';go_simp;exact rfl) ?_;simp only[Act.put,Td,Th,Tg])
 refine Az (fun K' hK=>?_);go_simp;obtain⟨hFo,hAo,hB2,hXB,hwX,_,_,h2,h3⟩:=HO.out;have hw4:Below w2.heap.size w2 w4.drew:=(hXB.trans (HB4.out.mono hXB.size)).drew;have hww4:Below w.heap.size w w4.drew:=(hwX.trans (HB4.out.mono hwX.size)).drew;have hBw:B<=w.heap.size:=HX.out.1.hold.le;have hWs:w.heap.size<=W.drew.heap.size:=by show w.heap.size<=W.heap.size;omega
 have hW2s:=hB2.size;obtain⟨tX,htX⟩:∃ tX:Nat->Nat,tX=fun b=>if b<W.drew.heap.size then A.tag b else if b<w2.heap.size then tg b else 9:=⟨_,rfl⟩
 have htN:∀ b,W.drew.heap.size<=b->b<w2.heap.size->tX b=tg b:=fun b h1 h2=>by rw[htX];show (if b<W.drew.heap.size then A.tag b else if b<w2.heap.size then tg b else 9)=tg b;rw[if_neg (by omega),if_pos h2]
 have hF4:Cc w4.drew B tX (.slice fp sN.fr.length fc) LV SV (Am sN.fr) sN.fr.length:=(hFo.rebase (by omega) htN).below hw4;have hA4:Cd w4.drew B tX (.slice ap sN.arr.length ac) AV sN.arr sN.arr.length:=(hAo.rebase (by omega) htN).below hw4;have htA:∀ b,b<w.heap.size->tX b=A.tag b:=fun b hb=>by rw[htX];show (if b<W.drew.heap.size then A.tag b else _)=_;rw[if_pos (by omega)]
 have hhold:AZ w4.drew B wb {A with tag:=tX} (fun d=>d=9) n:=HX.out.1.hold.keep (Ch.of_tags (p:=fun _=>False) hww4 htA) (fun _ _ h=>h);have hq:∀ k,k<4->∃ q,n k=4 * q:=fun k hk=>⟨n k / 4,by have:=HX.out.1.four k hk;omega⟩
 obtain⟨q,hq0⟩:=hq 0 (by omega);obtain⟨q1,hq1⟩:=hq 1 (by omega);obtain⟨q2,hq2⟩:=hq 2 (by omega);have hn0:=HX.out.2.1 0 (by omega);have hn1:=HX.out.2.1 1 (by omega);have hn2:=HX.out.2.1 2 (by omega);have htb:tX w2.heap.size=9:=by rw[htX];show (if w2.heap.size<W.drew.heap.size then A.tag w2.heap.size else if w2.heap.size<w2.heap.size then tg w2.heap.size else 9)=9;rw[if_neg (by omega),if_neg (by omega)]
 have hbz4:w2.heap.size<w4.drew.heap.size:=by have:=HB4.out.size;show w2.heap.size<w4.heap.size;omega
 refine(KJ w4.drew B wb {A with tag:=tX} fp ap fc ac LV SV AV (Am sN.fr) sN.fr.length sN.arr.length sN.arr n q q1 q2 hhold hF4 hA4 hq0 hq1 hq2 (by omega) (by omega) (by omega) h1 h4 h2 h3).mono ?_;rintro e w5 ⟨rfl,A5,n5,h5,n50,n51,n52,n53,cv5,pv5,hb5,ht5,hB5⟩;have s5:∀ i,w5.cell? ⟨w2.heap.size,i,none⟩=w4.drew.cell? ⟨w2.heap.size,i,none⟩:=fun i=>Tw (a:=⟨w2.heap.size,i,none⟩) (hb5 w2.heap.size hbz4 (Or.inr (Or.inr (Or.inr htb))))
 refine hK.out _ _ ⟨(s5 0).trans f0,(s5 1).trans f1⟩ ?_;clear hK K';have HQ:=Aa (show Cn w B wb n nc CV PV M FF (.returned (.bool true)) w5 from by
  refine⟨rfl,(hww4.mono hBw).trans hB5,A5,n5,?_,fun k hk=>?_⟩
  ·refine HX.out.1.afterS hww4 htA h5 (fun b hb hp=>hb5 b hb hp) (fun b hb hp=>ht5 b hb hp) hB5.size cv5 pv5 (fun k hk=>?_);have:k=0\/k=1\/k=2\/k=3:=by omega
   rcases this with rfl|rfl|rfl|rfl
   ·rw[n50];omega
   ·rw[n51];omega
   ·rw[n52];omega
   ·rw[n53];exact HX.out.1.four 3 (by omega)
  ·have:k=0\/k=1\/k=2\/k=3:=by omega
   rcases this with rfl|rfl|rfl|rfl
   ·rw[n50];omega
   ·rw[n51];omega
   ·rw[n52];omega
   ·rw[n53];omega)
 clear hFo hAo hB2 hXB hwX hw4 hww4 hF4 hA4 htA hhold htb h5 cv5 pv5 s5 f0 f1 htX htN h2 h3 hb5 ht5 hB5 hq;refine AF ?_;go_wp2;go_ret;exact HQ.out
end
theorem Oo{m:Nat}{F:Nat->PF}{K:Nat->Nat->Bool}{H:Nat->Nat->Int}(h:AP m F K H)(N:Int):(C5 m F N).length<=64:=by
 unfold C5;by_cases e:0<=N/\N<m
 ·rw[if_pos e];have h1:=In (F N.toNat) (F N.toNat).cn;have h2:=(h.fn N.toNat (by omega)).cn.2;omega
 ·rw[if_neg e];simp
theorem RC(w:World)(B wb:Nat)(A:AN)(n:Nat->Nat)(nc:Nat)(CV PV:Nat->Value)(M:Nat->Nat)(FF:Nat->Nat->PF)(h:B3 w B wb A n nc CV PV M FF)(at_ N:Int)(ep pp:Option Addr)(el ec pl pc:Nat)(hat:-9223372036854775808<=at_/\at_<=9223372036854775807)(hnc:1<=nc)(hnc2:nc<=10000000)(hnb:∀ k,k<4->n k<=3000000000000) :
  Calls prog 38 #[.pointer (some ⟨wb,0,none⟩),.agg #[.int .i64 2,.int .i64 at_,.int .i64 N,.slice ep el ec,.slice pp pl pc]] w (Cn w B wb n nc CV PV M FF):=by
 have hcr:=h.cr;have hpr:=h.pr;obtain⟨crb,crc,hcv,_,hcz,hct,_⟩:=hcr.form (by omega);obtain⟨prb,prc,hpv,_,hpz,hpt,_⟩:=hpr.form (by omega);rw[hcv] at hcr;rw[hpv] at hpr;have x0:w.cell? ⟨wb,0,none⟩=some (.slice (some ⟨crb,0,none⟩) nc crc):=by rw[Ab h.hold.blk,<-hcv];rfl
 have x1:w.cell? ⟨wb,1,none⟩=some (.slice (some ⟨prb,0,none⟩) nc prc):=by rw[Ab h.hold.blk,<-hpv];rfl
 have hwz:=Ah h.hold.blk;obtain⟨W,hWd⟩:∃ W,W=w.alloc (.cells #[.int .i64 2,.int .i64 at_,.int .i64 N,.slice ep el ec,.slice pp pl pc] 100):=⟨_,rfl⟩
 have hW:Below w.heap.size w W:=by rw[hWd];exact(Tu _ _).alloc (Te _) _
 have ob:W.heap[w.heap.size]?=some (.cells #[.int .i64 2,.int .i64 at_,.int .i64 N,.slice ep el ec,.slice pp pl pc] 100 (0,0)):=by rw[hWd];exact Tv _ _
 have o1:W.cell? ⟨w.heap.size,1,none⟩=some (.int .i64 at_):=(Ab ob).trans rfl;have y0:=(hW.cell (p:=⟨wb,0,none⟩) hwz).trans x0;have y1:=(hW.cell (p:=⟨wb,1,none⟩) hwz).trans x1;have hrc:=fun r (hr:r<nc)=>(hW.cell (p:=⟨crb,r,none⟩) hcz).trans (hcr.cell (i:=r) (by omega))
 have hrp:=fun r (hr:r<nc)=>(hW.cell (p:=⟨prb,r,none⟩) hpz).trans (hpr.cell (i:=r) (by omega))
 have HX:=Aa (Tc h (Tc hnb (Tc hW (Tc ob (Tc hrc hrp)))));have HD:=Aa hWd;clear h hnb hcr hpr hcv hpv x0 x1 hW ob hrc hrp hct hpt hWd;have hoz:w.heap.size<W.heap.size:=Ah HX.out.2.2.2.1;have hwzW:wb<W.heap.size:=by omega
 go_enter func38,ntmps38
 go_wp2_with fail
 rw[<-HD.out];refine AG (fun w'=>w'.cell? ⟨w.heap.size,1,none⟩=some (.int .i64 at_)/\w'.cell? ⟨wb,0,none⟩=some (.slice (some ⟨crb,0,none⟩) nc crc)) TH (by kernel_rfl) (by kernel_rfl) (Co _ _ _) ⟨o1,y0⟩ ?_;simp only[TH,lexL,Tl,Tm];iterate 7 (refine Aw (by rfl) (by intro w' hS';obtain⟨q0,q1⟩:=hS';go_simp;exact rfl) ?_;simp only[Act.put,Td,Th,Tg])
 refine Az (fun K hK=>?_);go_simp;refine(Gi at_ (nc:Int) W.drew hat (by omega)).mono ?_;rintro e w' ⟨r,rfl,hr,rfl⟩;refine hK.out _ _ ⟨o1,y0⟩ ?_;clear hK K;refine Aw (by rfl) (by intro w' hS';go_simp;exact rfl) ?_;simp only[Act.put,Td,Th,Tg];refine AF ?_;have hrn:r<nc:=by omega
 obtain⟨cb,g,cap,CA,CC,pb,po,pcc,CA2,CC2,K,H,ecv,c1,hP,_,epv,hP2,hF,hcbz⟩:=Gw (HX.out.1.cd r hrn);have z0:=HX.out.2.2.2.2.1 r hrn;have z1:=HX.out.2.2.2.2.2 r hrn;rw[ecv] at z0;rw[epv] at z1;have hWB:=HX.out.2.2.1;have hWd2:Below W.heap.size W W.drew:=(Tu _ _).drew;have hlen:=Oo hF N;have hll:=RK W.drew cb g 0 cap (M r) (FF r) K H CA CC N (((hWB.trans (hWd2.mono hWB.size)).cell (p:=⟨cb,0,none⟩) hcbz).trans c1) (hP.below (hWB.trans (hWd2.mono hWB.size)) (Te _)) hF;have o0:W.cell? ⟨w.heap.size,0,none⟩=some (.int .i64 2):=(Ab HX.out.2.2.2.1).trans rfl;have o2:W.cell? ⟨w.heap.size,2,none⟩=some (.int .i64 N):=(Ab HX.out.2.2.2.1).trans rfl;have HR:=Aa hll;have HP:=Aa (Tc hP2 hF);have i0:(0:Int)<=(r:Int):=by omega
 clear hll hP hP2 hF ecv epv c1 hWB hWd2;go_wp2_with fail
 refine HR.out.mono ?_;rintro e w2 ⟨v,rfl,hI,hB2⟩;obtain⟨vp,vcap,rfl⟩:=Ae.slc hI;have hWB:=HX.out.2.2.1;have hWd2:Below W.heap.size W W.drew:=(Tu _ _).drew;have hw2:Below w.heap.size w w2:=(hWB.trans (hWd2.mono hWB.size)).trans (hB2.mono hWB.size);have hm:=Q6 w2 pb po pcc (M r) (FF r) K H CA2 CC2 N (HP.out.1.below hw2 (Te _)) HP.out.2;have p2:w2.cell? ⟨w.heap.size,2,none⟩=some (.int .i64 N):=(hB2.cell (p:=⟨w.heap.size,2,none⟩) hoz).trans o2;have HM:=Aa hm;have HI:=Aa (Tc hI (Tc hB2 hw2));have hw2z:wb<w2.heap.size:=Ts hwz hw2.size;clear hm hI hB2 hw2 hWB hWd2 HR HP;go_wp2_with fail
 refine HM.out.mono ?_;rintro e w3 ⟨v,rfl,hJ,hB3⟩;obtain⟨up,ucap,rfl⟩:=Ae.slc hJ;obtain⟨L,hL⟩:∃ L,C5 (M r) (FF r) N=L:=⟨_,rfl⟩
 rw[hL] at hJ HI hlen;have hI3:Ae w3 W.drew.heap.size (fun _=>0) 0 3 1 (.slice vp L.length vcap) L.length (Dm L):=HI.out.1.below hB3;have hww3:Below w.heap.size w w3:=HI.out.2.2.trans (hB3.mono HI.out.2.2.size);have HJ:=Aa (Tc hJ (Tc hI3 hww3));have hw3z:wb<w3.heap.size:=Ts hwz hww3.size;rw[hL];have HL:=Aa hL;clear hJ hI3 hww3 hB3 HI HM hL p2;generalize hln:L.length=ln at *;have HLN:=Aa hln;clear hln;go_wp2;go_loopw [10,11] (fun v1 v2 wr=>∃ j:Nat,j<=ln/\v1=.bool true/\v2=.int .i64 j/\∃ k,wr=w3.drewN k) (fun _ v _=>ln-(intOf v).toNat)
 case atStart=>exact⟨0,Tt _,rfl,rfl,0,rfl⟩
 case round =>
  obtain⟨j,hj,rfl,rfl,k,rfl⟩:=hrel;by_cases hlt:j<ln
  ·have hd:decide ((j:Int)<(ln:Int))=true:=by simp;omega
   obtain⟨b1,cap1,e1,_,hb1,_,_⟩:=HJ.out.2.1.form (by omega);injection e1 with e1 _ e3;subst e1;subst e3;have hJ:=HJ.out.1;unfold IV at hJ;rw[HLN.out] at hJ;obtain⟨b2,cap2,e2,_,hb2,_,_⟩:=hJ.form (by omega);injection e2 with e2 _ e4;subst e2;subst e4;have y1:=HJ.out.2.1.cell (i:=j) (by omega);have y2:=hJ.cell (i:=j) (by omega);unfold Dm at y1 y2;generalize ((L.getD j 0:Nat):Int)=u at y1 y2;have i0:(0:Int)<=(j:Int):=by omega
   have i1:(j:Int)<(ln:Int):=by omega
   clear hJ;go_wp2_with fail
   go_quiet (fail)
   go_wp2;exact⟨⟨j+1,by omega,by go_num,by go_num,_,rfl⟩,by simp[intOf];omega⟩
  ·have hd:decide ((j:Int)<(ln:Int))=false:=by simp;omega
   go_wp2_with fail
   obtain⟨V,hV⟩:∃ V,V=w3.drewN k:=⟨_,rfl⟩
   rw[<-hV];have hVB:Below w3.heap.size w3 V:=by rw[hV];exact below_drewN (Tu _ _) _
   obtain⟨hJ,hI3,hww3⟩:=HJ.out;have hwwV:Below w.heap.size w V:=hww3.trans (hVB.mono hww3.size);have hBw:B<=w.heap.size:=HX.out.1.hold.le;have hWs:w.heap.size<=W.drew.heap.size:=by show w.heap.size<=W.heap.size;omega
   obtain⟨tX,htX⟩:∃ tX:Nat->Nat,tX=fun b=>if b<W.drew.heap.size then A.tag b else 10:=⟨_,rfl⟩
   have row2:Ae V B tX 10 3 1 (.slice vp ln vcap) ln (Dm L):=by
    refine Ae.below ?_ hVB;rcases hI3 with h|⟨g,cap,cur,hv,hg,_,hh,hr⟩
    ·exact Or.inl h
    ·exact Or.inr ⟨g,cap,cur,hv,by omega,by rw[htX];show (if g<W.drew.heap.size then A.tag g else 10)=10;rw[if_neg (by omega)],hh,hr⟩
   have htA:∀ b,b<w.heap.size->tX b=A.tag b:=fun b hb=>by rw[htX];show (if b<W.drew.heap.size then A.tag b else _)=_;rw[if_pos (by omega)]
   have hhold:AZ V B wb {A with tag:=tX} (fun d=>d=9) n:=HX.out.1.hold.keep (Ch.of_tags (p:=fun _=>False) hwwV htA) (fun _ _ h=>h);obtain⟨q,hq⟩:∃ q,n 3=4 * q:=⟨n 3 / 4,by have:=HX.out.1.four 3 (by omega);omega⟩
   have hn0:=HX.out.2.1 3 (by omega);refine(Ob V B wb {A with tag:=tX} (fun d=>d=9) n q 10 vp vcap _ _ hhold hq (by omega) row2 (by omega) (by omega) (by unfold Wt;omega)).mono ?_;rintro e w5 ⟨rfl,A5,h5,cv5,pv5,xb5,ch5⟩;have HQ:=Aa (show Cn w B wb n nc CV PV M FF (.returned (.bool true)) w5 from by
    obtain⟨A3,hA3⟩:=HX.out.1.after hwwV htA h5 ch5 (by omega) (by omega) (by omega) cv5 pv5 (fun k hk=>by
     by_cases e:k=3
     ·subst e;rw[Au];omega
     ·rw[Ao _ _ _ _ e];exact HX.out.1.four k hk)
    refine⟨rfl,(hwwV.mono hBw).trans (ch5.below (Nat.le_trans hBw hwwV.size)),A3,_,hA3,fun k hk=>?_⟩;by_cases e:k=3
    ·subst e;rw[Au];omega
    ·rw[Ao _ _ _ _ e];omega)
   clear hJ hI3 hww3 hwwV row2 htA hhold h5 cv5 pv5 xb5 ch5 htX;go_wp2;go_ret;exact HQ.out
def AN.got(A:AN)(f:Nat):Value:=if f=0 then A.cv else A.pv
def AN.put(A:AN)(f:Nat)(v:Value)(t:Nat->Nat):AN:={A with tag:=t,cv:=if f=0 then v else A.cv,pv:=if f=0 then A.pv else v}
theorem Q1(A:AN)(f:Nat)(hf:f<2)(v:Value)(t:Nat->Nat):(Ep A).setIfInBounds f v=Ep (A.put f v t):=by
 have:f=0\/f=1:=by omega
 rcases this with rfl|rfl<;>rfl
theorem Ow(A:AN)(f:Nat)(hf:f<2):(Ep A)[f]?=some (A.got f):=by
 have:f=0\/f=1:=by omega
 rcases this with rfl|rfl<;>rfl
section
variable {w w':World}{B wb:Nat}{n:Nat->Nat}
theorem AZ.one{A:AN}{Kd p:Nat->Prop}{t:Nat->Nat}(h:AZ w B wb A Kd n)(f:Nat)(v:Value)(k:Ch B p A.tag t w w')(hk:∀ d,Kd d->¬p d)(h5:∀ q,q<4->¬p (5+q))(hb:w'.heap[wb]?=some (.cells (Ep (A.put f v t)) 96 (0,0))):AZ w' B wb (A.put f v t) Kd n:=by
 have hlt:=Ah h.blk;refine⟨hb,⟨h.own.1,(k.tags wb hlt).trans h.own.2⟩,Nat.le_trans h.le k.size,h.kd,fun q hq=>(h.row q hq).keep k (h5 q hq),fun q hq i hi=>(h.ent q hq i hi).keep k hk (fun _ h=>h),fun i hi=>?_⟩;obtain⟨h1,h2,h3,h4,h5⟩:=h.ex i hi;have ht:=k.tags _ h1;exact⟨Ts h1 k.size,h2,by show Kd (t (A.XB (i / 4)));rw[ht];exact h3,(k.cell (a:=⟨A.XB (i / 4),0,none⟩) h1 (hk _ h3)).trans h4,(k.cell (a:=⟨A.XB (i / 4),1,none⟩) h1 (hk _ h3)).trans h5⟩
theorem AZ.one_more{A:AN}{Kd:Nat->Prop}(h:AZ w B wb A Kd n)(f:Nat)(hf:f<2)(e ts:TypeId)(i:TypeInfo)(z:Value)(bytes nc:Nat)(g:Nat->Value)(hrow:Ae w B A.tag (3+f) e 1 (A.got f) nc g)(ht:prog.underlying ts=some (.slice e))(hi:prog.info? e=some i)(hz:i.zero=some z)(hsi:i.size=1)(hby:i.bytes=bytes)(hzs:z.cells.size=1)(hbb:bytes<=24)(hnc:nc<=10000000)(x:Value)(hx:x.oneCell'=true)(eT ty:TypeId) :
  ∃ gb cap w1,(Builtin.append_ #[ts,ts] ty #[A.got f,.slice (some ⟨w.heap.size,0,none⟩) 1 1]).run prog (w.alloc (.cells #[x] eT))=.ok (.slice (some ⟨gb,0,none⟩) (nc+1) cap) w1 /\
   w1.cell? ⟨wb,f,none⟩=some (A.got f)/\w1.frozen? ⟨wb,f,none⟩=false/\wb<w1.heap.size /\
   ∃ t,AZ (w1.setCell ⟨wb,f,none⟩ (.slice (some ⟨gb,0,none⟩) (nc+1) cap)) B wb (A.put f (.slice (some ⟨gb,0,none⟩) (nc+1) cap) t) Kd n /\
    Ae (w1.setCell ⟨wb,f,none⟩ (.slice (some ⟨gb,0,none⟩) (nc+1) cap)) B t (3+f) e 1 (.slice (some ⟨gb,0,none⟩) (nc+1) cap) (nc+1) (Ac g nc x) /\
    Ch B (fun d=>d=0\/d=3+f) A.tag t w (w1.setCell ⟨wb,f,none⟩ (.slice (some ⟨gb,0,none⟩) (nc+1) cap)):=by
 have hV:Below w.heap.size w (w.alloc (.cells #[x] eT)):=(Tu _ _).alloc (Te _) _;have hbk:(nc+1) * bytes<=140737488355328:=by
  have:(nc+1) * bytes<=10000001 * 24:=Nat.mul_le_mul (by omega) hbb;omega
 obtain⟨gb,cap,w1,hr,hown,hgrow,hat,hlt⟩:=run_append_lies (P:=prog) (w.alloc (.cells #[x] eT)) ts ty B e i z 1 bytes ht hi hz hsi hby hzs (by decide) (A.got f) nc _ ((hrow.below hV).owns) ⟨w.heap.size,0,none⟩ 1 1 [x] rfl (World.news_of_block (Tv w _)) (by intro u hu;simp at hu;rw[hu];exact hx) (by omega) (by unfold maxLen;omega) hbk (Nat.le_trans h.le hV.size) (w.alloc (.cells #[x] eT)).heap.size rfl;have hlt0:=Ah h.blk;have hltV:wb<(w.alloc (.cells #[x] eT)).heap.size:=Ts hlt0 hV.size;have hb1:w1.heap[wb]?=some (.cells (Ep A) 96 (0,0)):=by
  refine(hgrow.block wb hltV ?_).trans ((hV.block wb hlt0).trans h.blk);exact hrow.other (by rw[h.own.2];omega)
 have c1:Ch B (fun _=>False) A.tag A.tag w (w.alloc (.cells #[x] eT)):=Ch.of_below hV;obtain⟨hr2,c2⟩:=(hrow.keep c1 (fun h=>h)).grewN (k:=1) hown hgrow hat rfl;generalize (fun b=>if b<(w.alloc (.cells #[x] eT)).heap.size then A.tag b else 3+f)=t2 at hr2 c2;have ht0:t2 wb=0:=(c2.tags wb hltV).trans h.own.2;have c3:Ch B (fun d=>d=0) t2 t2 w1 (w1.setCell ⟨wb,f,none⟩ (.slice (some ⟨gb,0,none⟩) (nc+1) cap)):=Ch.set w1 _ _ _ h.own.1 ht0;have call:Ch B (fun d=>d=0\/d=3+f) A.tag t2 w (w1.setCell ⟨wb,f,none⟩ (.slice (some ⟨gb,0,none⟩) (nc+1) cap)):=((c1.mono (fun _ h=>h.elim)).trans (c2.mono (fun d hd=>Or.inr hd))).trans (c3.mono (fun d hd=>Or.inl hd));refine⟨gb,cap,w1,hr,(Ab hb1).trans (Ow A f hf),Ax hb1,Ah hb1,t2,h.one f _ call (fun d hd hp=>h.kd d hd (by unfold Wt;omega)) (fun q hq=>by omega) ?_,?_,call⟩
 ·rw[CD hb1 _,Q1 A f hf _ t2]
 ·refine(hr2.keep c3 (by omega)).congr (fun i hi=>?_);by_cases e:i=nc
  ·subst e;rw[if_neg (by omega),Au];simp
  ·rw[if_pos (by omega),Ao _ _ _ _ e]
theorem Tryz.infoPC:(prog.info? 25).map (fun i=>(i.zero,i.size,i.bytes))=some (some (.pointer none),1,8):=by kernel_rfl
theorem Tryz.infoSF:(prog.info? 23).map (fun i=>(i.zero,i.size,i.bytes))=some (some (.slice none 0 0),1,24):=by kernel_rfl
theorem Rj{tag:Nat->Nat}{v:Value}{m pb po pc:Nat}{F:Nat->PF}(hC:Eh w w' v m F)(hw:Below w.heap.size w w')(hP:FD w B tag pb po m F)(h0:(AW m F).1=0) :
  Fg w' B (fun b=>if b<w.heap.size then tag b else 9) v (.slice (some ⟨pb,po,none⟩) m pc) m F:=by
 obtain⟨b,g,cap,hv,hb,hb2,hc,hg,hg2,hne,CA,CC,hj⟩:=hC;have h9:∀ b,w.heap.size<=b->(fun b=>if b<w.heap.size then tag b else 9) b=9:=fun b hb=>by show (if b<w.heap.size then tag b else 9)=9;rw[if_neg (by omega)]
 refine⟨⟨b,g,cap,hv,⟨hb2,Or.inr (h9 b hb)⟩,hc,CA,CC,⟨hg2,fun k hk=>(hj k hk).1⟩,fun k hk=>?_,⟨hg2,Or.inr (h9 g hg)⟩,fun k hk cb co e hcn=>?_⟩,⟨pb,po,pc,rfl,hP.keep hw.size (fun b hb=>hw.block b hb.1) (fun b hb h=>?_)⟩,Mh h0⟩
 ·obtain⟨_,_,_,_,_,hold⟩:=hj k hk;exact(hold hk).2
 ·obtain⟨hf,cb',co',e',_,hold⟩:=hj k hk;obtain⟨cb2,co2,e2,hl2,_⟩:=hf.code hcn;rw[e] at e' e2;injection e' with e';injection e' with e3 e4;injection e2 with e2;injection e2 with e5 e6;have hcb:=(hold hk).1;exact⟨by rw[e5];exact hl2,Or.inr (h9 cb (by rw[e3];exact hcb))⟩
 ·show (if b<w.heap.size then tag b else 9)=9;rw[if_pos hb];exact h
def K7(w:World)(B wb:Nat)(n:Nat->Nat)(nc:Nat)(e:Ending)(w':World):Prop :=
 e=.returned (.bool true)/\Below B w w'/\∃ (A':AN) (nc':Nat) (CV PV:Nat->Value) (M:Nat->Nat) (FF:Nat->Nat->PF),B3 w' B wb A' n nc' CV PV M FF/\nc<=nc'/\nc'<=nc+1
theorem B3.below{A:AN}{nc:Nat}{CV PV:Nat->Value}{M:Nat->Nat}{FF:Nat->Nat->PF}(h:B3 w B wb A n nc CV PV M FF)(k:Below w.heap.size w w'):B3 w' B wb A n nc CV PV M FF :=
 ⟨h.hold.below k,h.four,h.cr.below k,h.pr.below k,fun i hi=>(h.cd i hi).keep k.size (fun b hb=>k.block b hb.1) (fun _ _ h=>h)⟩
theorem Hf{α:Type}(f:Nat->α)(k:Nat)(v:α)(i:Nat)(h:i<k):Ac f k v i=f i:=Ao _ _ _ _ (by omega)
theorem Lq(w:World)(B wb:Nat)(A:AN)(n:Nat->Nat)(nc:Nat)(CV PV:Nat->Value)(M:Nat->Nat)(FF:Nat->Nat->PF)(h:B3 w B wb A n nc CV PV M FF)(p:Option Addr)(pc m:Nat)(F:Nat->PF)(CA:Nat->Option Addr)(CC:Nat->Nat)(hG:Df w p m F CA CC)(hS:1<=m->∃ pb po,p=some ⟨pb,po,none⟩/\FD w B A.tag pb po m F)(hm:40 * m<=140737488355328)(hcn:∀ k,k<m->16 * (F k).cn<=140737488355328)(ht:Cb w)(hw:0<w.heap.size)(hnc2:nc<=10000000) :
  Calls prog 36 #[.pointer (some ⟨wb,0,none⟩),.slice p m pc] w fun e w'=>K7 w B wb n nc e w'/\((AW m F).1=0->∃ (A':AN) (CV PV:Nat->Value) (M:Nat->Nat) (FF:Nat->Nat->PF),B3 w' B wb A' n (nc+1) CV PV M FF):=by
 have hl:=OA p pc m F CA CC w hG hm hcn ht hw;have HL:=Aa hl;have HX:=Aa (Tc h hS);clear hl h hS hG hcn ht;go_enter func36,ntmps36
 go_wp2_with fail
 refine HL.out.mono ?_;rintro e w2 ⟨v,rfl,hB2,hv⟩;rcases hv with⟨h0,hC⟩|⟨h0,rfl⟩
 ·have hm1:1<=m:=by
   have:=JO h0;obtain⟨K,H,hF⟩:=Mh h0;exact hF.size.1
  obtain⟨pb,po,rfl,hPS⟩:=HX.out.2 hm1;have hH:=HX.out.1;have hBw:=hH.hold.le;obtain⟨t0,ht0⟩:∃ t0:Nat->Nat,t0=fun b=>if b<w.heap.size then A.tag b else 9:=⟨_,rfl⟩
  have c0:Ch B (fun _=>False) A.tag t0 w w2:=Ch.of_tags hB2 (fun b hb=>by rw[ht0];show (if b<w.heap.size then A.tag b else 9)=_;rw[if_pos hb]);have hcd:=Rj (pc:=pc) hC hB2 hPS h0;rw[<-ht0] at hcd;have hvb:∃ vb,v=.pointer (some ⟨vb,0,none⟩):=by obtain⟨b,_,_,hv,_⟩:=hC;exact⟨b,hv⟩
  obtain⟨vb,rfl⟩:=hvb;have hH2:AZ w2 B wb {A with tag:=t0} (fun d=>d=9) n:=hH.hold.keep c0 (fun _ _ h=>h);have hcr2:Ae w2 B t0 3 25 1 A.cv nc CV:=hH.cr.keep c0 (fun h=>h);have hpr2:Ae w2 B t0 4 23 1 A.pv nc PV:=hH.pr.keep c0 (fun h=>h);obtain⟨i1,hi1,z1,s1,b1⟩:∃ i,prog.info? 25=some i/\i.zero=some (.pointer none)/\i.size=1/\i.bytes=8:=by
   obtain⟨i,hi,hzz⟩:=Tp.1 Tryz.infoPC;simp only[Prod.mk.injEq] at hzz;exact⟨i,hi,hzz.1,hzz.2.1,hzz.2.2⟩
  obtain⟨i2,hi2,z2,s2,b2⟩:∃ i,prog.info? 23=some i/\i.zero=some (.slice none 0 0)/\i.size=1/\i.bytes=24:=by
   obtain⟨i,hi,hzz⟩:=Tp.1 Tryz.infoSF;simp only[Prod.mk.injEq] at hzz;exact⟨i,hi,hzz.1,hzz.2.1,hzz.2.2⟩
  obtain⟨g1,k1,w3,r1,x1,f1,l1,t1,hH3,hrow3,ch3⟩:=hH2.one_more 0 (by omega) 25 88 i1 _ 8 nc CV hcr2 underlying88 hi1 z1 s1 b1 rfl (by omega) hnc2 (.pointer (some ⟨vb,0,none⟩)) rfl 25 88;have hpr3:=hpr2.keep ch3 (by omega);obtain⟨g2,k2,w4,r2,x2,f2,l2,t2,hH4,hrow4,ch4⟩:=hH3.one_more 1 (by omega) 23 89 i2 _ 24 nc PV hpr3 underlying89 hi2 z2 s2 b2 rfl (by omega) hnc2 (.slice (some ⟨pb,po,none⟩) m pc) rfl 23 89;obtain⟨p1,q1,e1⟩:=hcr2.slc;obtain⟨p2,q2,e2⟩:=hpr2.slc;have y1:w2.cell? ⟨wb,0,none⟩=some (.slice p1 nc q1):=by rw[Ab hH2.blk,<-e1];rfl
  have lw2:=Ah hH2.blk;have x1':w3.cell? ⟨wb,0,none⟩=some (.slice p1 nc q1):=by rw[<-e1];exact x1
  have r1':=r1;rw[show ({A with tag:=t0}:AN).got 0=.slice p1 nc q1 from e1] at r1';have x2':w4.cell? ⟨wb,1,none⟩=some (.slice p2 nc q2):=by rw[<-e2];exact x2
  have y2:(w3.setCell ⟨wb,0,none⟩ (.slice (some ⟨g1,0,none⟩) (nc+1) k1)).cell? ⟨wb,1,none⟩=some (.slice p2 nc q2):=by rw[Ab hH3.blk,<-e2];rfl
  have y3:w3.cell? ⟨wb,1,none⟩=some (.slice p2 nc q2):=by
   rw[<-y2];exact(World.cell?_setCell_other _ _ _ _ (by intro e;injection e with e1 e2;omega)).symm
  rw[show (({A with tag:=t0}:AN).put 0 (.slice (some ⟨g1,0,none⟩) (nc+1) k1) t1).got 1=.slice p2 nc q2 from e2,show (w3.setCell ⟨wb,0,none⟩ (.slice (some ⟨g1,0,none⟩) (nc+1) k1)).heap.size=w3.heap.size by simp] at r2;have HQ:=Aa (show B3 (w4.setCell ⟨wb,1,none⟩ (.slice (some ⟨g2,0,none⟩) (nc+1) k2)) B wb _ n (nc+1) (Ac CV nc (.pointer (some ⟨vb,0,none⟩))) (Ac PV nc (.slice (some ⟨pb,po,none⟩) m pc)) (Ac M nc m) (Ac FF nc F) from by
   refine⟨hH4,hH.four,?_,?_,fun i hi=>?_⟩
   ·exact hrow3.keep ch4 (by omega)
   ·exact hrow4
   ·have kk:∀ {cv pv:Value} {mm:Nat} {G:Nat->PF},Fg w2 B t0 cv pv mm G->Fg (w4.setCell ⟨wb,1,none⟩ (.slice (some ⟨g2,0,none⟩) (nc+1) k2)) B t2 cv pv mm G:=by
     intro cv pv mm G hc;have ca:=ch3.mono (q:=fun d=>d=0\/d=3\/d=4) (fun d hd=>by omega);have cb:=ca.trans (ch4.mono (q:=fun d=>d=0\/d=3\/d=4) (fun d hd=>by omega));refine hc.keep cb.size (fun b hb=>cb.block b hb.1 ?_) (fun b hb h9=>(cb.tags b hb).trans h9);rcases hb.2 with h|h
     ·exact Or.inl h
     ·exact Or.inr (by show ¬(t0 b=0\/t0 b=3\/t0 b=4);omega)
    by_cases e:i=nc
    ·subst e;rw[Au,Au,Au,Au];exact kk hcd
    ·have hi':i<nc:=by omega
     rw[Hf _ _ _ _ hi',Hf _ _ _ _ hi',Hf _ _ _ _ hi',Hf _ _ _ _ hi'];exact kk ((hH.cd i hi').keep c0.size (fun b hb=>c0.block b hb.1 (Or.inr (fun h=>h))) (fun b hb h9=>(c0.tags b hb).trans h9)))
  have HB4:Hid (Below B w (w4.setCell ⟨wb,1,none⟩ (.slice (some ⟨g2,0,none⟩) (nc+1) k2))):=((hB2.mono hBw).trans (ch3.below (Nat.le_trans hBw hB2.size))).trans (ch4.below (Nat.le_trans hBw (Nat.le_trans hB2.size ch3.size)));have HR:=Aa (Tc r1' r2);clear hC hPS hH ht0 c0 hcd hH2 hcr2 hpr2 hi1 z1 s1 b1 hi2 z2 s2 b2 r1 x1 hH3 hrow3 ch3 hpr3 r2 x2 hH4 hrow4 ch4 e1 e2 r1' y2 hB2;go_wp2_with (at_builtin;refine B5 rfl _ _ 88 rfl ?_)
  refine⟨?_,trivial⟩;refine BV _ rfl _ _ 88 rfl _ _ _ _ rfl rfl HR.out.1 ?_;clear y1;go_wp2_with (at_builtin;refine B5 rfl _ _ 89 rfl ?_)
  refine⟨?_,trivial⟩;refine BV _ rfl _ _ 89 rfl _ _ _ _ rfl rfl HR.out.2 ?_;clear y3 x1';go_wp2;go_ret;exact⟨⟨rfl,HB4.out,_,_,_,_,_,_,HQ.out,by omega,Te _⟩,fun _=>⟨_,_,_,_,_,HQ.out⟩⟩
 ·have HQ:Hid (K7 w B wb n nc (.returned (.bool true)) w2):=⟨rfl,hB2.mono HX.out.1.hold.le,A,nc,CV,PV,M,FF,HX.out.1.below hB2,Te _,by omega⟩
  clear hB2;go_wp2;go_ret;exact⟨HQ.out,fun h=>absurd h h0⟩
end
end Go.Proofs.YtkafkipjedpohaaGreatDoor

import Derived.Test.YtkafkipjedpohaaGreatDoorS13
namespace Go.Proofs.YtkafkipjedpohaaGreatDoor
set_option maxRecDepth 100000
set_option maxHeartbeats 16000000
open Go.RowKit _root_.Go.Proofs.Tryz
section
variable {n st kd:Int}{all:Bool}{j B rb:Nat}{w wr:World}{A:Ad}{s:Mc}
theorem Lz{fr:List Fr}{hs:List Bool}(c:AU hs j=false):BX all n fr hs (j+1)=BX all n fr hs j/\BA all n fr hs (j+1)=BA all n fr hs j:=by
 refine⟨?_,by rw[Gq,c];simp⟩;unfold BX;refine congrArg List.reverse (List.map_congr_left (fun i hi=>?_));by_cases e:i=j
 ·subst e;rw[c];split<;>split<;>rfl
 ·by_cases d:i<j/\B7 all n (Am fr i)=true
  ·rw[if_pos d,if_pos ⟨by omega,d.2⟩]
  ·rw[if_neg d,if_neg (fun h=>d ⟨by omega,h.2⟩)]
def DO(all:Bool)(n:Int)(s:Mc)(j:Nat):Mc:={s with high:=BX all n s.fr s.high j,cD:=s.cD+BA all n s.fr s.high j}
def De(w:World)(B rb:Nat)(A:Ad)(s:Mc)(st kd n:Int)(all:Bool)(j:Nat)(wr:World):Prop :=
 ∃ A1:Ad,Al wr B rb A1 (DO all n s j)/\A1.pv=A.pv/\A1.fv=A.fv/\A1.hv=A.hv/\A1.tag w.heap.size=5/\Ch B Be A.tag A1.tag w wr/\wr.heap[w.heap.size]?=some (.cells #[.int .i64 st,.int .i64 kd,.int .i64 n] 65 (0,0))
theorem De.start{f:Fr}{W:World}(h:FL w B rb A s f st kd n W)(hh:s.high.length=s.fr.length)(all:Bool):De w B rb A s st kd n all 0 W:=by
 obtain⟨⟨A1,l1,p1,f1,v1,t5,_,q1⟩,hev,_,_⟩:=h;have e:DO all n s 0=s:=by unfold DO;rw[Kk _ _ _ _ hh];rfl
 exact⟨A1,by rw[e];exact l1,p1,f1,v1,t5,q1,hev⟩
theorem De.drew(h:De w B rb A s st kd n all j wr):De w B rb A s st kd n all j wr.drew:=by
 obtain⟨A1,l1,p1,f1,v1,t5,q1,hev⟩:=h;have hb:Below wr.heap.size wr wr.drew:=(Tu _ _).drew;exact⟨A1,l1.below hb,p1,f1,v1,t5,q1.trans (Ch.of_below hb),(hb.block _ (Ah hev)).trans hev⟩
theorem De.same(h:De w B rb A s st kd n all j wr)(hc:AU s.high j=false\/B7 all n (Am s.fr j)=false):De w B rb A s st kd n all (j+1) wr:=by
 have e:DO all n s (j+1)=DO all n s j:=by
  unfold DO;rcases hc with hc|hc
  ·rw[(Lz hc).1,(Lz hc).2]
  ·rw[(Je hc).1,(Je hc).2]
 unfold De;rw[e];exact h
theorem De.down(h:De w B rb A s st kd n all j wr)(hj:j<s.fr.length){hb hcap:Nat}(hhv:A.hv=.slice (some ⟨hb,0,none⟩) s.fr.length hcap)(hi:AU s.high j=true)(hg:B7 all n (Am s.fr j)=true) :
  De w B rb A s st kd n all (j+1) ((wr.setCell ⟨hb,j,none⟩ (.bool false)).setCell ⟨rb,19,none⟩ (.int .i64 (((s.cD+BA all n s.fr s.high j:Nat):Int)+1))):=by
 obtain⟨A1,l1,p1,f1,v1,t5,q1,hev⟩:=h;have hlen:(DO all n s j).high.length=s.fr.length:=Hi _ _ _ _ _;have ht4:A1.tag hb=4:=by
  have hr:=Ag.hi l1;rw[hlen,v1,hhv] at hr;obtain⟨b',c',e',_,_,ht',_⟩:=hr.form (by omega);injection e' with e' _ _;injection e' with e';injection e' with e' _ _;rw[e'];exact ht'
 obtain⟨l2,c2⟩:=l1.hiset (hcap:=hcap) (by rw[hlen,v1];exact hhv) j (by rw[hlen];exact hj) false (BX all n s.fr s.high (j+1)) (by rw[hlen];exact Hi _ _ _ _ _) (fun k hk=>by
  rw[hlen] at hk;exact LL hg k hk)
 have e2:BA all n s.fr s.high (j+1)=BA all n s.fr s.high j+1:=by rw[Gq,hg,hi];rfl
 obtain⟨l3,c3⟩:=l2.ownset 19 (.int .i64 (((s.cD+BA all n s.fr s.high j:Nat):Int)+1)) (s':=DO all n s (j+1)) (by
  have e19:Value.int .i64 (((s.cD+BA all n s.fr s.high j:Nat):Int)+1)=.int .i64 ((s.cD+BA all n s.fr s.high (j+1):Nat):Int):=by rw[e2];congr 1
  rw[e19];rfl) rfl rfl rfl rfl
 have hrt:=(Ag.own l1).2;refine⟨A1,l3,p1,f1,v1,t5,(q1.trans (c2.mono (fun d hd=>by unfold Be;omega))).trans (c3.mono (fun d hd=>by unfold Be;omega)),?_⟩;rw[Tx _ _ _ _ (fun e=>?_),Tx _ _ _ _ (fun e=>?_)]
 ·exact hev
 ·have e':w.heap.size=hb:=e;rw[<-e',t5] at ht4;omega
 ·have e':w.heap.size=rb:=e;rw[<-e',t5] at hrt;omega
structure R4 (wr:World) (eb rb fb fcap hb hcap k j:Nat) (kd n:Int) (fnj cd:Nat) (hg:Bool):Prop where
 r1:wr.cell? ⟨rb,1,none⟩=some (.slice (some ⟨fb,0,none⟩) (k+1) fcap)
 r8:wr.cell? ⟨rb,8,none⟩=some (.slice (some ⟨hb,0,none⟩) (k+1) hcap)
 c0:wr.cell? ⟨fb,j * 4,none⟩=some (.int .i64 fnj)
 h8:wr.cell? ⟨hb,j,none⟩=some (.bool hg)
 e1:wr.cell? ⟨eb,1,none⟩=some (.int .i64 kd)
 e2:wr.cell? ⟨eb,2,none⟩=some (.int .i64 n)
 z8:wr.frozen? ⟨hb,j,none⟩=false
 r19:wr.cell? ⟨rb,19,none⟩=some (.int .i64 cd)
 z19:wr.frozen? ⟨rb,19,none⟩=false
 bl:rb<wr.heap.size/\fb<wr.heap.size/\hb<wr.heap.size/\eb<wr.heap.size
theorem De.reads(h:De w B rb A s st kd n all j wr){k fb fcap hb hcap:Nat}(hk:s.fr.length=k+1)(hj:j<k+1)(hfv:A.fv=.slice (some ⟨fb,0,none⟩) (k+1) fcap)(hhv:A.hv=.slice (some ⟨hb,0,none⟩) (k+1) hcap) :
  R4 wr w.heap.size rb fb fcap hb hcap k j kd n (Am s.fr j).fn (s.cD+BA all n s.fr s.high j) (AU s.high j):=by
 obtain⟨A1,l1,p1,f1,v1,t5,q1,hev⟩:=h;have hlen:(DO all n s j).high.length=k+1:=(Hi _ _ _ _ _).trans hk;have hr:=Ag.hi l1;rw[hlen,v1,hhv] at hr;have hfr:=Ag.fr l1;have hfl:(DO all n s j).fr.length=k+1:=hk;rw[hfl,f1,hfv] at hfr;have c0:=hfr.cell (i:=j * 4) (by omega);rw[Iu] at c0;have h8:=hr.cell (i:=j) (by omega);have e8:(DO all n s j).high.reverse.getD j false=AU s.high j:=by
  show AU (BX all n s.fr s.high j) j=_;rw[G1 _ _ _ _ _ _ (by omega),if_neg (fun h=>absurd h.1 (by omega))]
 rw[e8] at h8;exact⟨by rw[Ag.cell l1 1];show some A1.fv=_;rw[f1,hfv],by rw[Ag.cell l1 8];show some A1.hv=_;rw[v1,hhv],c0,h8,(Ab hev).trans rfl,(Ab hev).trans rfl,hr.frozen j,Ag.cell l1 19,Ag.frozen l1 19,Ag.lt l1,Tr wr _ c0,Tr wr _ h8,Ah hev⟩
theorem MK(w:World)(B rb:Nat)(A:Ad)(s:Mc)(F:Nat->PF)(f:Fr)(rest:List Fr)(st kd n:Int)(hkd:(kd=2/\0<=n/\n<8)\/kd=4)(hL:Al w B rb A s)(hs:s.fr=f::rest)(hh:s.high.length=s.fr.length)(hr:rest.length<=60)(hD:s.cD<=900000) :
  Calls prog 81 #[.pointer (some ⟨rb,0,none⟩),.agg #[.int .i64 st,.int .i64 kd,.int .i64 n]] w fun e w'=>e=.returned (.tuple #[])/\Bo w w' B rb A (Bu F kd n s):=by
 obtain⟨fb,fcap,hb,hcap,lp,sp,ln,lc,sn,sc,hR,hfv,hhv,_,_⟩:=IW hL hs hh;obtain⟨r1,r8,c0,c1,c2,c3,⟨k1,k2,k3⟩,n1,n2,n3⟩:=hR;have hk0:s.fr.length=rest.length+1:=by rw[hs];rfl
 obtain⟨all,hall⟩:∃ all:Bool,all=decide (kd=4):=⟨_,rfl⟩
 have hcm:Bu F kd n s={DO all n s (rest.length+1) with made:=if kd=2 then Ac s.made n.toNat false else s.made}:=by
  have h1:¬kd=1:=by omega
  have h3:¬kd=3:=by omega
  unfold Bu;rw[if_neg h1,if_neg h3];dsimp only;rw[GI _ _ _ _ hh,hk0,<-hall];rfl
 generalize Bu F kd n s=s' at *;have HC:=Aa hcm;clear hcm;have t1:(kd==1)=false:=by simp;omega
 have t3:(kd==3)=false:=by simp;omega
 have HB:=Aa (FL.of hL f st kd n (.slice lp ln lc) (.slice sp sn sc));have HX:=Aa (Tc hh (Tc hk0 (Tc hfv (Tc hhv (Tc hkd hall)))));clear hL hs hh hfv hhv hk0 hkd hall;generalize rest.length=k at *;generalize f.fn=fx at *;generalize f.pc=px at *;go_enter func81,ntmps81
 go_wp2_with fail
 generalize (w.alloc (.cells #[.int .i64 st,.int .i64 kd,.int .i64 n] 65)).alloc (.cells #[.int .i64 fx,.int .i64 px,.slice lp ln lc,.slice sp sn sc] 73)=W at *;clear c0 c1 c2 c3 r1 r8 k1 k2 k3 n1 n3;have HI:=Aa (De.start HB.out HX.out.1 all);clear HB;go_loopw [7] (fun v wr=>∃ j:Nat,j<=k+1/\v=.int .i64 j/\De w B rb A s st kd n all j wr) (fun v _=>k+1-(intOf v).toNat)
 case atStart=>exact⟨0,by omega,rfl,HI.out⟩
 case round =>
  clear HI;obtain⟨j,hj,rfl,hI⟩:=hrel;by_cases hlt:j<=k
  ·have hd1:decide ((j:Int)<=(k:Int))=true:=by simp;omega
   have hd1':decide (j<=k)=true:=by simp;omega
   obtain⟨r1,r8,c0,h8,y1,y2,z8,r19,z19,b1,b2,b3,b4⟩:=hI.reads HX.out.2.1 (by omega) HX.out.2.2.1 HX.out.2.2.2.1;have hle:=I0 all n s.fr s.high j;have HD2:=Aa (fun hi hg=>hI.drew.down (by rw[HX.out.2.1];omega) (by rw[HX.out.2.1];exact HX.out.2.2.2.1) hi hg);have HS2:=Aa (fun hc=>hI.drew.same hc);clear hI;have e19:wrap64 (((s.cD+BA all n s.fr s.high j:Nat):Int)+1)=((s.cD+BA all n s.fr s.high j:Nat):Int)+1:=by unfold wrap64;omega
   generalize s.cD+BA all n s.fr s.high j=cd at *;generalize hgj:AU s.high j=hg at *;generalize hfj:(Am s.fr j).fn=fnj at *;have HGJ:=Aa (Tc hgj hfj);clear hgj hfj hle;have HS:=Aa (fun (w':World) (hb':Below wr.heap.size wr w')=>(show w'.cell? ⟨rb,1,none⟩=some (.slice (some ⟨fb,0,none⟩) (k+1) fcap)/\w'.cell? ⟨rb,8,none⟩=some (.slice (some ⟨hb,0,none⟩) (k+1) hcap)/\w'.cell? ⟨fb,j * 4,none⟩=some (.int .i64 fnj)/\w'.cell? ⟨hb,j,none⟩=some (.bool hg)/\w'.cell? ⟨w.heap.size,1,none⟩=some (.int .i64 kd)/\w'.cell? ⟨w.heap.size,2,none⟩=some (.int .i64 n) from ⟨(hb'.cell (p:=⟨rb,1,none⟩) b1).trans r1,(hb'.cell (p:=⟨rb,8,none⟩) b1).trans r8,(hb'.cell (p:=⟨fb,j * 4,none⟩) b2).trans c0,(hb'.cell (p:=⟨hb,j,none⟩) b3).trans h8,(hb'.cell (p:=⟨w.heap.size,1,none⟩) b4).trans y1,(hb'.cell (p:=⟨w.heap.size,2,none⟩) b4).trans y2⟩));clear r1 r8 c0 y1 y2;have i0:(0:Int)<=(j:Int):=by omega
   have i1:(j:Int)<(k:Int)+1:=by omega
   have hnrh:¬rb=hb:=n2;have hall:=HX.out.2.2.2.2.2;cases hg with
   |false =>
    have HK:=Aa (HS2.out (Or.inl rfl));have HN:=Aa True.intro;clear HS2 HD2 hall h8 z8 r19 z19;go_wp2_with fail
    refine AG (Below wr.heap.size wr) TF (by kernel_rfl) (by kernel_rfl) (fun c0 a0 d0 v0 x0 h0=>A8 (P:=prog) f81 (fun e w'=>e=.returned (.tuple #[])/\Bo w w' B rb A s') c0 a0 d0 v0 x0 h0) (Tu _ _).drew ?_;simp only[TF,lexL,Tl,Tm];iterate 26 (first|(refine Cj (by rfl) ?_;simp only[Act.put,Td,Th,Tg])|(refine Aw (by rfl) (by intro w' hS';obtain⟨q0,q1,q2,q3,q4,q5⟩:=HS.out w' hS';clear hS';go_simp;exact rfl) ?_;simp only[Act.put,Td,Th,Tg]))
    refine AF ?_;clear HS HN;go_wp2;exact⟨⟨j+1,by omega,by go_num,HK.out⟩,by simp[intOf];omega⟩
   |true =>
    by_cases h4:kd=4
    ·have t4:(kd==4)=true:=by simpa using h4
     have HN:=Aa (HD2.out rfl (by rw[hall];simp[B7,h4]));have HK:=Aa True.intro;clear HS2 HD2 hall h4;go_wp2_with fail
     refine AG (Below wr.heap.size wr) TF (by kernel_rfl) (by kernel_rfl) (fun c0 a0 d0 v0 x0 h0=>A8 (P:=prog) f81 (fun e w'=>e=.returned (.tuple #[])/\Bo w w' B rb A s') c0 a0 d0 v0 x0 h0) (Tu _ _).drew ?_;simp only[TF,lexL,Tl,Tm];iterate 26 (first|(refine Cj (by rfl) ?_;simp only[Act.put,Td,Th,Tg])|(refine Aw (by rfl) (by intro w' hS';obtain⟨q0,q1,q2,q3,q4,q5⟩:=HS.out w' hS';clear hS';go_simp;exact rfl) ?_;simp only[Act.put,Td,Th,Tg]))
     refine AF ?_;obtain⟨-,q1,-,-,-,-⟩:=HS.out wr (Tu _ _);clear HS HK;go_wp2;exact⟨⟨j+1,by omega,by go_num,HN.out⟩,by simp[intOf];omega⟩
    ·have t4:(kd==4)=false:=by simpa using h4
     by_cases hfn:(fnj:Int)=n
     ·have tf:((fnj:Int)==n)=true:=by simpa using hfn
      have HN:=Aa (HD2.out rfl (by unfold B7;rw[HGJ.out.2];simp[hfn]));have HK:=Aa True.intro;clear HS2 HD2 hall h4 hfn;go_wp2_with fail
      refine AG (Below wr.heap.size wr) TF (by kernel_rfl) (by kernel_rfl) (fun c0 a0 d0 v0 x0 h0=>A8 (P:=prog) f81 (fun e w'=>e=.returned (.tuple #[])/\Bo w w' B rb A s') c0 a0 d0 v0 x0 h0) (Tu _ _).drew ?_;simp only[TF,lexL,Tl,Tm];iterate 26 (first|(refine Cj (by rfl) ?_;simp only[Act.put,Td,Th,Tg])|(refine Aw (by rfl) (by intro w' hS';obtain⟨q0,q1,q2,q3,q4,q5⟩:=HS.out w' hS';clear hS';go_simp;exact rfl) ?_;simp only[Act.put,Td,Th,Tg]))
      refine AF ?_;obtain⟨-,q1,-,-,-,-⟩:=HS.out wr (Tu _ _);clear HS HK;go_wp2;exact⟨⟨j+1,by omega,by go_num,HN.out⟩,by simp[intOf];omega⟩
     ·have tf:((fnj:Int)==n)=false:=by simpa using hfn
      have HK:=Aa (HS2.out (Or.inr (by unfold B7;rw[HGJ.out.2,hall];simp[h4,hfn])));have HN:=Aa True.intro;clear HS2 HD2 hall h4 hfn h8 z8 r19 z19;go_wp2_with fail
      refine AG (Below wr.heap.size wr) TF (by kernel_rfl) (by kernel_rfl) (fun c0 a0 d0 v0 x0 h0=>A8 (P:=prog) f81 (fun e w'=>e=.returned (.tuple #[])/\Bo w w' B rb A s') c0 a0 d0 v0 x0 h0) (Tu _ _).drew ?_;simp only[TF,lexL,Tl,Tm];iterate 26 (first|(refine Cj (by rfl) ?_;simp only[Act.put,Td,Th,Tg])|(refine Aw (by rfl) (by intro w' hS';obtain⟨q0,q1,q2,q3,q4,q5⟩:=HS.out w' hS';clear hS';go_simp;exact rfl) ?_;simp only[Act.put,Td,Th,Tg]))
      refine AF ?_;clear HS HN;go_wp2;exact⟨⟨j+1,by omega,by go_num,HK.out⟩,by simp[intOf];omega⟩
  ·have hd1:decide ((j:Int)<=(k:Int))=false:=by simp;omega
   have hd1':decide (j<=k)=false:=by simp;omega
   obtain rfl:j=k+1:=by omega
   obtain⟨A1,l1,p1,f1,v1,t5,q1,hev⟩:=hI;have y1:wr.cell? ⟨w.heap.size,1,none⟩=some (.int .i64 kd):=(Ab hev).trans rfl;have y2:wr.cell? ⟨w.heap.size,2,none⟩=some (.int .i64 n):=(Ab hev).trans rfl;have hkd:=HX.out.2.2.2.2.1;by_cases h2:kd=2
   ·have t2:(kd==2)=true:=by simpa using h2
    obtain⟨nn,hnn,hn8⟩:∃ nn:Nat,n=nn/\nn<8:=⟨n.toNat,by omega,by omega⟩
    subst hnn;have ym:wr.cell? ⟨rb,9+nn,none⟩=some (.bool (s.made nn)):=by rw[Ag.cell l1 (9+nn)];exact JU _ _ _ _ _ _ nn hn8
    have zm:wr.frozen? ⟨rb,9+nn,none⟩=false:=Ag.frozen l1 (9+nn);have HQ:=Aa (show Bo w (wr.setCell ⟨rb,9+nn,none⟩ (.bool false)).drew B rb A s' from by
     have hX:Below wr.heap.size wr wr.drew:=(Tu _ _).drew;obtain⟨l2,c2⟩:=(l1.below hX).made nn hn8 false;rw[HC.out,if_pos h2];exact⟨A1,l2,p1,(q1.trans (Ch.of_below hX)).trans (c2.mono (fun d hd=>by unfold Be;omega))⟩)
    have HNE:=Aa (show ∀ v:Value,(wr.setCell ⟨rb,9+nn,none⟩ v).cell? ⟨w.heap.size,2,none⟩=some (.int .i64 nn) from fun v=>by
     refine(Tw (a:=⟨w.heap.size,2,none⟩) (Tx wr ⟨rb,9+nn,none⟩ v w.heap.size (fun e=>?_))).trans y2;have h0:=(Ag.own l1).2;rw[show rb=w.heap.size from e.symm,t5] at h0;omega)
    have i0:(0:Int)<=(nn:Int):=by omega
    have i1:(nn:Int)<8:=by omega
    have HY:=Aa y2;clear l1 p1 f1 v1 t5 q1 hev h2 hkd y2 hn8;generalize s.made nn=mn at *;go_wp2_with fail
    refine AG (fun w'=>w'.cell? ⟨w.heap.size,2,none⟩=some (.int .i64 nn)) TD (by kernel_rfl) (by kernel_rfl) (fun c0 a0 d0 v0 x0 h0=>A8 (P:=prog) f81 (fun e w'=>e=.returned (.tuple #[])/\Bo w w' B rb A s') c0 a0 d0 v0 x0 h0) HY.out ?_;simp only[TD,lexL,Tl,Tm];iterate 6 (refine Aw (by rfl) (by intro w' hS';go_simp;exact rfl) ?_;simp only[Act.put,Td,Th,Tg])
    refine Az (fun K hK=>?_);go_simp;refine hK.out _ _ (HNE.out _) ?_;clear hK K;refine AF ?_;clear ym zm y1;go_wp2;go_end0;exact⟨rfl,HQ.out⟩
   ·have t2:(kd==2)=false:=by simpa using h2
    have HQ:=Aa (show Bo w wr B rb A s' from by
     rw[HC.out,if_neg h2];exact⟨A1,l1,p1,q1⟩)
    clear l1 p1 f1 v1 t5 q1 hev h2 hkd y2;go_wp2;go_end0;exact⟨rfl,HQ.out⟩
theorem PY(w:World)(B rb m:Nat)(A:Ad)(s:Mc)(F:Nat->PF)(K:Nat->Nat->Bool)(H:Nat->Nat->Int)(ev:Ev)(hL:Al w B rb A s)(hpg:Pg w B A.pv m F)(hF:AP m F K H)(hI:BS m F K H s)(hok:CY m ev)(hD:s.cD<=900000)(hU:s.cU<=900000) :
  Calls prog 81 #[.pointer (some ⟨rb,0,none⟩),.agg #[.int .i64 ev.st,.int .i64 ev.k,.int .i64 ev.n]] w fun e w'=>e=.returned (.tuple #[])/\Bo w w' B rb A (Bu F ev.k ev.n s):=by
 obtain⟨⟨f,rest,hs,hf,_,h24⟩,hh,_,_⟩:=hI;have hm8:=hF.size.2;obtain⟨_,hk,hn⟩:=hok;obtain⟨st,k,n⟩:=ev;dsimp only at *;rcases hk with rfl|rfl|rfl|rfl
 ·obtain⟨n0,n1⟩:=hn (by omega);obtain⟨nn,rfl⟩:∃ nn:Nat,n=nn:=⟨n.toNat,by omega⟩
  exact P9 w B rb A s F f rest st nn hL hs hh (by omega) (by omega)
 ·obtain⟨n0,n1⟩:=hn (by omega);exact MK w B rb A s F f rest st 2 n (Or.inl ⟨rfl,n0,by omega⟩) hL hs hh (by omega) hD
 ·exact M4 w B rb m A s F f rest st n hL hpg hs hh (by omega) hf.fn hm8 hf.pc (hF.fn f.fn hf.fn).cn.2 hU
 ·exact MK w B rb A s F f rest st 4 n (Or.inr rfl) hL hs hh (by omega) hD
end
variable {m:Nat} {F:Nat->PF} {K:Nat->Nat->Bool} {H:Nat->Nat->Int}
structure DL (s s':Mc):Prop where
 fr:s'.fr=s.fr
 arr:s'.arr=s.arr
 out:s'.out=s.out
 gives:s'.gives=s.gives
 steps:s'.steps=s.steps
 fin:s'.fin=s.fin
theorem DL.trans{s t u:Mc}(h:DL s t)(k:DL t u):DL s u:=⟨k.fr.trans h.fr,k.arr.trans h.arr,k.out.trans h.out,k.gives.trans h.gives,k.steps.trans h.steps,k.fin.trans h.fin⟩
theorem Cm.six{s s':Mc}(h:Cm s s'):DL s s':=⟨h.fr,h.arr,h.out,h.gives,h.steps,h.fin⟩
theorem PW{s s':Mc}(A:Nat)(f:Fr)(rest:List Fr)(h:DL s s'):DL (AJ F A f rest s) (AJ F A f rest s'):=by
 unfold AJ;split
 ·exact h
 ·split
  ·exact⟨rfl,h.arr,h.out,h.gives,h.steps,rfl⟩
  ·split
   ·exact⟨rfl,h.arr,h.out,h.gives,h.steps,rfl⟩
   ·exact⟨rfl,h.arr,h.out,h.gives,h.steps,h.fin⟩
theorem QK{s s':Mc}(f:Fr)(rest:List Fr)(h:DL s s'):DL (AT f rest s) (AT f rest s'):=by
 unfold AT;split
 ·exact h
 ·split
  ·exact⟨rfl,h.arr,h.out,rfl,h.steps,rfl⟩
  ·exact⟨rfl,h.arr,h.out,h.gives,h.steps,h.fin⟩
theorem Q3{s s':Mc}(h:DL s s'):DL (AA F s) (AA F s'):=by
 cases hc:s.fr with
 |nil =>
  have hc':s'.fr=[]:=h.fr.trans hc;have e1:AA F s=s:=by unfold AA;rw[hc]
  have e2:AA F s'=s':=by unfold AA;rw[hc']
  rw[e1,e2];exact h
 |cons f rest =>
  rw[Dw hc,Dw (h.fr.trans hc)];unfold CG;dsimp only;have hst:=h.steps;split
  ·exact⟨rfl,h.arr,h.out,h.gives,by show s'.steps+1=_;rw[hst],h.fin⟩
  ·split
   ·split
    ·exact⟨h.fr,h.arr,h.out,h.gives,by show s'.steps+1=_;rw[hst],h.fin⟩
    ·exact⟨rfl,h.arr,h.out,h.gives,by show s'.steps+1=_;rw[hst],h.fin⟩
   ·split
    ·exact PW _ _ _ ⟨h.fr,h.arr,h.out,h.gives,by show s'.steps+1=_;rw[hst],h.fin⟩
    ·split
     ·exact QK _ _ ⟨h.fr,h.arr,h.out,h.gives,by show s'.steps+1=_;rw[hst],h.fin⟩
     ·rw[h.arr,h.out];exact⟨rfl,rfl,rfl,h.gives,by show s'.steps+1=_;rw[hst],rfl⟩
theorem FU(hF:AP m F K H){E:List Ev}(hr:Cv 0 E)(hok:∀ e,e∈E->CY m e):∀ n,DL (AY F (AC F) n) (AO F (AC F) E n).1
 |0=>(Fe (F:=F) E (AC F) (Fj hF).1.highs).six
 |n+1=>by
  have ih:=FU hF hr hok n;have hAt:=Gl hF hr hok n;show DL (if (AY F (AC F) n).fin=0 then AA F (AY F (AC F) n) else AY F (AC F) n) (if (AO F (AC F) E n).1.fin=0 then (if (AA F (AO F (AC F) E n).1).fin=0 then BN F (AO F (AC F) E n).2 (AA F (AO F (AC F) E n).1) else (AA F (AO F (AC F) E n).1,(AO F (AC F) E n).2)) else AO F (AC F) E n).1;generalize AO F (AC F) E n=x at *;generalize AY F (AC F) n=y at *;rw[ih.fin];by_cases hz:y.fin=0
  ·rw[if_pos hz,if_pos hz];have h1:=Q3 (F:=F) ih;obtain⟨hI,_⟩:=hAt.go (ih.fin.trans hz);split
   ·rename_i hz2;exact h1.trans (Fe (F:=F) x.2 (AA F x.1) (EH hF hI hz2).highs).six
   ·exact h1
  ·rw[if_neg hz,if_neg hz];exact ih
end Go.Proofs.YtkafkipjedpohaaGreatDoor
namespace Go.Proofs.YtkafkipjedpohaaGreatDoor
variable {m:Nat} {F:Nat->PF} {K:Nat->Nat->Bool} {H:Nat->Nat->Int}
theorem Ln(hF:AP m F K H){E:List Ev}(hr:Cv 0 E)(hok:∀ e,e∈E->CY m e):∀ n,Bd (AO F (AC F) E n).1
 |0=>(Fe (F:=F) E (AC F) (Fj hF).1.highs).bd JM
 |n+1=>by
  have ih:=Ln hF hr hok n;have hAt:=Gl hF hr hok n;unfold AO;generalize AO F (AC F) E n=x at *;split
  ·rename_i hz;obtain⟨hI,_⟩:=hAt.go hz;obtain⟨f,rest,hfr,_⟩:=hI.top;split
   ·rename_i hz2;exact(Fe (F:=F) x.2 (AA F x.1) (EH hF hI hz2).highs).bd (Bd.step ih hz hfr)
   ·exact Bd.step ih hz hfr
  ·exact ih
def Tb(k:Int)(E:List Ev):Nat:=(E.filter fun e=>decide (e.k=k)).length
structure S9 (s:Mc):Prop where
 made:∀ k,s.made k=false
 high:∀ b,b∈s.high->b=false
 cH:s.cH=0
 cU:s.cU=0
 cD:s.cD=0
end Go.Proofs.YtkafkipjedpohaaGreatDoor

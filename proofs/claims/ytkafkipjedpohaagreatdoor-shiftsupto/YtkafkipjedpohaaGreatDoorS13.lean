import Derived.Test.YtkafkipjedpohaaGreatDoorS12
import Derived.Deep.CutRange
namespace Go.Proofs.YtkafkipjedpohaaGreatDoor
set_option maxRecDepth 100000
set_option maxHeartbeats 16000000
open Go.RowKit _root_.Go.Proofs.Tryz
structure SR (w:World) (rb fb fcap hb hcap pb po pc cb co cc m k:Nat) (s:Mc) (f:Fr) (pf:PF):Prop where
 r0:w.cell? ⟨rb,0,none⟩=some (.slice (some ⟨pb,po,none⟩) m pc)
 r1:w.cell? ⟨rb,1,none⟩=some (.slice (some ⟨fb,0,none⟩) (k+1) fcap)
 r8:w.cell? ⟨rb,8,none⟩=some (.slice (some ⟨hb,0,none⟩) (k+1) hcap)
 r6:w.cell? ⟨rb,6,none⟩=some (.int .i64 s.steps)
 r17:w.cell? ⟨rb,17,none⟩=some (.int .i64 s.cH)
 z:∀ i,w.frozen? ⟨rb,i,none⟩=false
 c0:w.cell? ⟨fb,k * 4,none⟩=some (.int .i64 f.fn)
 c1:w.cell? ⟨fb,k * 4+1,none⟩=some (.int .i64 f.pc)
 a2:w.cell? ⟨pb,po+f.fn * 3+2,none⟩=some (.slice (some ⟨cb,co,none⟩) pf.cn cc)
 i0:w.cell? ⟨cb,co+f.pc * 2,none⟩=some (.int .i64 (pf.op f.pc))
 i1:w.cell? ⟨cb,co+f.pc * 2+1,none⟩=some (.int .i64 (pf.ar f.pc))
 h8:w.cell? ⟨hb,k,none⟩=some (.bool (s.high.headD false))
 blk:rb<w.heap.size/\fb<w.heap.size/\pb<w.heap.size/\cb<w.heap.size/\hb<w.heap.size
 ne:¬rb=fb/\¬rb=hb/\¬rb=pb/\¬rb=cb/\¬fb=pb/\¬fb=cb/\¬hb=fb
section
variable {w:World}{B rb:Nat}{A:Ad}{s:Mc}
theorem Q4{m:Nat}{F:Nat->PF}{f:Fr}{rest:List Fr}(hL:Al w B rb A s)(hpg:Pg w B A.pv m F)(hs:s.fr=f::rest)(hh:s.high.length=s.fr.length)(hfn:f.fn<m)(hpc:f.pc<(F f.fn).cn) :
  ∃ fb fcap hb hcap pb po pc cb co cc,SR w rb fb fcap hb hcap pb po pc cb co cc m rest.length s f (F f.fn)/\A.fv=.slice (some ⟨fb,0,none⟩) (rest.length+1) fcap:=by
 have hlen:s.fr.length=rest.length+1:=by rw[hs];rfl
 have hfr:=Ag.fr hL;rw[hlen] at hfr;obtain⟨fb,fcap,hfv,hfB,hfz,hft,_⟩:=hfr.form (by omega);have hhi:=Ag.hi hL;rw[hh,hlen] at hhi;obtain⟨hb,hcap,hhv,hhB,hhz,hht,_⟩:=hhi.form (by omega);obtain⟨pb,po,pc,CA,CC,hpv,hPA,hpb,hcbB⟩:=hpg.at_;have hfun:=hPA.fn f.fn hfn;obtain⟨cb,co,eca,hcb,hcode⟩:=hfun.code (by omega);obtain⟨q0,q1⟩:=hcode f.pc hpc;have hsl:=hfun.slice;rw[eca] at hsl;have hrt:=(Ag.own hL).2;have hrB:=(Ag.own hL).1;have hcbl:=hcbB f.fn hfn cb co eca (by omega);have hrz:=Ag.lt hL;have hfr2:=hfr;rw[hfv] at hfr2;have hhi2:=hhi;rw[hhv] at hhi2;have c0:=hfr2.cell (i:=rest.length * 4) (by omega);have c1:=hfr2.cell (i:=rest.length * 4+1) (by omega);rw[Iu,hs,Bg] at c0;rw[E6,hs,Bg] at c1;have h8:=hhi2.cell (i:=rest.length) (by omega);have ehd:s.high.reverse.getD rest.length false=s.high.headD false:=by
  have hl:s.high.length=rest.length+1:=by rw[hh,hlen]
  cases hc:s.high with
  |nil=>rw[hc] at hl;simp at hl
  |cons b bs =>
   rw[hc] at hl;have:bs.length=rest.length:=by simpa using hl
   rw[List.reverse_cons,Tj,List.getElem?_append_right (by simp[this])];simp[this]
 rw[ehd] at h8;refine⟨fb,fcap,hb,hcap,pb,po,pc,cb,co,CC f.fn,⟨by rw[Ag.cell hL 0,hpv];rfl,by rw[Ag.cell hL 1,<-hfv];rfl,by rw[Ag.cell hL 8,<-hhv];rfl,Ag.cell hL 6,Ag.cell hL 17,fun i=>Ag.frozen hL i,c0,c1,hsl,q0,q1,h8,⟨hrz,hfz,by omega,hcb,hhz⟩,?_⟩,hfv⟩;refine⟨fun e=>?_,fun e=>?_,by omega,by omega,by omega,by omega,fun e=>?_⟩
 ·rw[e,hft] at hrt;omega
 ·rw[e,hht] at hrt;omega
 ·rw[e,hft] at hht;omega
theorem Al.tick(hL:Al w B rb A s) :
  Al (w.setCell ⟨rb,6,none⟩ (.int .i64 ((s.steps:Int)+1))) B rb A {s with steps:=s.steps+1}/\Ch B Be A.tag A.tag w (w.setCell ⟨rb,6,none⟩ (.int .i64 ((s.steps:Int)+1))) /\
  Al ((w.setCell ⟨rb,6,none⟩ (.int .i64 ((s.steps:Int)+1))).setCell ⟨rb,17,none⟩ (.int .i64 ((s.cH:Int)+1))) B rb A {s with steps:=s.steps+1,cH:=s.cH+1}/\Ch B Be A.tag A.tag w ((w.setCell ⟨rb,6,none⟩ (.int .i64 ((s.steps:Int)+1))).setCell ⟨rb,17,none⟩ (.int .i64 ((s.cH:Int)+1))):=by
 have e6:Value.int .i64 ((s.steps:Int)+1)=.int .i64 ((s.steps+1:Nat):Int):=by congr 1
 have e17:Value.int .i64 ((s.cH:Int)+1)=.int .i64 ((s.cH+1:Nat):Int):=by congr 1
 obtain⟨l2,c2⟩:=hL.ownset 6 (.int .i64 ((s.steps:Int)+1)) (s':={s with steps:=s.steps+1}) (by rw[e6];rfl) rfl rfl rfl rfl;obtain⟨l3,c3⟩:=l2.ownset 17 (.int .i64 ((s.cH:Int)+1)) (s':={s with steps:=s.steps+1,cH:=s.cH+1}) (by rw[e17];rfl) rfl rfl rfl rfl;have f0:∀ d:Nat,d=0->Be d:=fun d hd=>by unfold Be;omega
 exact⟨l2,c2.mono f0,l3,(c2.mono f0).trans (c3.mono f0)⟩
def EO(w:World)(B rb:Nat)(A:Ad)(s:Mc)(op ar:Int)(bx:Nat)(wc:World):Prop :=
 ∃ A1:Ad,Al wc B rb A1 s/\A1.pv=A.pv/\A1.fv=A.fv/\A1.tag bx=5/\Ch B Be A.tag A1.tag w wc/\wc.heap[bx]?=some (.cells #[.int .i64 op,.int .i64 ar] 33 (0,0))/\B<=wc.heap.size
theorem EO.of{op ar:Int}(hB:B<=w.heap.size)(lW:Al w B rb A s) :
  EO w B rb A s op ar w.heap.size (w.alloc (.cells #[.int .i64 op,.int .i64 ar] 33)).drew:=by
 have l1:=(lW.box (.cells #[.int .i64 op,.int .i64 ar] 33)).below (Tu _ _).drew;have c1:Ch B Be A.tag (Ac A.tag w.heap.size 5) w (w.alloc (.cells #[.int .i64 op,.int .i64 ar] 33)).drew:=Ch.of_tags (((Tu _ _).alloc (Te _) _).drew) (fun b hb=>Ao _ _ _ _ (by omega));exact⟨{A with tag:=Ac A.tag w.heap.size 5},l1,rfl,rfl,Au _ _ _,c1,Tv w _,by simp;omega⟩
def cnt(s:Mc):Mc:={s with steps:=s.steps+1,cH:=s.cH+(if s.high.headD false=true then 1 else 0)}
theorem EO.tick{wc:World}{op ar:Int}{bx:Nat}(h:EO w B rb A s op ar bx wc) :
  (s.high.headD false=false->EO w B rb A (cnt s) op ar bx (wc.setCell ⟨rb,6,none⟩ (.int .i64 ((s.steps:Int)+1)))) /\
  (s.high.headD false=true->EO w B rb A (cnt s) op ar bx ((wc.setCell ⟨rb,6,none⟩ (.int .i64 ((s.steps:Int)+1))).setCell ⟨rb,17,none⟩ (.int .i64 ((s.cH:Int)+1)))):=by
 obtain⟨A1,l1,p1,f1,t1,c1,b1,hB⟩:=h;obtain⟨l2,c2,l3,c3⟩:=l1.tick;have hne:rb≠bx:=by intro e;have:=(Ag.own l1).2;rw[e,t1] at this;omega
 constructor
 ·intro h;have e:cnt s={s with steps:=s.steps+1}:=by unfold cnt;rw[h];simp
  rw[e];exact⟨A1,l2,p1,f1,t1,c1.trans c2,(Tx _ _ _ _ (fun e=>hne e.symm)).trans b1,by simp;omega⟩
 ·intro h;have e:cnt s={s with steps:=s.steps+1,cH:=s.cH+1}:=by unfold cnt;rw[h];simp
  rw[e];exact⟨A1,l3,p1,f1,t1,c1.trans c3,(Tx _ _ _ _ (fun e=>hne e.symm)).trans ((Tx _ _ _ _ (fun e=>hne e.symm)).trans b1),by simp;omega⟩
def JL(w:World)(B rb:Nat)(A:Ad)(s':Mc)(e:Ending)(w':World):Prop:=e=.returned (.tuple #[])/\Bo w w' B rb A s'
theorem KA(w:World)(B rb m:Nat)(A:Ad)(s:Mc)(F:Nat->PF)(K:Nat->Nat->Bool)(H:Nat->Nat->Int)(hL:Al w B rb A s)(hpg:Pg w B A.pv m F)(hB:B<=w.heap.size)(hF:AP m F K H)(hI:BS m F K H s)(h16:Cw H s)(h0:s.fin=0)(hst:s.steps<=100000)(ho:s.out.length<=100000)(hm:s.arr.length<=100000)(hcH:s.cH<=100000)(hla:∀ j,(s.arr.getD j []).length<=200) :
  Calls prog 82 #[.pointer (some ⟨rb,0,none⟩)] w (JL w B rb A (AA F s)):=by
 obtain⟨⟨f,rest,hs,hf,hr,hn⟩,hh,ha,hc⟩:=hI;have hlow:=hf.low hF;have hleg:=hf.legal hF;have hff:=hF.fn f.fn hf.fn;have hst16:f.stk.length<=16:=by have h1:=h16 f (by rw[hs];exact Ti);have h2:=hf.height;omega
 have hrst:∀ g,g∈rest->g.stk.length<=60:=fun g hg=>by have h1:=h16 g (by rw[hs];exact Tf _ hg);have h2:=(hr g hg).height;omega
 have hpc64:f.pc<=64:=by have h1:=hf.pc;have h2:=hff.cn;omega
 have hpcn:=hf.pc;have hfnm:=hf.fn;have hm8:=hF.size.2;have hcn64:=hff.cn;obtain⟨fb,fcap,hb,hcap,pb,po,pc,cb,co,cc,hP,hfv⟩:=Q4 hL hpg hs hh hf.fn hf.pc;obtain⟨r0,r1,r8,r6,r17,z,c0,c1,a2,i0,i1,h8,⟨b1,b2,b3,b4,b5⟩,n1,n2,n3,n4,n5,n6,n7⟩:=hP;have z6:=z 6;have z17:=z 17;rw[Dw hs];generalize hopv:(F f.fn).op f.pc=op at *;generalize harv:(F f.fn).ar f.pc=ar at *;have HB0:=Aa (EO.of (op:=op) (ar:=ar) hB hL);have HO:=Aa (Tc hopv harv);have HX:=Aa (Tc hL (Tc hpg (Tc hs (Tc hfv (Tc hh (Tc hf (Tc hrst (Tc hlow (Tc hleg (Tc hF (Tc ha (Tc hc hla))))))))))));have e6:wrap64 ((s.steps:Int)+1)=(s.steps:Int)+1:=by unfold wrap64;omega
 have e17:wrap64 ((s.cH:Int)+1)=(s.cH:Int)+1:=by unfold wrap64;omega
 clear z hL hpg hs hfv hh hf hr hrst hlow hleg hF ha hc hla hff h16 hopv harv;generalize hk:rest.length=k at *;generalize hfx:f.fn=fx at *;generalize hpx:f.pc=px at *;generalize hcx:(F fx).cn=cn at *;have HKF:=Aa (Tc hk (Tc hfx (Tc hpx hcx)));clear hk hfx hpx hcx;generalize hR:CG F f rest s=R at *;have HR:=Aa hR;clear hR;go_enter func82,ntmps82
 go_upto_region 2 with fail
 go_cut [4] from 20 to 36 (fun v wc=>v=.pointer (some ⟨w.heap.size,0,none⟩)/\EO w B rb A s op ar w.heap.size wc)
 case first =>
  go_region;go_wp2_with fail
  go_meet;exact⟨rfl,HB0.out⟩
 case rest =>
  obtain⟨rfl,hbg⟩:=hcut;have HBG:=Aa hbg;clear r0 r1 r8 r6 r17 c0 c1 a2 i0 i1 h8 z6 z17 n1 n2 n3 n4 n5 n6 n7 b1 b2 b3 b4 b5 HB0;obtain⟨A1,l1,p1,f1,t1,q1,bx1,hBc⟩:=hbg;have r8:=(show wc.cell? ⟨rb,8,none⟩=some A1.hv from Ag.cell l1 8)
  have r6:wc.cell? ⟨rb,6,none⟩=some (.int .i64 s.steps):=Ag.cell l1 6;have r17:wc.cell? ⟨rb,17,none⟩=some (.int .i64 s.cH):=Ag.cell l1 17;have z6:wc.frozen? ⟨rb,6,none⟩=false:=Ag.frozen l1 6;have z17:wc.frozen? ⟨rb,17,none⟩=false:=Ag.frozen l1 17;have hhi:=Ag.hi l1;have hhl:s.high.length=k+1:=by rw[HX.out.2.2.2.2.1,HX.out.2.2.1,Tn,HKF.out.1]
  rw[hhl] at hhi;obtain⟨hb2,hcap2,hhv,hhB,hhz,hht,_⟩:=hhi.form (by omega);rw[hhv] at r8 hhi;have h8:=hhi.cell (i:=k) (by omega);have ehd:s.high.reverse.getD k false=s.high.headD false:=by
   cases hcs:s.high with
   |nil=>rw[hcs] at hhl;simp at hhl
   |cons b bs =>
    rw[hcs] at hhl;have:bs.length=k:=by simpa using hhl
    rw[List.reverse_cons,Tj,List.getElem?_append_right (by simp[this])];simp[this]
  rw[ehd] at h8;obtain⟨hi,hhd⟩:∃ hi,s.high.headD false=hi:=⟨_,rfl⟩
  rw[hhd] at h8;have HHD:=Aa hhd;clear hhd;have hnr:¬rb=hb2:=by intro e;have:=(Ag.own l1).2;rw[e,hht] at this;omega
  clear l1 p1 f1 t1 q1 bx1 hhi hhl hhv ehd hht;go_upto_if 50 with fail
  go_cut [4] from 44 to 60 (fun v wd=>v=.pointer (some ⟨w.heap.size,0,none⟩)/\EO w B rb A (cnt s) op ar w.heap.size wd)
  case first =>
   cases hi with
   |false =>
    have HC:=Aa (HBG.out.tick.1 HHD.out);go_wp2_with fail
    go_meet;exact⟨rfl,HC.out⟩
   |true =>
    have HC:=Aa (HBG.out.tick.2 HHD.out);go_wp2_with fail
    go_meet;exact⟨rfl,HC.out⟩
  case rest =>
   obtain⟨rfl,hbg2⟩:=hcut;have HC:=Aa hbg2;clear r8 r6 r17 z6 z17 h8 hnr HBG HHD hBc hhB hhz hbg2;obtain⟨wd,hwd⟩:∃ wd,wd=wc:=⟨_,rfl⟩
   subst hwd;have hop2:=HO.out;rw[<-HKF.out.2.1,<-HKF.out.2.2.1] at hop2;have HOP:=Aa hop2;clear hop2 HO;obtain⟨A1,l1,p1,f1,t1,q1,b1,hBd⟩:=HC.out;have x0:wd.cell? ⟨w.heap.size,0,none⟩=some (.int .i64 op):=(Ab b1).trans rfl;have x1:wd.cell? ⟨w.heap.size,1,none⟩=some (.int .i64 ar):=(Ab b1).trans rfl;have hs1:(cnt s).fr=f::rest:=HX.out.2.2.1;have hfv1:A1.fv=.slice (some ⟨fb,0,none⟩) (k+1) fcap:=f1.trans HX.out.2.2.2.1;have hfrow:=Ag.fr l1;rw[hs1,Tn,HKF.out.1,hfv1] at hfrow;have c1:wd.cell? ⟨fb,k * 4+1,none⟩=some (.int .i64 px):=by
    have:=hfrow.cell (i:=k * 4+1) (by omega);rw[<-HKF.out.1,E6,Bg,HKF.out.2.2.1] at this;rw[<-HKF.out.1];exact this
   have zf:wd.frozen? ⟨fb,k * 4+1,none⟩=false:=hfrow.frozen _;have hft:A1.tag fb=1:=by
    obtain⟨b',c',e',_,_,ht',_⟩:=hfrow.form (by omega);injection e' with e' _ _;injection e' with e';injection e' with e' _ _;rw[e'];exact ht'
   have hbz:w.heap.size<wd.heap.size:=Ah b1;have hfz:fb<wd.heap.size:=Tr wd _ c1;have hnbf:¬w.heap.size=fb:=by intro e;rw[e,hft] at t1;omega
   have HL1:=Aa (Tc l1 (Tc p1 (Tc hfv1 (Tc t1 (Tc q1 (Tc b1 hs1))))));clear l1 p1 f1 q1 hfrow hfv1 hft hs1 b1 HC t1;generalize hbx:w.heap.size=bx at *;have HBX:=Aa hbx;clear hbx;by_cases e10:op=10
   ·subst e10;have har:0<=ar:=(DF HX.out.2.2.2.2.2.2.2.2.1 (Or.inl rfl)).1;have HQ:=Aa (show Bo w (wd.setCell ⟨fb,k * 4+1,none⟩ (.int .i64 ar)) B rb A R from by
     obtain⟨l1,p1,hfv1,_,q1,_,hs1⟩:=HL1.out;obtain⟨l2,c2⟩:=l1.goto hs1 (by rw[HKF.out.1];exact hfv1) ar.toNat;rw[show ((ar.toNat:Nat):Int)=ar by omega,HKF.out.1] at l2 c2;rw[<-HR.out,FG HOP.out.1,HOP.out.2];exact⟨A1,l2,p1,q1.trans (c2.mono (fun d hd=>by unfold Be;omega))⟩)
    go_wp2;go_end0;exact⟨rfl,HQ.out⟩
   by_cases e11:op=11
   ·subst e11;have har:0<=ar:=(DF HX.out.2.2.2.2.2.2.2.2.1 (Or.inr rfl)).1;have hlow:(1:Int)<=f.stk.length:=by have:=HX.out.2.2.2.2.2.2.2.1;rw[show At 11 ar=1 by simp[At,A6]] at this;exact this
    obtain⟨v,r,hst⟩:∃ v r,f.stk=v::r:=by
     cases hc:f.stk with
     |nil=>rw[hc] at hlow;simp at hlow
     |cons x r=>exact⟨x,r,rfl⟩
    have hlr:r.length+1=f.stk.length:=by rw[hst];rfl
    have HP:=Aa (C4 wd B rb A1 (cnt s) f rest v r HL1.out.1 HL1.out.2.2.2.2.2.2 hst hBd (by omega) (by have:=HKF.out.1;omega));have HV:=Aa hst;clear hst hlow hlr;go_wp2_with fail
    refine HP.out.mono ?_;rintro e w2 ⟨rfl,A2,l2,p2,f2,-,-,-,c2⟩;obtain⟨l1,p1,hfv1,t1,q1,b1,hs1⟩:=HL1.out;rw[HKF.out.1] at c2;have y1:w2.cell? ⟨bx,1,none⟩=some (.int .i64 ar):=(c2.cell (a:=⟨bx,1,none⟩) hbz (by rw[t1];omega)).trans x1;have hfrow:=Ag.fr l2;rw[Tn,HKF.out.1,f2,hfv1] at hfrow;have d1:w2.cell? ⟨fb,k * 4+1,none⟩=some (.int .i64 px):=by
     have:=hfrow.cell (i:=k * 4+1) (by omega);rw[<-HKF.out.1,E6,Bg] at this;rw[<-HKF.out.1,<-HKF.out.2.2.1];exact this
    have y2:w2.frozen? ⟨fb,k * 4+1,none⟩=false:=hfrow.frozen _;have hz2:=c2.size;have hbz2:bx<w2.heap.size:=by omega
    have hfz2:fb<w2.heap.size:=by omega
    obtain⟨pl,hpl⟩:∃ pl:Int,pl=(px:Int):=⟨_,rfl⟩
    have hpl0:(0:Int)<=pl/\pl<=64:=by omega
    have epx:wrap64 (pl+1)=pl+1:=by unfold wrap64;omega
    have HG:=Aa (fun (t:Nat) (W:World) (A3:Ad) (l3:Al W B rb A3 {cnt s with fr:={f with pc:=t,stk:=r}::rest}) (p3:A3.pv=A2.pv) (c3:Ch B Be A2.tag A3.tag w2 W) (ht:t=(if Ce v=true then ar.toNat else px+1))=>(show Bo w (W.alloc (.cells #[.int .i64 v.k,.int .i64 v.n] 43)) B rb A R from by
     rw[<-HR.out,Fq HOP.out.1 HV.out,HOP.out.2,HKF.out.2.2.1,<-ht];exact⟨_,l3.box _,(p3.trans p2).trans p1,((q1.trans (c2.mono BY)).trans c3).trans (Ch.of_tags ((Tu _ _).alloc (Te _) _) (fun b hb=>Ao _ _ _ _ (by omega)))⟩))
    have hg1:=l2.goto rfl (by rw[HKF.out.1];exact f2.trans hfv1) (px+1);have hg2:=hg1.1.goto rfl (by rw[HKF.out.1];exact f2.trans hfv1) ar.toNat;rw[HKF.out.1] at hg1 hg2;rw[show ((px+1:Nat):Int)=(px:Int)+1 by omega] at hg1 hg2;rw[show ((ar.toNat:Nat):Int)=ar by omega] at hg2;rw[<-hpl] at hg1 hg2 d1;clear hpl;have f1':∀ d:Nat,d=1->Be d:=fun d hd=>by unfold Be;omega
    have HQ1:=Aa (fun h:Ce v=false=>HG.out (px+1) _ A2 hg1.1 rfl (hg1.2.mono f1') (by rw[h];simp));have HQ2:=Aa (fun h:Ce v=true=>HG.out ar.toNat _ A2 hg2.1 rfl ((hg1.2.mono f1').trans (hg2.2.mono f1')) (by rw[h];simp));clear HG hg1 hg2 l2 p2 f2 c2 hfrow l1 p1 hfv1 t1 q1 b1 hs1 HP x0 x1 c1 zf;by_cases v0:v.k=0
    ·have hv0:(v.k==0)=true:=by simpa using v0
     have hzp:Ce v=true:=by simp[Ce,v0]
     have HQ:=Aa (HQ2.out hzp);clear HQ1 HQ2 hzp v0;go_wp2;go_end0;exact⟨rfl,HQ.out⟩
    ·have hv0:(v.k==0)=false:=by simpa using v0
     by_cases v1:v.k=1
     ·have hv1:(v.k==1)=true:=by simpa using v1
      by_cases v2:v.n=0
      ·have hv2:(v.n==0)=true:=by simpa using v2
       have hzp:Ce v=true:=by simp[Ce,v1,v2]
       have HQ:=Aa (HQ2.out hzp);clear HQ1 HQ2 hzp v0 v1 v2;go_wp2;go_end0;exact⟨rfl,HQ.out⟩
      ·have hv2:(v.n==0)=false:=by simpa using v2
       have hzp:Ce v=false:=by simp[Ce,v1,v2]
       have HQ:=Aa (HQ1.out hzp);clear HQ1 HQ2 hzp v0 v1 v2;go_wp2;go_end0;exact⟨rfl,HQ.out⟩
     ·have hv1:(v.k==1)=false:=by simpa using v1
      have hzp:Ce v=false:=by simp[Ce,v0,v1]
      have HQ:=Aa (HQ1.out hzp);clear HQ1 HQ2 hzp v0 v1;go_wp2;go_end0;exact⟨rfl,HQ.out⟩
   by_cases e13:op=13
   ·subst e13;obtain⟨j0,j1⟩:=Fz HX.out.2.2.2.2.2.2.2.2.1 rfl;have hlow:1+ar<=f.stk.length:=by have:=HX.out.2.2.2.2.2.2.2.1;rw[show At 13 ar=1+ar by simp[At]] at this;exact this
    obtain⟨cn1,hcn1⟩:∃ n:Nat,ar=n:=⟨ar.toNat,by omega⟩
    subst hcn1;obtain⟨g,r,hd⟩:∃ g r,f.stk.drop cn1=g::r:=by
     cases hd:f.stk.drop cn1 with
     |nil=>have:=congrArg List.length hd;simp at this;omega
     |cons g r=>exact⟨g,r,rfl⟩
    have hlen:=congrArg List.length hd;simp only[List.length_drop,Tn] at hlen;have hg0:g∈f.stk:=List.mem_of_mem_drop (by rw[hd];exact Ti);have hst2:f.stk=f.stk.take cn1++g::r:=by rw[<-hd,List.take_append_drop]
    obtain⟨l1,p1,hfv1,t1,q1,b1,hs1⟩:=HL1.out;have hfun:∀ k,k<m->0<=(F k).locals/\(F k).locals<=8/\(F k).args<=(F k).locals:=fun k hk=>by have h:=HX.out.2.2.2.2.2.2.2.2.2.1.fn k hk;exact⟨h.locals.1,h.locals.2,h.args.2.1⟩
    have hcal:=NW wd B rb m A1 (cnt s) F f rest (f.stk.take cn1) r g cn1 l1 (by rw[p1];exact HX.out.2.1.below (q1.below (by rw[HBX.out];exact hB))) hBd hs1 HX.out.2.2.2.2.1 hst2 (by rw[List.length_take];omega) (by omega) (by omega) (HX.out.2.2.2.2.2.1.stk g hg0).2.1 hfun (by have:=HKF.out.1;omega) hm8 (by have:=HKF.out.2.2.1;omega);have HP:=Aa (hcal.mono (R':=fun e w2=>∃ t s2,e=.returned (.int .i64 t)/\Bo wd w2 B rb A1 s2/\({s2 with fin:=t}:Mc)=AJ F cn1 f rest (cnt s)) (fun e w2 h=>by
     unfold AJ;rw[hd];dsimp only;rcases h with⟨k1,rfl,k2⟩|⟨k1,k3,rfl,k2⟩|⟨k1,k3,rfl,k2⟩
     ·exact⟨6,_,rfl,k2,by rw[if_pos k1]⟩
     ·exact⟨7,_,rfl,k2,by rw[if_neg k1,if_pos k3]⟩
     ·refine⟨0,_,rfl,k2,?_⟩;rw[if_neg k1,if_neg k3];have e0:(cnt s).fin=0:=h0;simp only[e0]))
    clear hcal hst2 hd hlen hg0 hlow l1 p1 hfv1 t1 q1 b1 hs1 hfun;go_wp2_with fail
    refine HP.out.mono ?_;rintro e w2 ⟨t,s2,rfl,⟨A2,l2,p2,c2⟩,hfin⟩;have y7:w2.cell? ⟨rb,7,none⟩=some (.int .i64 s2.fin):=Ag.cell l2 7;have z7:w2.frozen? ⟨rb,7,none⟩=false:=Ag.frozen l2 7;obtain⟨l3,c3⟩:=l2.ownset 7 (.int .i64 t) (s':={s2 with fin:=t}) rfl rfl rfl rfl rfl;have HQ:=Aa (show Bo w (w2.setCell ⟨rb,7,none⟩ (.int .i64 t)) B rb A R from by
     obtain⟨l1,p1,hfv1,t1,q1,b1,hs1⟩:=HL1.out;rw[<-HR.out,Fy HOP.out.1,HOP.out.2,Int.toNat_natCast];show Bo w _ B rb A (AJ F cn1 f rest (cnt s));rw[<-hfin];exact⟨A2,l3,p2.trans p1,(q1.trans c2).trans (c3.mono (fun d hd=>by unfold Be;omega))⟩)
    clear l2 p2 c2 l3 c3 hfin HP x0 x1 c1 zf;go_wp2;go_end0;exact⟨rfl,HQ.out⟩
   by_cases e14:op=14
   ·subst e14;have hlow:(1:Int)<=f.stk.length:=by have:=HX.out.2.2.2.2.2.2.2.1;rw[show At 14 ar=1 by simp[At,A6]] at this;exact this
    obtain⟨v,r,hst⟩:∃ v r,f.stk=v::r:=by
     cases hc:f.stk with
     |nil=>rw[hc] at hlow;simp at hlow
     |cons x r=>exact⟨x,r,rfl⟩
    have hlr:r.length+1=f.stk.length:=by rw[hst];rfl
    have hhl:s.high.length=rest.length+1:=by rw[HX.out.2.2.2.2.1,HX.out.2.2.1];rfl
    obtain⟨b0,bs,hbs⟩:∃ b bs,s.high=b::bs:=by
     cases hc:s.high with
     |nil=>rw[hc] at hhl;simp at hhl
     |cons b bs=>exact⟨b,bs,rfl⟩
    have hbl:bs.length=rest.length:=by rw[hbs] at hhl;simpa using hhl
    have HP:=Aa (PX wd B rb A1 (cnt s) f rest v r b0 bs HL1.out.1 HL1.out.2.2.2.2.2.2 hst hbs hbl hBd (by omega) (by have:=HKF.out.1;omega) HX.out.2.2.2.2.2.2.1);clear hst hlow hlr hhl hbs hbl;go_wp2_with fail
    refine HP.out.mono ?_;rintro e w2 ⟨rfl,A2,l2,p2,c2⟩;have HQ:=Aa (show Bo w w2 B rb A R from by
     obtain⟨l1,p1,hfv1,t1,q1,b1,hs1⟩:=HL1.out;rw[<-HR.out,Fu HOP.out.1];exact⟨A2,l2,p2.trans p1,q1.trans c2⟩)
    clear l2 p2 c2 HP x0 x1 c1 zf;go_wp2;go_end0;exact⟨rfl,HQ.out⟩
   ·have hleg:=HX.out.2.2.2.2.2.2.2.2.1;have hlow:=HX.out.2.2.2.2.2.2.2.1;have hw:=E9 (f:=f) (out:=s.out) hleg e10 e11 e13 e14 hlow HX.out.2.2.2.2.2.1.loc HX.out.2.2.2.2.2.1.stk HX.out.2.2.2.2.2.2.2.2.2.2.1 HX.out.2.2.2.2.2.2.2.2.2.2.2.1;have hloc:=HX.out.2.2.2.2.2.1.locs;rw[HKF.out.2.1] at hloc;have hff:=HX.out.2.2.2.2.2.2.2.2.2.1.fn fx hfnm;have hsim:=PG wd B rb A1 (cnt s) f rest op ar m _ _ hleg e10 e11 e13 e14 hlow HX.out.2.2.2.2.2.1.stk hloc hff.locals.2 (by omega) (by have:=HKF.out.1;omega) HL1.out.1 HL1.out.2.2.2.2.2.2 hBd ho (by show s.arr.length<=_;omega) HX.out.2.2.2.2.2.2.2.2.2.2.2.1 HX.out.2.2.2.2.2.2.2.2.2.2.2.2;have hqx:=FA (s:=s) (rest:=rest) (f:=f) (F:=F) (by rw[HOP.out.1];exact e10) (by rw[HOP.out.1];exact e11) (by rw[HOP.out.1];exact e13) (by rw[HOP.out.1];exact e14);rw[HOP.out.1,HOP.out.2,HR.out] at hqx;change Calls _ _ _ _ (Ic wd B rb A1 (cnt s) rest (Ak op ar f s.arr s.out)) at hsim;have hwp:=hw.pc;generalize Ak op ar f s.arr s.out=x at *;have HP:=Aa hsim;have HQX:=Aa hqx;have HWP:=Aa hwp;have o10:(op==10)=false:=by simpa using e10
    have o11:(op==11)=false:=by simpa using e11
    have o13:(op==13)=false:=by simpa using e13
    have o14:(op==14)=false:=by simpa using e14
    clear hsim hqx hw hleg hlow hloc hff e10 e11 e13 e14 hwp;go_wp2_with fail
    refine HP.out.mono ?_;rintro e w2 ⟨rfl,A2,l2,p2,f2,c2⟩;have y7:w2.cell? ⟨rb,7,none⟩=some (.int .i64 s.fin):=Ag.cell l2 7;have z7:w2.frozen? ⟨rb,7,none⟩=false:=Ag.frozen l2 7;obtain⟨l1,p1,hfv1,t1,q1,b1,hs1⟩:=HL1.out;have hfrow:=Ag.fr l2;rw[Tn,HKF.out.1,f2,hfv1] at hfrow;have d1:w2.cell? ⟨fb,k * 4+1,none⟩=some (.int .i64 px):=by
     have:=hfrow.cell (i:=k * 4+1) (by omega);rw[<-HKF.out.1,E6,Bg,HWP.out] at this;rw[<-HKF.out.1,<-HKF.out.2.2.1];exact this
    have y2:w2.frozen? ⟨fb,k * 4+1,none⟩=false:=hfrow.frozen _;have hfz2:fb<w2.heap.size:=Tr w2 _ d1;have hrz2:rb<w2.heap.size:=Ag.lt l2;have hnrf:¬rb=fb:=by
     intro e;obtain⟨b',c',e',_,_,ht',_⟩:=hfrow.form (by omega);injection e' with e' _ _;injection e' with e';injection e' with e' _ _;have h0':=(Ag.own l2).2;rw[e,e',ht'] at h0';omega
    obtain⟨l3,c3⟩:=l2.ownset 7 (.int .i64 x.2.2.2) (s':={cnt s with fr:=x.1::rest,arr:=x.2.1,out:=x.2.2.1,fin:=x.2.2.2}) rfl rfl rfl rfl rfl;obtain⟨l4,c4⟩:=l3.goto rfl (by rw[HKF.out.1];exact f2.trans hfv1) (px+1);obtain⟨pl,hpl⟩:∃ pl:Int,pl=(px:Int):=⟨_,rfl⟩
    have hpl0:(0:Int)<=pl/\pl<=64:=by omega
    rw[HKF.out.1,show ((px+1:Nat):Int)=pl+1 by omega] at l4 c4;rw[<-hpl] at d1;clear hpl;have epx:wrap64 (pl+1)=pl+1:=by unfold wrap64;omega
    have f0':∀ d:Nat,d=0->Be d:=fun d hd=>by unfold Be;omega
    have f1':∀ d:Nat,d=1->Be d:=fun d hd=>by unfold Be;omega
    have HQ1:=Aa (fun h:x.2.2.2=0=>(show Bo w ((w2.setCell ⟨rb,7,none⟩ (.int .i64 x.2.2.2)).setCell ⟨fb,k * 4+1,none⟩ (.int .i64 (pl+1))) B rb A R from by
     rw[HQX.out,if_pos h,HKF.out.2.2.1];exact⟨A2,l4,p2.trans p1,((q1.trans c2).trans (c3.mono f0')).trans (c4.mono f1')⟩))
    have HQ2:=Aa (fun h:¬x.2.2.2=0=>(show Bo w (w2.setCell ⟨rb,7,none⟩ (.int .i64 x.2.2.2)) B rb A R from by
     rw[HQX.out,if_neg h];exact⟨A2,l3,p2.trans p1,(q1.trans c2).trans (c3.mono f0')⟩))
    clear l2 p2 f2 c2 HP x0 x1 c1 zf l1 p1 hfv1 t1 q1 b1 hs1 hfrow l3 c3 l4 c4;generalize x.2.2.2=t at *;by_cases ht:t=0
    ·have HQ:=Aa (HQ1.out ht);clear HQ1 HQ2;subst ht;go_wp2;go_end0;exact⟨rfl,HQ.out⟩
    ·have HQ:=Aa (HQ2.out ht);have hb0:(t==0)=false:=by simpa using ht
     clear HQ1 HQ2 ht;go_wp2;go_end0;exact⟨rfl,HQ.out⟩
end
theorem Al.up{w:World}{B rb:Nat}{A:Ad}{s:Mc}(h:Al w B rb A s){hb hcap k:Nat}(hhv:A.hv=.slice (some ⟨hb,0,none⟩) (k+1) hcap)(hl:s.high.length=k+1) :
  Al ((w.setCell ⟨hb,k,none⟩ (.bool true)).setCell ⟨rb,18,none⟩ (.int .i64 ((s.cU:Int)+1))) B rb A {s with high:=true::s.high.drop 1,cU:=s.cU+1}/\Ch B Be A.tag A.tag w ((w.setCell ⟨hb,k,none⟩ (.bool true)).setCell ⟨rb,18,none⟩ (.int .i64 ((s.cU:Int)+1))):=by
 obtain⟨b0,r0,hc⟩:∃ b0 r0,s.high=b0::r0:=by
  cases hc:s.high with
  |nil=>rw[hc] at hl;simp at hl
  |cons b r=>exact⟨b,r,rfl⟩
 have hr:r0.length=k:=by rw[hc] at hl;simpa using hl
 obtain⟨l2,c2⟩:=h.hiset (hcap:=hcap) (by rw[hl];exact hhv) k (by omega) true (true::s.high.drop 1) (by rw[hc];simp) (fun j hj=>by
  rw[hc];simp only[List.drop_succ_cons,List.drop_zero];by_cases e:j=k
  ·subst e;rw[if_pos rfl,Ff _ _ hr.symm]
  ·rw[if_neg e,EF _ _ _ (by omega),EF _ _ _ (by omega)])
 have e18:Value.int .i64 ((s.cU:Int)+1)=.int .i64 ((s.cU+1:Nat):Int):=by congr 1
 obtain⟨l3,c3⟩:=l2.ownset 18 (.int .i64 ((s.cU:Int)+1)) (s':={s with high:=true::s.high.drop 1,cU:=s.cU+1}) (by rw[e18];rfl) rfl rfl rfl rfl;exact⟨l3,(c2.mono (fun d hd=>by unfold Be;omega)).trans (c3.mono (fun d hd=>by unfold Be;omega))⟩
theorem M4(w:World)(B rb m:Nat)(A:Ad)(s:Mc)(F:Nat->PF)(f:Fr)(rest:List Fr)(st n:Int)(hL:Al w B rb A s)(hpg:Pg w B A.pv m F)(hs:s.fr=f::rest)(hh:s.high.length=s.fr.length)(hr:rest.length<=60)(hfn:f.fn<m)(hm:m<=8)(hpc:f.pc<(F f.fn).cn)(hcn:(F f.fn).cn<=64)(hU:s.cU<=900000) :
  Calls prog 81 #[.pointer (some ⟨rb,0,none⟩),.agg #[.int .i64 st,.int .i64 3,.int .i64 n]] w fun e w'=>e=.returned (.tuple #[])/\Bo w w' B rb A (Bu F 3 n s):=by
 obtain⟨fb,fcap,hb,hcap,lp,sp,ln,lc,sn,sc,hR,hfv,hhv,_,_⟩:=IW hL hs hh;obtain⟨r1,r8,c0,c1,c2,c3,⟨k1,k2,k3⟩,n1,n2,n3⟩:=hR;have hcm:Bu F 3 n s=if s.high.headD false=false/\s.made f.fn=true/\CB (F f.fn) f.pc=true then {s with high:=true::s.high.drop 1,cU:=s.cU+1} else s:=by
  unfold Bu;rw[if_neg (by decide),if_pos rfl,hs]
 generalize Bu F 3 n s=s' at *;have HC:=Aa hcm;clear hcm;obtain⟨pb,po,pc,CA,CC,hpv,hPA,hpb,hcbB⟩:=hpg.at_;have hfun:=hPA.fn f.fn hfn;obtain⟨cb,co,eca,hcb,hcode⟩:=hfun.code (by omega);have hsl:=hfun.slice;rw[eca] at hsl;have x0:w.cell? ⟨rb,0,none⟩=some (.slice (some ⟨pb,po,none⟩) m pc):=by rw[Ag.cell hL 0,hpv];rfl
 have hpz:pb<w.heap.size:=by omega
 have hlen:s.high.length=rest.length+1:=by rw[hh,hs];rfl
 have HB:=Aa (FL.of hL f st 3 n (.slice lp ln lc) (.slice sp sn sc));have HX:=Aa (Tc hL (Tc hs (Tc hlen hhv)));have HCD:=Aa hcode;have HF:=Aa (Tc hcn hpc);clear hL hs hh hfv hhv hpg hpv hPA hfun hcode eca hcn hpc hlen hcbB hpb;generalize hk:rest.length=k at *;have HK:=Aa hk;generalize hfx:f.fn=fx at *;generalize hpx:f.pc=px at *;generalize hpf:F fx=pf at *;have HFX:=Aa (Tc hfx (Tc hpx hpf));clear hk hfx hpx hpf;go_enter func81,ntmps81
 go_wp2_with fail
 generalize (w.alloc (.cells #[.int .i64 st,.int .i64 3,.int .i64 n] 65)).alloc (.cells #[.int .i64 fx,.int .i64 px,.slice lp ln lc,.slice sp sn sc] 73)=W at *;obtain⟨⟨A1,l1,p1,_,hv1,t5,t6,q1⟩,hev,⟨xx,yy,hfb⟩,hbl⟩:=HB.out;have y0:W.cell? ⟨w.heap.size+1,0,none⟩=some (.int .i64 fx):=by rw[Ab hfb,<-HFX.out.1];rfl
 have y1:W.cell? ⟨w.heap.size+1,1,none⟩=some (.int .i64 px):=by rw[Ab hfb,<-HFX.out.2.1];rfl
 have hrz:rb<W.heap.size:=Ag.lt l1;have hfz:w.heap.size+1<W.heap.size:=Ah hfb;have hWz:=hbl.size;have v0:=(hbl.cell (p:=⟨rb,0,none⟩) k1).trans x0;have v8:=(hbl.cell (p:=⟨rb,8,none⟩) k1).trans r8;have vs:=(hbl.cell (p:=⟨pb,po+fx * 3+2,none⟩) hpz).trans hsl;have ym:W.cell? ⟨rb,9+fx,none⟩=some (.bool (s.made fx)):=by rw[Ag.cell l1 (9+fx)];exact JU _ _ _ _ _ _ fx (by omega)
 have hhv1:A1.hv=.slice (some ⟨hb,0,none⟩) (k+1) hcap:=hv1.trans HX.out.2.2.2;have hhl:s.high.length=k+1:=HX.out.2.2.1;have hhi:=Ag.hi l1;rw[hhl,hhv1] at hhi;have h8:=hhi.cell (i:=k) (by omega);have z8:=hhi.frozen k;have ehd:s.high.reverse.getD k false=s.high.headD false:=by
  cases hcs:s.high with
  |nil=>rw[hcs] at hhl;simp at hhl
  |cons b bs =>
   rw[hcs] at hhl;have:bs.length=k:=by simpa using hhl
   rw[List.reverse_cons,Tj,List.getElem?_append_right (by simp[this])];simp[this]
 rw[ehd] at h8;have y18:W.cell? ⟨rb,18,none⟩=some (.int .i64 s.cU):=Ag.cell l1 18;have z18:W.frozen? ⟨rb,18,none⟩=false:=Ag.frozen l1 18;have e18:wrap64 ((s.cU:Int)+1)=(s.cU:Int)+1:=by unfold wrap64;omega
 have HQ0:=Aa (fun (X:World) (hX:Below W.heap.size W X)=>(show Bo w X B rb A s from ⟨A1,l1.below hX,p1,q1.trans (Ch.of_below hX)⟩));have HQ1:=Aa (fun (X:World) (hX:Below W.heap.size W X)=>(show Bo w ((X.setCell ⟨hb,k,none⟩ (.bool true)).setCell ⟨rb,18,none⟩ (.int .i64 ((s.cU:Int)+1))) B rb A {s with high:=true::s.high.drop 1,cU:=s.cU+1} from by
  obtain⟨l2,c2⟩:=(l1.below hX).up hhv1 hhl;exact⟨A1,l2,p1,(q1.trans (Ch.of_below hX)).trans c2⟩))
 have hcodeW:∀ X,Below W.heap.size W X->BB X cb co pf.cn pf.op pf.ar:=fun X hX i hi=>by
  obtain⟨a0,a1⟩:=HCD.out i hi;have hb2:Below w.heap.size w X:=hbl.trans (hX.mono hWz);exact⟨(hb2.cell (p:=⟨cb,co+i * 2,none⟩) hcb).trans a0,(hb2.cell (p:=⟨cb,co+i * 2+1,none⟩) hcb).trans a1⟩
 have HHD:=Aa (fun X hX=>LC X cb co (CC fx) pf px (hcodeW X hX) HF.out.2 HF.out.1);generalize hhd:CB pf px=hd at *;generalize hmd:s.made fx=md at *;generalize hhg:s.high.headD false=hg at *;have hhz:hb<W.heap.size:=Tr W _ h8;have hpzW:pb<W.heap.size:=by omega
 have HS:=Aa (fun (w':World) (hb':Below W.heap.size W w')=>(show w'.cell? ⟨rb,0,none⟩=some (.slice (some ⟨pb,po,none⟩) m pc)/\w'.cell? ⟨rb,8,none⟩=some (.slice (some ⟨hb,0,none⟩) (k+1) hcap)/\w'.cell? ⟨w.heap.size+1,0,none⟩=some (.int .i64 fx)/\w'.cell? ⟨w.heap.size+1,1,none⟩=some (.int .i64 px)/\w'.cell? ⟨pb,po+fx * 3+2,none⟩=some (.slice (some ⟨cb,co,none⟩) pf.cn (CC fx))/\w'.cell? ⟨rb,9+fx,none⟩=some (.bool md)/\w'.cell? ⟨hb,k,none⟩=some (.bool hg) from ⟨(hb'.cell (p:=⟨rb,0,none⟩) hrz).trans v0,(hb'.cell (p:=⟨rb,8,none⟩) hrz).trans v8,(hb'.cell (p:=⟨w.heap.size+1,0,none⟩) hfz).trans y0,(hb'.cell (p:=⟨w.heap.size+1,1,none⟩) hfz).trans y1,(hb'.cell (p:=⟨pb,po+fx * 3+2,none⟩) hpzW).trans vs,(hb'.cell (p:=⟨rb,9+fx,none⟩) hrz).trans ym,(hb'.cell (p:=⟨hb,k,none⟩) hhz).trans h8⟩));have HCC:=HC;have i0:(0:Int)<=(fx:Int):=by omega
 have i1:(fx:Int)<(m:Int):=by omega
 have i2:(fx:Int)<8:=by omega
 have i3:(0:Int)<=(k:Int):=by omega
 have i4:(k:Int)<(k:Int)+1:=by omega
 have hnrh:¬rb=hb:=n2;clear c0 c1 c2 c3 r1 r8 n1 n2 n3 hfb hev l1 p1 hv1 t5 t6 q1 v0 v8 vs ym hhv1 hhl hhi ehd y0 y1 hcodeW HCD HC x0 hsl HB hhd hmd hhg hbl h8 hfn hm hr HX HF;generalize s.cU=cu at *;generalize pf.cn=pn at *;refine AG (Below W.heap.size W) [(false,0),(false,1),(false,2),(false,3),(false,4),(false,5),(false,6),(false,7),(false,8),(false,9),(false,10),(true,11),(false,12)] (by kernel_rfl) (by kernel_rfl) (fun c0 a0 d0 v0 x0 h0=>A8 (P:=prog) f81 (fun e w'=>e=.returned (.tuple #[])/\Bo w w' B rb A s') c0 a0 d0 v0 x0 h0) (Tu _ _).drew ?_;simp only[lexL,Tl,Tm];iterate 11 (refine Aw (by rfl) (by intro w' hS';obtain⟨q0,q1,q2,q3,q4,q5,q6⟩:=HS.out w' hS';clear hS';go_simp;exact rfl) ?_;simp only[Act.put,Td,Th,Tg])
 refine Az (fun K hK=>?_);go_simp;refine(HHD.out W.drew (Tu _ _).drew).mono ?_;rintro e w' ⟨rfl,rfl⟩;refine hK.out _ _ (Tu _ _).drew ?_;clear hK K;refine Aw (by rfl) (by intro w' hS';go_simp;exact rfl) ?_;simp only[Act.put,Td,Th,Tg];refine AF ?_;clear HHD;go_wp2_with fail
 cases hg<;>cases md<;>cases hd
 case' false.true.true=>have HR:=Aa (show Bo w ((W.drew.drew.setCell ⟨hb,k,none⟩ (.bool true)).setCell ⟨rb,18,none⟩ (.int .i64 ((cu:Int)+1))) B rb A s' from by rw[HCC.out,if_pos ⟨rfl,rfl,rfl⟩];exact HQ1.out _ (Tu _ _).drew.drew)
 case' false.false.false=>have HR:=Aa (show Bo w W.drew.drew B rb A s' from by rw[HCC.out,if_neg (by simp)];exact HQ0.out _ (Tu _ _).drew.drew)
 case' false.false.true=>have HR:=Aa (show Bo w W.drew.drew B rb A s' from by rw[HCC.out,if_neg (by simp)];exact HQ0.out _ (Tu _ _).drew.drew)
 case' false.true.false=>have HR:=Aa (show Bo w W.drew.drew B rb A s' from by rw[HCC.out,if_neg (by simp)];exact HQ0.out _ (Tu _ _).drew.drew)
 case' true.false.false=>have HR:=Aa (show Bo w W.drew.drew B rb A s' from by rw[HCC.out,if_neg (by simp)];exact HQ0.out _ (Tu _ _).drew.drew)
 case' true.false.true=>have HR:=Aa (show Bo w W.drew.drew B rb A s' from by rw[HCC.out,if_neg (by simp)];exact HQ0.out _ (Tu _ _).drew.drew)
 case' true.true.false=>have HR:=Aa (show Bo w W.drew.drew B rb A s' from by rw[HCC.out,if_neg (by simp)];exact HQ0.out _ (Tu _ _).drew.drew)
 case' true.true.true=>have HR:=Aa (show Bo w W.drew.drew B rb A s' from by rw[HCC.out,if_neg (by simp)];exact HQ0.out _ (Tu _ _).drew.drew)
 all_goals
  refine AG (Below W.heap.size W) TE (by kernel_rfl) (by kernel_rfl) (fun c0 a0 d0 v0 x0 h0=>A8 (P:=prog) f81 (fun e w'=>e=.returned (.tuple #[])/\Bo w w' B rb A s') c0 a0 d0 v0 x0 h0) (Tu _ _).drew.drew ?_;simp only[TE,lexL,Tl,Tm];iterate 20 (first|(refine Cj (by rfl) ?_;simp only[Act.put,Td,Th,Tg])|(refine Aw (by rfl) (by intro w' hS';obtain⟨q0,q1,q2,q3,q4,q5,q6⟩:=HS.out w' hS';clear hS';go_simp;exact rfl) ?_;simp only[Act.put,Td,Th,Tg]))
  refine AF ?_;clear HCC HQ0 HQ1;obtain⟨-,q1,-,-,-,-,q6⟩:=HS.out W (Tu _ _);clear HS;go_wp2;go_end0;exact⟨rfl,HR.out⟩
end Go.Proofs.YtkafkipjedpohaaGreatDoor

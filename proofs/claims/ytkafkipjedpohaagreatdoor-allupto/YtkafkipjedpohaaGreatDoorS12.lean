import Derived.Test.YtkafkipjedpohaaGreatDoorS9
namespace Go.Proofs.YtkafkipjedpohaaGreatDoor
set_option maxRecDepth 100000
set_option maxHeartbeats 16000000
open Go.RowKit _root_.Go.Proofs.Tryz
theorem Tryz.infoFrameR:(prog.info? 73).map (fun i=>(i.zero,i.size,i.bytes))=some (some (.agg #[.int .i64 0,.int .i64 0,.slice none 0 0,.slice none 0 0]),4,64):=by kernel_rfl
theorem Su(X W2:World)(L:Nat)(hL:L<=8)(l:List V)(hl:l.length=L)(t c:Nat)(cur:Array Value)(hz:X.heap.size<=t)(h:W2.heap[t]?=some (.cells cur 43 (0,0)))(hs:cur.size=L * 2)(hc:∀ i,i<L * 2->cur[i]?=some (Ar l i)) :
  Ae W2 X.heap.size (fun _=>c) c 43 2 (.slice (some ⟨t,0,none⟩) L L) l.length (Ar l):=by
 rw[hl];exact Or.inr ⟨t,L,cur,rfl,hz,rfl,h,Te _,by unfold maxLen;omega,hs,hc⟩
def Hm(w:World)(B rb:Nat)(A:Ad)(s:Mc)(F:Nat->PF)(f:Fr)(rest:List Fr)(xs r:List V)(g:V)(cnt:Nat)(e:Ending)(w':World):Prop :=
   ((g.k≠3\/(F g.n.toNat).args≠cnt)/\e=.returned (.int .i64 6)/\Bo w w' B rb A {s with fr:={f with stk:=r}::rest}) \/
   (¬(g.k≠3\/(F g.n.toNat).args≠cnt)/\24<=rest.length+1/\e=.returned (.int .i64 7)/\Bo w w' B rb A {s with fr:={f with stk:=r}::rest}) \/
   (¬(g.k≠3\/(F g.n.toNat).args≠cnt)/\¬24<=rest.length+1/\e=.returned (.int .i64 0)/\Bo w w' B rb A {s with fr:=⟨g.n.toNat,0,xs.reverse++List.replicate ((F g.n.toNat).locals.toNat-cnt) As,[]⟩::{f with pc:=f.pc+1,stk:=r}::rest,high:=s.made g.n.toNat::s.high})
theorem NW(w:World)(B rb m:Nat)(A:Ad)(s:Mc)(F:Nat->PF)(f:Fr)(rest:List Fr)(xs r:List V)(g:V)(cnt:Nat)(hL:Al w B rb A s)(hpg:Pg w B A.pv m F)(hB:B<=w.heap.size)(hs:s.fr=f::rest)(hhi:s.high.length=s.fr.length)(hst:f.stk=xs++g::r)(hxs:xs.length=cnt)(hcnt:cnt<=8)(hr:r.length<=20)(hg:g.k=3->0<=g.n/\g.n<m)(hfun:∀ k,k<m->0<=(F k).locals/\(F k).locals<=8/\(F k).args<=(F k).locals)(hfr:rest.length<=30)(hm:m<=8)(hpc:f.pc<=64) :
  Calls prog 99 #[.pointer (some ⟨rb,0,none⟩),.int .i64 cnt] w fun e w'=>Hm w B rb A s F f rest xs r g cnt e w':=by
 have hmk:=fun wx=>Fs (cnt:Int) (by omega) (by omega) wx
 simp only[Int.toNat_natCast] at hmk;have HS:=Aa (Tc hst hxs);have HG:=Aa (Tc hg (Tc hfun hm));have HL:=Aa (Tc hL (Tc hpg hhi));have hstl:f.stk.length<=64:=by rw[hst];simp;omega
 clear hst hxs hg hfun hm hL hpg hhi;go_enter func99,ntmps99
 go_wp2;go_loopw [6] (fun v wr=>∃ j:Nat,j<=cnt/\v=.int .i64 j/\∃ A1:Ad,Al wr B rb A1 {s with fr:={f with stk:=f.stk.drop j}::rest}/\A1.pv=A.pv/\A1.tag w.heap.size=5/\Ch B Be A.tag A1.tag w wr/\Ef wr w.heap.size cnt j xs) (fun v _=>cnt-(intOf v).toNat)
 case atStart =>
  have hb:=HL.out.1.box (.cells (Bm cnt) 43);refine⟨0,by omega,rfl,{A with tag:=Ac A.tag w.heap.size 5},?_,rfl,Au _ _ _,Ch.of_tags ((Tu _ _).alloc (Te _) _) (fun b hb=>Ao _ _ _ _ (by omega)),Bm cnt,Tv _ _,by simp[Bm,size_madeCells],fun i hi=>by omega⟩;have e:({s with fr:={f with stk:=f.stk.drop 0}::rest}:Mc)=s:=by rw[List.drop_zero];cases s;simp at hs;simp[hs]
  rw[e];exact hb
 case round =>
  obtain⟨j,hj,rfl,A1,l1,p1,t1,c1,d1⟩:=hrel;have hBr:B<=wr.heap.size:=by have:=c1.size;omega
  by_cases hlt:j<cnt
  ·have hdec:decide ((j:Int)<(cnt:Int))=true:=by simp;omega
   have hdrop:=K0 HS.out.1 (j:=j) (by rw[HS.out.2];exact hlt);have hpop:=C4 wr B rb A1 _ _ rest _ _ l1 rfl hdrop hBr (by simp;omega) (by omega);have HP:=Aa hpop;have HX:=Aa (Tc p1 (Tc t1 (Tc c1 d1)));clear hpop l1 p1 t1 c1 d1 hdrop hmk;go_wp2_with fail
   refine HP.out.mono ?_;rintro e w2 ⟨rfl,A2,l2,p2,-,-,-,-,c2⟩;obtain⟨p1,t1,c1,d1⟩:=HX.out;have d2:=d1.keep c2 (by rw[t1];omega);have hab:w.heap.size<wr.heap.size:=Ah d1.choose_spec.1;have t2:A2.tag w.heap.size=5:=(c2.tags _ hab).trans t1;have d3:=d2.set hlt;obtain⟨cur,hc1,hc2,_⟩:=d2;obtain⟨p,hp⟩:∃ p:Nat,p=cnt-1-j:=⟨_,rfl⟩
   rw[<-hp] at d3;have hp2:p<cnt:=by omega
   obtain⟨u0,hu0⟩:∃ u,cur[p * 2]?=some u:=⟨_,Array.getElem?_eq_getElem (by omega)⟩
   obtain⟨u1,hu1⟩:∃ u,cur[p * 2+1]?=some u:=⟨_,Array.getElem?_eq_getElem (by omega)⟩
   have x0:w2.cell? ⟨w.heap.size,p * 2,none⟩=some u0:=(Ab hc1).trans hu0;have x1:w2.cell? ⟨w.heap.size,p * 2+1,none⟩=some u1:=(Ab hc1).trans hu1;have z0:w2.frozen? ⟨w.heap.size,p * 2,none⟩=false:=Ax hc1;have z1:w2.frozen? ⟨w.heap.size,p * 2+1,none⟩=false:=Ax hc1;have hch5:Ch B (fun d=>d=5) A2.tag A2.tag w2 ((w2.setCell ⟨w.heap.size,p * 2,none⟩ (.int .i64 (xs.getD j As).k)).setCell ⟨w.heap.size,p * 2+1,none⟩ (.int .i64 (xs.getD j As).n)):=(Ch.set w2 _ _ _ (by omega) t2).trans (Ch.set _ _ _ _ (by omega) t2);have hchw:Ch B Be A.tag A2.tag w ((w2.setCell ⟨w.heap.size,p * 2,none⟩ (.int .i64 (xs.getD j As).k)).setCell ⟨w.heap.size,p * 2+1,none⟩ (.int .i64 (xs.getD j As).n)):=((c1.trans (c2.mono BY)).setNew (Te _) _).setNew (Te _) _;have HN:=Aa (Tc (l2.keep5 hch5) (Tc (p2.trans p1) (Tc t2 (Tc hchw d3))));have e1:wrap64 ((cnt:Int)-1)=(cnt:Int)-1:=by unfold wrap64;omega
   have e2:wrap64 ((cnt:Int)-1-(j:Int))=(p:Int):=by unfold wrap64;omega
   have e3:(cnt:Int)-1-(j:Int)=(p:Int):=by omega
   have i0:(0:Int)<=(p:Int):=by omega
   have i1:(p:Int)<(cnt:Int):=by omega
   clear hch5 hchw d3 l2 p2 c2 p1 t1 c1 d1 hc1 hc2 t2 HP HX hu0 hu1 hp;generalize xs.getD j As=x at *;go_wp2;exact⟨⟨j+1,by omega,by go_num,A2,HN.out⟩,by simp[intOf];omega⟩
  ·have hdec:decide ((j:Int)<(cnt:Int))=false:=by simp;omega
   obtain rfl:j=cnt:=by omega
   have hdrop:f.stk.drop j=g::r:=by rw[HS.out.1,List.drop_append_of_le_length (by rw[HS.out.2];exact Te _),List.drop_of_length_le (by rw[HS.out.2];exact Te _)];rfl
   have hpop:=C4 wr B rb A1 _ _ rest _ _ l1 rfl hdrop hBr (by omega) (by omega);have HP:=Aa hpop;have HX:=Aa (Tc p1 (Tc t1 (Tc c1 d1)));clear hpop l1 p1 t1 c1 d1 hdrop hmk;go_wp2_with fail
   refine HP.out.mono ?_;rintro e w2 ⟨rfl,A2,l2,p2,-,-,-,-,c2⟩;obtain⟨p1,t1,c1,d1⟩:=HX.out;have hab:w.heap.size<wr.heap.size:=Ah d1.choose_spec.1;have d2:=d1.keep c2 (by rw[t1];omega);have t2:A2.tag w.heap.size=5:=(c2.tags _ hab).trans t1;have hc3:Ch B (fun _=>False) A2.tag (Ac A2.tag w2.heap.size 5) w2 (w2.alloc (.cells #[.int .i64 g.k,.int .i64 g.n] 43)):=Ch.of_tags ((Tu _ _).alloc (Te _) _) (fun b hb=>Ao _ _ _ _ (by omega));have l3:=l2.box (.cells #[.int .i64 g.k,.int .i64 g.n] 43);have hz2:=c2.size;have d3:=d2.keep hc3 (fun h=>h);have c4:Ch B Be A.tag (Ac A2.tag w2.heap.size 5) w (w2.alloc (.cells #[.int .i64 g.k,.int .i64 g.n] 43)):=(c1.trans (c2.mono BY)).trans (hc3.mono (fun _ h=>h.elim));have b0:(w2.alloc (.cells #[.int .i64 g.k,.int .i64 g.n] 43)).cell? ⟨w2.heap.size,0,none⟩=some (.int .i64 g.k):=BP w2 _ _ _ _ rfl;have b1:(w2.alloc (.cells #[.int .i64 g.k,.int .i64 g.n] 43)).cell? ⟨w2.heap.size,1,none⟩=some (.int .i64 g.n):=BP w2 _ _ _ _ rfl;obtain⟨A3,hA3⟩:∃ A3:Ad,A3={A2 with tag:=Ac A2.tag w2.heap.size 5}:=⟨_,rfl⟩
   rw[<-hA3] at l3;have ht3:A3.tag=Ac A2.tag w2.heap.size 5:=by rw[hA3]
   have p3:A3.pv=A.pv:=by rw[hA3];exact p2.trans p1
   rw[<-ht3] at c4;have hbx:A3.tag w2.heap.size=5:=by rw[ht3,Au]
   have HY:=Aa (Tc b0 b1);have HMT:=Aa (show A3.tag w.heap.size=5 from by rw[ht3,Ao _ _ _ _ (by omega)];exact t2);have HM:=Aa (Tc l3 (Tc p3 (Tc hbx (Tc d3 c4))));have hz3:w2.heap.size<(w2.alloc (.cells #[.int .i64 g.k,.int .i64 g.n] 43)).heap.size:=by simp
   clear l3 p3 c2 p1 t1 c1 d1 d2 d3 b0 b1 l2 p2 t2 HP HX c4 hdec hj hlt hc3 hbx ht3 hA3 hz2;go_wp2_with fail
   obtain⟨b0,b1⟩:=HY.out;clear HY;generalize w2.alloc (.cells #[.int .i64 g.k,.int .i64 g.n] 43)=W at *;generalize w2.heap.size=bx at *;have HT6:=Aa (fun (X:World) (hX:Below W.heap.size W X)=>(show Bo w X B rb A {s with fr:={f with stk:=r}::rest} from by
    obtain⟨q1,q2,_,_,q5⟩:=HM.out;exact⟨A3,q1.below hX,q2,q5.trans' hX⟩))
   by_cases h3:g.k=3
   ·have hk:(g.k != 3)=false:=by simpa using h3
    obtain⟨gn0,gn1⟩:=HG.out.1 h3;have hm8:=HG.out.2.2;obtain⟨gn,hgn⟩:∃ gn:Nat,g.n=gn:=⟨g.n.toNat,by omega⟩
    have hgt:g.n.toNat=gn:=by omega
    have hpgW:Pg W B A3.pv m F:=by
     obtain⟨_,q2,_,_,q5⟩:=HM.out;rw[q2];exact HL.out.2.1.below (q5.below hB)
    obtain⟨pb,po,pc,CA,CC,hpv,hPA,hpb,_⟩:=hpgW.at_;have a0:=(hPA.fn gn (by omega)).args;have a1:=(hPA.fn gn (by omega)).locals;have r0:W.cell? ⟨rb,0,none⟩=some (.slice (some ⟨pb,po,none⟩) m pc):=by rw[Ag.cell HM.out.1 0,hpv];rfl
    have i0:(0:Int)<=(gn:Int):=by omega
    have i1:(gn:Int)<(m:Int):=by omega
    rw[hgn] at b1;have HG3:=Aa (Tc h3 (Tc hgn hgt));have hgm:gn<m:=by omega
    clear h3 hgn hgt gn0 gn1 hPA hpv hpgW;by_cases ha:(F gn).args=(j:Int)
    ·have hka:((F gn).args != (j:Int))=false:=by simpa using ha
     have HA:=Aa ha;clear ha;have hno:Hid (¬(g.k≠3\/(F g.n.toNat).args≠(j:Int))):=by unfold Hid;rw[HG3.out.2.2];have:=HG3.out.1;have:=HA.out;omega
     have hpbz:pb<W.heap.size:=by have:=Ah (Ag.run HM.out.1);have:=(Ag.own HM.out.1).1;omega
     have hbxz:bx<W.heap.size:=hz3;go_quiet (fail)
     have hV:Below W.heap.size W (W.drewN nq):=below_drewN (Tu _ _) _;have b1V:(W.drewN nq).cell? ⟨bx,1,none⟩=some (.int .i64 gn):=b1;have a1V:(W.drewN nq).cell? ⟨pb,po+gn * 3+1,none⟩=some (.int .i64 (F gn).locals):=a1;have r0V:(W.drewN nq).cell? ⟨rb,0,none⟩=some (.slice (some ⟨pb,po,none⟩) m pc):=r0;have hzV:(W.drewN nq).heap.size=W.heap.size:=by simp
     have HMV:=Aa (show Al (W.drewN nq) B rb A3 {s with fr:={f with stk:=r}::rest}/\A3.pv=A.pv/\A3.tag bx=5/\Ef (W.drewN nq) w.heap.size j j xs/\Ch B Be A.tag A3.tag w (W.drewN nq) from by
      obtain⟨q1,q2,q3,q4,q5⟩:=HM.out;exact⟨q1.below hV,q2,q3,q4.keep (Ch.of_below (B:=B) (p:=fun _=>False) (tag:=A3.tag) hV) (fun h=>h),q5.trans' hV⟩)
     have HG6:=Aa (HT6.out (W.drewN nq) hV);have hbxV:bx<(W.drewN nq).heap.size:=by omega
     have hpbV:pb<(W.drewN nq).heap.size:=by omega
     clear hV HM b0 b1 a0 a1 r0 HT6 hzV hpbz hbxz hz3;generalize W.drewN nq=V at *;have hfrow:=Ag.fr HMV.out.1;have hfrl:({s with fr:={f with stk:=r}::rest}:Mc).fr.length=rest.length+1:=rfl;rw[hfrl] at hfrow;obtain⟨fb,fcap,hfv,hfB,hfz,hft,hfc⟩:=hfrow.form (by omega);rw[hfv] at hfrow;have x1:V.cell? ⟨rb,1,none⟩=some (.slice (some ⟨fb,0,none⟩) (rest.length+1) fcap):=by rw[Ag.cell HMV.out.1 1,<-hfv];rfl
     have y1:V.cell? ⟨fb,rest.length * 4+1,none⟩=some (.int .i64 f.pc):=by
      have:=hfrow.cell (i:=rest.length * 4+1) (by omega);rw[E6,Bg] at this;exact this
     have z1:V.frozen? ⟨fb,rest.length * 4+1,none⟩=false:=hfrow.frozen _;generalize hkk:rest.length=k at *;have HK:=Aa hkk;by_cases h24:24<=k+1
     ·have hd24:decide ((24:Int)<=(k:Int)+1)=true:=by simp;omega
      have H24:=Aa h24;clear h24 hkk;go_wp2;go_ret;exact Or.inr (Or.inl ⟨hno.out,by have:=HK.out;have:=H24.out;omega,rfl,HG6.out⟩)
     ·have hd24:decide ((24:Int)<=(k:Int)+1)=false:=by simp;omega
      have H24:=Aa h24;clear h24 HG6;have hrbz:rb<V.heap.size:=Ag.lt HMV.out.1;have HP3:=Aa HMV.out.2.1;have hrbt:=(Ag.own HMV.out.1).2;have hbxt:=HMV.out.2.2.1;have hnf:¬bx=fb:=by intro e;rw[e,hft] at hbxt;omega
      have hnr:¬rb=fb:=by intro e;rw[e,hft] at hrbt;omega
      have hnb:¬rb=bx:=by intro e;rw[e,hbxt] at hrbt;omega
      have hnp:¬pb=fb:=by omega
      obtain⟨hgo,hgc⟩:=HMV.out.1.goto rfl (fb:=fb) (fcap:=fcap) (by rw[hkk];exact hfv) (f.pc+1);rw[hkk] at hgo hgc;have ec:((f.pc+1:Nat):Int)=(f.pc:Int)+1:=by omega
      rw[ec] at hgo hgc;have hchX:Ch B Be A.tag A3.tag w (V.setCell ⟨fb,k * 4+1,none⟩ (.int .i64 ((f.pc:Int)+1))):=HMV.out.2.2.2.2.trans (hgc.mono (fun d hd=>by unfold Be;omega));have hlaid:=HMV.out.2.2.2.1.keep hgc (by
       have hab5:A3.tag w.heap.size=5:=HMT.out;rw[hab5];omega)
      have HGO:=Aa (Tc hgo (Tc hchX hlaid));have epc:wrap64 ((f.pc:Int)+1)=(f.pc:Int)+1:=by unfold wrap64;omega
      have HPC:=Aa ec;clear hgo hgc hchX hlaid ec hkk hfrow;generalize hpcl:(f.pc:Int)=pcl at *;have HPL:=Aa hpcl;have hpc0:0<=pcl/\pcl<=64:=by omega
      clear hpcl;go_wp2_with fail
      go_region;have hXb:Below (V.setCell ⟨fb,k * 4+1,none⟩ (.int .i64 (pcl+1))).heap.size (V.setCell ⟨fb,k * 4+1,none⟩ (.int .i64 (pcl+1))) (V.setCell ⟨fb,k * 4+1,none⟩ (.int .i64 (pcl+1))).drew:=(Tu _ _).drew;have HX2:=Aa (show Al (V.setCell ⟨fb,k * 4+1,none⟩ (.int .i64 (pcl+1))).drew B rb A3 {s with fr:={f with pc:=f.pc+1,stk:=r}::rest}/\Ch B Be A.tag A3.tag w (V.setCell ⟨fb,k * 4+1,none⟩ (.int .i64 (pcl+1))).drew/\Cq (V.setCell ⟨fb,k * 4+1,none⟩ (.int .i64 (pcl+1))).drew (.slice (some ⟨w.heap.size,0,none⟩) j j) xs.reverse from by
       obtain⟨q1,q2,q3⟩:=HGO.out;exact⟨q1.below hXb,q2.trans' hXb,(q3.keep (Ch.of_below (B:=B) (p:=fun _=>False) (tag:=A3.tag) hXb) (fun h=>h)).args HS.out.2 j⟩)
      have b1X:(V.setCell ⟨fb,k * 4+1,none⟩ (.int .i64 (pcl+1))).drew.cell? ⟨bx,1,none⟩=some (.int .i64 gn):=(To V ⟨fb,_,none⟩ ⟨bx,_,none⟩ _ (fun e=>hnf e.symm)).trans b1V;have a1X:(V.setCell ⟨fb,k * 4+1,none⟩ (.int .i64 (pcl+1))).drew.cell? ⟨pb,po+gn * 3+1,none⟩=some (.int .i64 (F gn).locals):=(To V ⟨fb,_,none⟩ ⟨pb,_,none⟩ _ (fun e=>hnp e.symm)).trans a1V;have r0X:(V.setCell ⟨fb,k * 4+1,none⟩ (.int .i64 (pcl+1))).drew.cell? ⟨rb,0,none⟩=some (.slice (some ⟨pb,po,none⟩) m pc):=(To V ⟨fb,_,none⟩ ⟨rb,_,none⟩ _ (fun e=>hnr e.symm)).trans r0V;have hzX:(V.setCell ⟨fb,k * 4+1,none⟩ (.int .i64 (pcl+1))).drew.heap.size=V.heap.size:=by simp
      have hbxX:bx<(V.setCell ⟨fb,k * 4+1,none⟩ (.int .i64 (pcl+1))).drew.heap.size:=by omega
      have hpbX:pb<(V.setCell ⟨fb,k * 4+1,none⟩ (.int .i64 (pcl+1))).drew.heap.size:=by omega
      have hrbX:rb<(V.setCell ⟨fb,k * 4+1,none⟩ (.int .i64 (pcl+1))).drew.heap.size:=by omega
      clear hXb hzX b1V a1V r0V x1 y1 z1 HGO HMV hbxV hpbV hrbz;generalize (V.setCell ⟨fb,k * 4+1,none⟩ (.int .i64 (pcl+1))).drew=X at *;have hfr2:=Ag.fr HX2.out.1;have hhi2:=Ag.hi HX2.out.1;have hlenX:({s with fr:={f with pc:=f.pc+1,stk:=r}::rest}:Mc).fr.length=k+1:=by show rest.length+1=k+1;rw[HK.out]
      have hhl:s.high.length=k+1:=by have:=HL.out.2.2;rw[hs] at this;simpa [HK.out] using this
      have hhl2:({s with fr:={f with pc:=f.pc+1,stk:=r}::rest}:Mc).high.length=k+1:=hhl;rw[hhl2] at hhi2;obtain⟨hb,hcap,hhv,hhB,hhz,hht,hhc⟩:=hhi2.form (by omega);rw[hlenX] at hfr2;obtain⟨gn8,hgn8⟩:∃ q:Nat,q=gn/\q<8:=⟨gn,rfl,by have:=HG.out.2.2;omega⟩
      obtain⟨h0,h8,hal⟩:=HG.out.2.1 gn hgm;have hmk2:=fun wx=>Fs (F gn).locals h0 (by omega) wx
      obtain⟨W3,kc,hcp,hB3,hz3,cur,hcur,hcsz,hcc⟩:=LN X.drew (F gn).locals.toNat xs.reverse (.slice (some ⟨w.heap.size,0,none⟩) j j) (by
       rcases HX2.out.2.2 with h|⟨ab,c,h1,h2,h3⟩
       ·exact Or.inl h
       ·exact Or.inr ⟨ab,c,h1,h2,h3⟩) (by rw[List.length_reverse,HS.out.2];have:=HA.out;omega)
      have hcp2:(Builtin.copy_ #[44,44] 3 #[.slice (some ⟨X.heap.size,0,none⟩) (F gn).locals.toNat (F gn).locals.toNat,.slice (some ⟨w.heap.size,0,none⟩) j j]).run prog (X.alloc (.cells (Bm (F gn).locals.toNat) 43)).drew=.ok (goInt kc) W3:=hcp;clear hcp;have hlr:(xs.reverse++List.replicate ((F gn).locals.toNat-xs.reverse.length) As).length=(F gn).locals.toNat:=by rw[List.length_append,List.length_replicate,List.length_reverse,HS.out.2];have:=HA.out;omega
      have hrl:xs.reverse.length=j:=by rw[List.length_reverse];exact HS.out.2
      rw[hrl] at hlr hcc;have hlo:=Su X W3 (F gn).locals.toNat (by omega) _ hlr X.heap.size (10+3 * (k+1)) cur (Te _) hcur hcsz hcc;have HLO:=Aa (Tc hlo (Tc hB3 hz3));clear hlo hcur hcsz hcc hlr hrl hB3 hz3;generalize hlcs:(F gn).locals=lc at *;have HLC:=Aa hlcs;have hlc0:(0:Int)<=lc/\lc<=8:=⟨h0,h8⟩
      clear hlcs h0 h8 hal;go_wp2_with fail
      refine AG (fun w'=>w'.cell? ⟨rb,0,none⟩=some (.slice (some ⟨pb,po,none⟩) m pc)/\w'.cell? ⟨bx,1,none⟩=some (.int .i64 gn)/\w'.cell? ⟨pb,po+gn * 3+1,none⟩=some (.int .i64 lc)) [(false,0),(false,1),(false,2),(false,3),(false,4),(false,5),(false,6),(false,7),(false,8),(true,9),(false,10)] (by kernel_rfl) (by kernel_rfl) (fun c0 a0 d0 v0 x0 h0=>A8 (P:=prog) f99 (fun e w'=>Hm w B rb A s F f rest xs r g j e w') c0 a0 d0 v0 x0 h0) ⟨r0X,b1X,a1X⟩ ?_;simp only[lexL,Tl,Tm];iterate 9 (refine Aw (by rfl) (by intro w' hS';obtain⟨q0,q1,q2⟩:=hS';go_simp;exact rfl) ?_;simp only[Act.put,Td,Th,Tg])
      refine Az (fun K hK=>?_);go_simp;refine hK.out _ _ ⟨BH (w:=X.drew) r0X hrbX,BH (w:=X.drew) b1X hbxX,BH (w:=X.drew) a1X hpbX⟩ ?_;clear hK K;try simp only[Act.put,Td,Th,Tg]
      refine Aw (by rfl) (by intro w' hS';go_simp;exact rfl) ?_;try simp only[Act.put,Td,Th,Tg]
      refine AF ?_;have hzXd:X.drew.heap.size=X.heap.size:=rfl;have r1X:X.cell? ⟨rb,1,none⟩=some (.slice (some ⟨fb,0,none⟩) (k+1) fcap):=by rw[Ag.cell HX2.out.1 1,<-hfv];rfl
      have hWB:Below X.heap.size X W3:=((Tu _ _).drew).trans HLO.out.2.1;have r1W:W3.cell? ⟨rb,1,none⟩=some (.slice (some ⟨fb,0,none⟩) (k+1) fcap):=(hWB.cell (p:=⟨rb,1,none⟩) hrbX).trans r1X;have b1W:W3.cell? ⟨bx,1,none⟩=some (.int .i64 gn):=(hWB.cell (p:=⟨bx,1,none⟩) hbxX).trans b1X;have hzW:W3.heap.size=X.heap.size+1:=HLO.out.2.2;have hrbW:rb<W3.heap.size:=by omega
      have hbxW:bx<W3.heap.size:=by omega
      have HWB:=Aa hWB;have hfrW:=hfr2.below hWB;have HFW:=Aa hfrW;have hne1:some rb≠A3.fv.ownBlock:=hfrW.other (by rw[hrbt];omega);have hne2:some bx≠A3.fv.ownBlock:=hfrW.other (by rw[hbxt];omega);have hpX:pb<X.heap.size:=hpbX;have hXW:X.heap.size<=W3.heap.size:=by omega
      have hBX:B<=X.heap.size:=by have:=HX2.out.2.1.size;omega
      clear hWB hfrW r1X hzW hzXd;go_wp2_with fail
      obtain⟨inf,hi,hz0,hz1,hz2⟩:∃ i,prog.info? 73=some i/\i.zero=some (.agg #[.int .i64 0,.int .i64 0,.slice none 0 0,.slice none 0 0])/\i.size=4/\i.bytes=64:=by
       obtain⟨i,hi,hzz⟩:=Tp.1 Tryz.infoFrameR;simp only[Prod.mk.injEq] at hzz;exact⟨i,hi,hzz.1,hzz.2.1,hzz.2.2⟩
      obtain⟨inb,hib,hzb0,hzb1,hzb2⟩:∃ i,prog.info? 4=some i/\i.zero=some (.bool false)/\i.size=1/\i.bytes=1:=by
       obtain⟨i,hi,hzz⟩:=Tp.1 Tryz.infoBool;simp only[Prod.mk.injEq] at hzz;exact⟨i,hi,hzz.1,hzz.2.1,hzz.2.2⟩
      refine GH (fun w'=>w'.cell? ⟨rb,1,none⟩=some (.slice (some ⟨fb,0,none⟩) (k+1) fcap)/\w'.cell? ⟨bx,1,none⟩=some (.int .i64 gn)) 15 [(false,0),(false,1),(false,2),(false,3),(false,4),(false,5),(false,6),(false,7),(false,8),(false,9),(true,10),(true,11),(false,12),(false,13),(false,14),(true,15)] (by kernel_rfl) (by kernel_rfl) (fun c0 a0 d0 v0 x0 h0=>A8 (P:=prog) f99 (fun e w'=>Hm w B rb A s F f rest xs r g j e w') c0 a0 d0 v0 x0 h0) ⟨r1W,b1W⟩ ?_;simp only[lexL,Tl,Tm];iterate 10 (refine EG (by rfl) (by intro w' hS';obtain⟨q0,q1⟩:=hS';go_simp;exact rfl) ?_;simp only[Act.put,Td,Th,Tg])
      refine EZ (fun K hK=>?_);go_simp;refine hK.out _ _ ⟨BH (w:=W3.drew) r1W hrbW,BH (w:=W3.drew) b1W hbxW⟩ ?_;clear hK K;refine EZ (fun K hK=>?_);refine step_append_lies _ (by rfl) _ _ _ (by rfl) B 73 inf _ 4 64 underlying50 hi hz0 hz1 hz2 rfl (by decide) (.slice (some ⟨fb,0,none⟩) (k+1) fcap) (k+1) _ (by rfl) (by rw[<-hfv];exact(HFW.out.owns.drew).alloc _) ⟨W3.heap.size,0,none⟩ 1 1 [.int .i64 gn,.int .i64 0,.slice (some ⟨X.heap.size,0,none⟩) lc.toNat lc.toNat,.slice none 0 0] (by rfl) (by rfl) (by exact World.news_of_block (Tv W3.drew _)) (by intro u hu;simp at hu;rcases hu with rfl|rfl|rfl|rfl<;>rfl) (by omega) (by unfold maxLen;omega) (by omega) (by simp;omega) (W3.heap.size+1) (by simp) ?_;intro g1 cap1 w5 hown hgrow hat hlt5;rw[<-hfv] at hgrow hat;have hV4:Below X.heap.size X (W3.drew.alloc (.cells #[.int .i64 gn,.int .i64 0,.slice (some ⟨X.heap.size,0,none⟩) lc.toNat lc.toNat,.slice none 0 0] 73)):=(HWB.out.drew).alloc (by show X.heap.size<=W3.heap.size;omega) _;have hat2:A3.fv.ownBlock=some g1\/g1=(W3.drew.alloc (.cells #[.int .i64 gn,.int .i64 0,.slice (some ⟨X.heap.size,0,none⟩) lc.toNat lc.toNat,.slice none 0 0] 73)).heap.size:=by
       rcases hat with h|h
       ·exact Or.inl h
       ·right;rw[h];simp
      have hownX:=hown;rw[<-hlenX] at hownX;obtain⟨⟨t2,hhY⟩,hrunY,hrun5,hothY,hzY⟩:=HX2.out.1.hiRow hV4 rfl hownX hgrow hat2 (.slice (some ⟨g1,0,none⟩) (k+1+1) cap1);have q0:w5.cell? ⟨rb,1,none⟩=some (.slice (some ⟨fb,0,none⟩) (k+1) fcap):=by rw[Ab hrun5,<-hfv];rfl
      have q1:w5.cell? ⟨bx,1,none⟩=some (.int .i64 gn):=(Tw (a:=⟨bx,1,none⟩) (hothY bx hbxX (by rw[hbxt];omega) (by rw[hbxt];omega)).1).trans b1X;have z0:w5.frozen? ⟨rb,1,none⟩=false:=Ax hrun5;refine hK.out _ _ ⟨q0,q1⟩ ?_;clear hK K;have HF5:=Aa (Tc hownX (Tc hgrow (Tc hat2 (Tc hV4 hhY))));have q1Y:(w5.setCell ⟨rb,1,none⟩ (.slice (some ⟨g1,0,none⟩) (k+1+1) cap1)).cell? ⟨bx,1,none⟩=some (.int .i64 gn):=(Tw (a:=⟨bx,1,none⟩) (hothY bx hbxX (by rw[hbxt];omega) (by rw[hbxt];omega)).2).trans b1X;clear hown hgrow hat hat2 hownX hhY hothY hV4;simp only[Act.put,Td,Th,Tg];iterate 3 (refine EG (by rfl) (by intro w' hS';go_simp;exact rfl) ?_;simp only[Act.put,Td,Th,Tg])
      refine Gt (fun K hK=>?_);go_simp;refine hK.out _ _ ?_;clear hK K;have r8Y:(w5.setCell ⟨rb,1,none⟩ (.slice (some ⟨g1,0,none⟩) (k+1+1) cap1)).cell? ⟨rb,8,none⟩=some (.slice (some ⟨hb,0,none⟩) (k+1) hcap):=by rw[Ab hrunY,<-hhv];rfl
      have z8Y:(w5.setCell ⟨rb,1,none⟩ (.slice (some ⟨g1,0,none⟩) (k+1+1) cap1)).frozen? ⟨rb,8,none⟩=false:=Ax hrunY;have rmY:(w5.setCell ⟨rb,1,none⟩ (.slice (some ⟨g1,0,none⟩) (k+1+1) cap1)).cell? ⟨rb,9+gn,none⟩=some (.bool (s.made gn)):=by rw[Ab hrunY];exact LZ _ _ _ _ _ _ gn (by omega)
      have hzY2:(w5.setCell ⟨rb,1,none⟩ (.slice (some ⟨g1,0,none⟩) (k+1+1) cap1)).heap.size=w5.heap.size:=by simp
      have hrb5:rb<(w5.setCell ⟨rb,1,none⟩ (.slice (some ⟨g1,0,none⟩) (k+1+1) cap1)).heap.size:=by omega
      have hbx5:bx<(w5.setCell ⟨rb,1,none⟩ (.slice (some ⟨g1,0,none⟩) (k+1+1) cap1)).heap.size:=by omega
      have hB5:B<=(w5.setCell ⟨rb,1,none⟩ (.slice (some ⟨g1,0,none⟩) (k+1+1) cap1)).heap.size:=by omega
      have HR5:=Aa hrunY;have hg8:(gn:Int)<8:=by omega
      clear q0 q1 z0 hrun5 hrunY hzY hzY2 r1W b1W b1X a1X r0X;generalize hY:w5.setCell ⟨rb,1,none⟩ (.slice (some ⟨g1,0,none⟩) (k+1+1) cap1)=Y at *;have HY:=Aa hY.symm;clear hY;go_wp2_with fail
      refine GH (fun w'=>w'.cell? ⟨rb,8,none⟩=some (.slice (some ⟨hb,0,none⟩) (k+1) hcap)/\w'.cell? ⟨bx,1,none⟩=some (.int .i64 gn)/\w'.cell? ⟨rb,9+gn,none⟩=some (.bool (s.made gn))) 16 [(false,0),(false,1),(false,2),(false,3),(false,4),(false,5),(false,6),(false,7),(false,8),(false,9),(false,10),(false,11),(true,12),(true,13),(false,14),(false,15),(true,16)] (by kernel_rfl) (by kernel_rfl) (fun c0 a0 d0 v0 x0 h0=>A8 (P:=prog) f99 (fun e w'=>Hm w B rb A s F f rest xs r g j e w') c0 a0 d0 v0 x0 h0) ⟨r8Y,q1Y,rmY⟩ ?_;simp only[lexL,Tl,Tm];iterate 12 (refine EG (by rfl) (by intro w' hS';obtain⟨q0,q1,q2⟩:=hS';go_simp;exact rfl) ?_;simp only[Act.put,Td,Th,Tg])
      refine EZ (fun K hK=>?_);go_simp;refine hK.out _ _ ⟨BH (w:=Y.drew) r8Y hrb5,BH (w:=Y.drew) q1Y hbx5,BH (w:=Y.drew) rmY hrb5⟩ ?_;clear hK K;refine EZ (fun K hK=>?_);have hhY:∃ t2,Ae Y B t2 4 4 1 A3.hv (k+1) (fun i=>.bool (s.high.reverse.getD i false)):=by
       have h:=HF5.out.2.2.2.2;rw[hhl2] at h;exact⟨t2,h⟩
      obtain⟨t3,hhY⟩:=hhY;refine step_append_lies _ (by rfl) _ _ _ (by rfl) B 4 inb _ 1 1 underlying142 hib hzb0 hzb1 hzb2 rfl (by decide) (.slice (some ⟨hb,0,none⟩) (k+1) hcap) (k+1) _ (by rfl) (by rw[<-hhv];exact(hhY.owns.drew).alloc _) ⟨Y.heap.size,0,none⟩ 1 1 [.bool (s.made gn)] (by rfl) (by rfl) (by exact World.news_of_block (Tv Y.drew _)) (by intro u hu;simp at hu;subst hu;rfl) (by omega) (by unfold maxLen;omega) (by omega) (by simp;omega) (Y.heap.size+1) (by simp) ?_;intro g2 cap2 w7 hown2 hgrow2 hat3 hlt7;rw[<-hhv] at hgrow2 hat3;have h6:Below Y.heap.size Y (Y.drew.alloc (.cells #[.bool (s.made gn)] 4)):=((Tu _ _).drew).alloc (Te _) _;have hat4:A3.hv.ownBlock=some g2\/g2=(Y.drew.alloc (.cells #[.bool (s.made gn)] 4)).heap.size:=by
       rcases hat3 with h|h
       ·exact Or.inl h
       ·right;rw[h];simp
      have hfin:=HX2.out.1.newFrame (f0:=⟨gn,0,xs.reverse++List.replicate (lc.toNat-j) As,[]⟩) (b0:=s.made gn) (fb:=fb) (fcap:=fcap) (hb:=hb) (hcap:=hcap) (lv:=.slice (some ⟨X.heap.size,0,none⟩) lc.toNat lc.toNat) (V3:=W3) (V4:=W3.drew.alloc (.cells #[.int .i64 gn,.int .i64 0,.slice (some ⟨X.heap.size,0,none⟩) lc.toNat lc.toNat,.slice none 0 0] 73)) hBX rfl rfl (by rw[hlenX];exact hhl2) HWB.out (by rw[hlenX];exact HLO.out.1) (by rw[hlenX];exact hfv) (by rw[hlenX];exact hhv) (((Tu _ _).drew).alloc (Te _) _) HF5.out.1 HF5.out.2.1 HF5.out.2.2.1 (w6:=Y.drew.alloc (.cells #[.bool (s.made gn)] 4)) (by rw[hlenX,<-HY.out];exact h6) (g2:=g2) (cap2:=cap2) (w7:=w7) (by rw[hlenX];exact hown2) hgrow2 hat4;rw[hlenX] at hfin;have hr7:w7.heap[rb]?=Y.heap[rb]?:=by
       refine(hgrow2.block rb (by simp;omega) ?_).trans (h6.block rb hrb5);rcases hhY with⟨e1,_⟩|⟨b',cap',cur',e1,_,ht',_⟩
       ·rw[e1];simp[Value.ownBlock]
       ·rw[e1];intro e2;rw[hhv] at e1;injection e1 with e1 _ _;injection e1 with e1;injection e1 with e1 _ _;have:rb=b':=by simpa [Value.ownBlock] using e2
        rw[<-e1] at this;rw[this,hht] at hrbt;omega
      rw[HR5.out] at hr7;have q0:w7.cell? ⟨rb,8,none⟩=some (.slice (some ⟨hb,0,none⟩) (k+1) hcap):=by rw[Ab hr7,<-hhv];rfl
      have q2:w7.cell? ⟨rb,9+gn,none⟩=some (.bool (s.made gn)):=by rw[Ab hr7];exact LZ _ _ _ _ _ _ gn (by omega)
      have z0:w7.frozen? ⟨rb,8,none⟩=false:=Ax hr7;have q1:w7.cell? ⟨bx,1,none⟩=some (.int .i64 gn):=by
       refine(Tw (a:=⟨bx,1,none⟩) ?_).trans q1Y;refine(hgrow2.block bx (by simp;omega) ?_).trans (h6.block bx hbx5);rcases hhY with⟨e1,_⟩|⟨b',cap',cur',e1,_,ht',_⟩
       ·rw[e1];simp[Value.ownBlock]
       ·rw[e1];intro e2;rw[hhv] at e1;injection e1 with e1 _ _;injection e1 with e1;injection e1 with e1 _ _;have:bx=b':=by simpa [Value.ownBlock] using e2
        rw[<-e1] at this;rw[this,hht] at hbxt;omega
      refine hK.out _ _ ⟨q0,q1,q2⟩ ?_;have HFIN:=Aa hfin;clear hK K hfin hown2 hgrow2 hat3 hat4 h6 hhY q1 q2 hr7;simp only[Act.put,Td,Th,Tg];iterate 2 (refine EG (by rfl) (by intro w' hS';go_simp;exact rfl) ?_;simp only[Act.put,Td,Th,Tg])
      refine Gt (fun K hK=>?_);go_simp;refine hK.out _ _ ?_;clear hK K;have HQ:=Aa (show Bo w (w7.setCell ⟨rb,8,none⟩ (.slice (some ⟨g2,0,none⟩) (k+1+1) cap2)) B rb A {s with fr:=⟨gn,0,xs.reverse++List.replicate (lc.toNat-j) As,[]⟩::{f with pc:=f.pc+1,stk:=r}::rest,high:=s.made gn::s.high} from by
       obtain⟨A',k1,k2,k3⟩:=HFIN.out;exact⟨A',k1,k2.trans HP3.out,HX2.out.2.1.trans k3⟩)
      clear HFIN q0 z0;generalize w7.setCell ⟨rb,8,none⟩ (.slice (some ⟨g2,0,none⟩) (k+1+1) cap2)=Z at *;go_wp2;go_ret;refine Or.inr (Or.inr ⟨hno.out,by have:=HK.out;have:=H24.out;omega,rfl,?_⟩);rw[HG3.out.2.2,HLC.out];exact HQ.out
    ·have hka:((F gn).args != (j:Int))=true:=by simpa using ha
     have HA:=Aa ha;clear ha;have hpbz:pb<W.heap.size:=by have:=Ah (Ag.run HM.out.1);have:=(Ag.own HM.out.1).1;omega
     have hbxz:bx<W.heap.size:=hz3;go_quiet (fail)
     go_wp2;go_ret;exact Or.inl ⟨Or.inr (by rw[HG3.out.2.2];exact HA.out),rfl,HT6.out _ (below_drewN (Tu _ _) _)⟩
   ·have hk:(g.k != 3)=true:=by simpa using h3
    have HG3:=Aa h3;clear h3;go_quiet (fail)
    go_wp2;go_ret;exact Or.inl ⟨Or.inl HG3.out,rfl,HT6.out _ (below_drewN (Tu _ _) _)⟩
end Go.Proofs.YtkafkipjedpohaaGreatDoor

import Derived.Test.YtkafkipjedpohaaGreatDoorT8
namespace Go.Proofs.YtkafkipjedpohaaGreatDoor
set_option maxRecDepth 100000
set_option maxHeartbeats 16000000
open Go.RowKit _root_.Go.Proofs.Tryz
theorem Ij{l:List (List V)}{i:Nat}(h:i<l.length):l.getD i []∈l:=by
 rw[Tj,List.getElem?_eq_getElem h];exact List.getElem_mem h
def C2(s:Mc):Mc:={s with fin:=Ca s}
variable {m:Nat} {F:Nat->PF} {K:Nat->Nat->Bool} {H:Nat->Nat->Int}
structure Em (m:Nat) (F:Nat->PF) (K:Nat->Nat->Bool) (H:Nat->Nat->Int) (E:List Ev) (j:Nat) (s:Mc) (r:List Ev):Prop where
 go:s.fin=0->BS m F K H s/\Cw H s/\Bd s/\s.steps=j/\AO F (AC F) E j=BN F r s
 stay:s.fin≠0->∀ k,j<=k->(AO F (AC F) E k).1=s
 ok:∀ e,e∈r->CY m e
 room:DI s r
theorem Em.start(hF:AP m F K H){E:List Ev}(hE:Ec m E):Em m F K H E 0 (AC F) E :=
 ⟨fun _=>⟨(Fj hF).1,(Fj hF).2,JM,rfl,rfl⟩,fun h=>absurd rfl h,hE.ok,⟨by show 0+_<=_;have:=hE.few;omega,by show 0+_<=_;have:=hE.few;omega⟩⟩
theorem Em.next(hF:AP m F K H){E:List Ev}{j:Nat}{s:Mc}{r:List Ev}(hI:BS m F K H s)(h16:Cw H s)(hb:Bd s)(hst:s.steps=j)(hz:s.fin=0)(he:AO F (AC F) E j=(s,r))(hok:∀ e,e∈r->CY m e)(hro:DI s r):Em m F K H E (j+1) (AA F s) r:=by
 obtain⟨f,rest,hfr,_⟩:=hI.top;have hsf:=Fb (F:=F) hz hI.some;have hu:=Mt (F:=F) hfr;have e1:AO F (AC F) E (j+1)=if (AA F s).fin=0 then BN F r (AA F s) else (AA F s,r):=by
  show (if (AO F (AC F) E j).1.fin=0 then (if (AA F (AO F (AC F) E j).1).fin=0 then BN F (AO F (AC F) E j).2 (AA F (AO F (AC F) E j).1) else (AA F (AO F (AC F) E j).1,(AO F (AC F) E j).2)) else AO F (AC F) E j)=_;rw[he];show (if s.fin=0 then _ else _)=_;rw[if_pos hz]
 refine⟨fun h1=>⟨EH hF hI h1,FP hF hI h16 h1,Bd.step hb hz hfr,by rw[hsf.steps,hst],by rw[e1,if_pos h1]⟩,fun h1 k hk=>?_,hok,⟨by rw[hu.2];exact hro.1,by rw[hu.1];exact hro.2⟩⟩;rw[if_neg h1] at e1;rw[IQ (n:=j+1) (by rw[e1];exact h1) k hk,e1]
structure EQ (m:Nat) (F:Nat->PF) (K:Nat->Nat->Bool) (H:Nat->Nat->Int) (E:List Ev) (j:Nat) (s:Mc) (r:List Ev):Prop where
 inv:BS m F K H s
 low:Cw H s
 bd:Bd s
 steps:s.steps=j
 fin:s.fin=0
 is:AO F (AC F) E j=BN F r s
 ok:∀ e,e∈r->CY m e
 room:DI s r
theorem Em.mid{E:List Ev}{j:Nat}{s:Mc}{r:List Ev}(h:Em m F K H E j s r)(hz:s.fin=0):EQ m F K H E j s r:=by
 obtain⟨h1,h2,h3,h4,h5⟩:=h.go hz;exact⟨h1,h2,h3,h4,hz,h5,h.ok,h.room⟩
theorem EQ.come{E:List Ev}{j:Nat}{s:Mc}{e:Ev}{r:List Ev}(h:EQ m F K H E j s (e::r))(hst:e.st<=j):EQ m F K H E j (Bu F e.k e.n s) r:=by
 have hcm:=G5 (F:=F) e.k e.n s h.inv.highs;obtain⟨f,rest,hsf,_,_,h24⟩:=h.inv.top;refine⟨hcm.inv h.inv,hcm.low h.low,hcm.bd h.bd,hcm.steps.trans h.steps,hcm.fin.trans h.fin,?_,fun e he=>h.ok e (Tf _ he),h.room.come h.inv.highs (by rw[hsf];simpa using h24)⟩;rw[h.is];conv=>lhs;unfold BN
 rw[if_pos (by rw[h.steps];exact hst)]
theorem EQ.done{E:List Ev}{j:Nat}{s:Mc}{r:List Ev}(h:EQ m F K H E j s r)(hr:r=[]\/∃ e r',r=e::r'/\¬e.st<=j):AO F (AC F) E j=(s,r):=by
 rw[h.is];rcases hr with rfl|⟨e,r',rfl,he⟩
 ·rfl
 ·unfold BN;rw[if_neg (by rw[h.steps];exact he)]
theorem EQ.next(hF:AP m F K H){E:List Ev}{j:Nat}{s:Mc}{r:List Ev}(h:EQ m F K H E j s r)(he:AO F (AC F) E j=(s,r)):Em m F K H E (j+1) (AA F s) r :=
 Em.next hF h.inv h.low h.bd h.steps h.fin he h.ok h.room
def GV(w:World)(rb:Nat)(pv:Value)(m:Nat)(F:Nat->PF)(K:Nat->Nat->Bool)(H:Nat->Nat->Int)(E:List Ev)(fu gk:Nat)(v:Value)(wr:World):Prop :=
 ∃ j a:Nat,j+gk=fu/\a<=E.length/\v=.int .i64 a/\∃ (A:Ad) (s:Mc),Al wr w.heap.size rb A s/\A.pv=pv/\Below w.heap.size w wr/\Em m F K H E j s (E.drop a)
def IL(w:World)(rb:Nat)(pv:Value)(m:Nat)(F:Nat->PF)(K:Nat->Nat->Bool)(H:Nat->Nat->Int)(E:List Ev)(j gk:Nat)(v:Value)(wr:World):Prop :=
 ∃ a:Nat,a+gk=E.length/\v=.int .i64 a/\∃ (A:Ad) (s:Mc),Al wr w.heap.size rb A s/\A.pv=pv/\Below w.heap.size w wr/\EQ m F K H E j s (E.drop a)
theorem Qv(w:World)(pv:Value)(F:Nat->PF)(L:Nat)(hL:(F 0).locals=L)(hL8:L<=8) :
  ∃ A:Ad,Al ((((w.alloc (.cells #[.bool false] 4)).alloc (.cells #[pv,.slice (some ⟨w.heap.size+1+1+1,0,none⟩) 1 1,.slice none 0 0,.slice none 0 0,.int .i64 0,.int .i64 0,.int .i64 0,.int .i64 0,.slice (some ⟨w.heap.size,0,none⟩) 1 1,.bool false,.bool false,.bool false,.bool false,.bool false,.bool false,.bool false,.bool false,.int .i64 0,.int .i64 0,.int .i64 0] 155)).alloc (.cells (Bm L) 43)).alloc (.cells #[.int .i64 0,.int .i64 0,.slice (some ⟨w.heap.size+1+1,0,none⟩) L L,.slice none 0 0] 73)) w.heap.size (w.heap.size+1) A (AC F)/\A.pv=pv:=by
 obtain⟨W1,h1⟩:∃ W,W=w.alloc (.cells #[.bool false] 4):=⟨_,rfl⟩
 obtain⟨W2,h2⟩:∃ W,W=W1.alloc (.cells #[pv,.slice (some ⟨w.heap.size+3,0,none⟩) 1 1,.slice none 0 0,.slice none 0 0,.int .i64 0,.int .i64 0,.int .i64 0,.int .i64 0,.slice (some ⟨w.heap.size,0,none⟩) 1 1,.bool false,.bool false,.bool false,.bool false,.bool false,.bool false,.bool false,.bool false,.int .i64 0,.int .i64 0,.int .i64 0] 155):=⟨_,rfl⟩
 obtain⟨W3,h3⟩:∃ W,W=W2.alloc (.cells (Bm L) 43):=⟨_,rfl⟩
 obtain⟨W4,h4⟩:∃ W,W=W3.alloc (.cells #[.int .i64 0,.int .i64 0,.slice (some ⟨w.heap.size+2,0,none⟩) L L,.slice none 0 0] 73):=⟨_,rfl⟩
 rw[<-h1,<-h2,<-h3,<-h4];have z1:W1.heap.size=w.heap.size+1:=by rw[h1];simp
 have z2:W2.heap.size=w.heap.size+2:=by rw[h2];simp;omega
 have z3:W3.heap.size=w.heap.size+3:=by rw[h3];simp;omega
 have b0:W4.heap[w.heap.size]?=some (.cells #[.bool false] 4 (0,0)):=by
  rw[h4,Ty _ _ _ (by omega),h3,Ty _ _ _ (by omega),h2,Ty _ _ _ (by omega),h1];exact Tv _ _
 have b1:W4.heap[w.heap.size+1]?=some (.cells #[pv,.slice (some ⟨w.heap.size+3,0,none⟩) 1 1,.slice none 0 0,.slice none 0 0,.int .i64 0,.int .i64 0,.int .i64 0,.int .i64 0,.slice (some ⟨w.heap.size,0,none⟩) 1 1,.bool false,.bool false,.bool false,.bool false,.bool false,.bool false,.bool false,.bool false,.int .i64 0,.int .i64 0,.int .i64 0] 155 (0,0)):=by
  rw[h4,Ty _ _ _ (by omega),h3,Ty _ _ _ (by omega),h2,<-z1];exact Tv _ _
 have b2:W4.heap[w.heap.size+2]?=some (.cells (Bm L) 43 (0,0)):=by
  rw[h4,Ty _ _ _ (by omega),h3,<-z2];exact Tv _ _
 have b3:W4.heap[w.heap.size+3]?=some (.cells #[.int .i64 0,.int .i64 0,.slice (some ⟨w.heap.size+2,0,none⟩) L L,.slice none 0 0] 73 (0,0)):=by
  rw[h4,<-z3];exact Tv _ _
 refine⟨{tag:=fun b=>if b=w.heap.size then 4 else if b=w.heap.size+1 then 0 else if b=w.heap.size+2 then 10 else 1,pv:=pv,fv:=.slice (some ⟨w.heap.size+3,0,none⟩) 1 1,av:=.slice none 0 0,ov:=.slice none 0 0,hv:=.slice (some ⟨w.heap.size,0,none⟩) 1 1,LV:=fun _=>.slice (some ⟨w.heap.size+2,0,none⟩) L L,SV:=fun _=>.slice none 0 0,AV:=fun _=>.slice none 0 0},⟨b1,⟨by omega,by simp⟩,?_,Ae.nil _ _ _ _ _ _ _,Ae.nil _ _ _ _ _ _ _,?_,fun i hi=>?_,fun i hi=>?_,fun j hj=>by simp[AC] at hj⟩,rfl⟩
 ·refine Or.inr ⟨w.heap.size+3,1,_,rfl,by omega,by simp,b3,Te _,by unfold maxLen;omega,rfl,fun i hi=>?_⟩;have:i=0\/i=1\/i=2\/i=3:=by have:i<1 * 4:=hi;omega
  rcases this with rfl|rfl|rfl|rfl<;>rfl
 ·refine Or.inr ⟨w.heap.size,1,_,rfl,Te _,by simp,b0,Te _,by unfold maxLen;omega,rfl,fun i hi=>?_⟩;obtain rfl:i=0:=by have:i<1 * 1:=hi;omega
  rfl
 ·obtain rfl:i=0:=by have:i<1:=hi;omega
  have e:(Am (AC F).fr 0).loc=List.replicate L As:=by show List.replicate (F 0).locals.toNat As=_;rw[hL];simp
  rw[e];simp only[List.length_replicate];refine Or.inr ⟨w.heap.size+2,L,_,rfl,by omega,by simp,b2,Te _,by unfold maxLen;omega,by simp[Bm,size_madeCells],fun i hi=>?_⟩;have hz:(Bm L)[i]?=some (.int .i64 0):=by
   have:i % 2=0\/i % 2=1:=by omega
   rcases this with e|e<;>simp[Bm,madeCells,hi,e]
  rw[hz];have hg:(List.replicate L As).getD (i / 2) As=As:=by
   rw[Tj,List.getElem?_replicate];split<;>rfl
  unfold Ar;rw[hg];split<;>rfl
 ·obtain rfl:i=0:=by have:i<1:=hi;omega
  exact Ae.nil _ _ _ _ _ _ _
def O3(w:World)(F:Nat->PF)(E:List Ev)(fuel:Int)(e:Ending)(w':World):Prop:=∃ rb,e=.returned (.pointer (some ⟨rb,0,none⟩))/\Below w.heap.size w w'/\∃ A:Ad,Al w' w.heap.size rb A (C2 (Bk F E fuel))
theorem I4(w:World)(m:Nat)(pv ev:Value)(F:Nat->PF)(K:Nat->Nat->Bool)(H:Nat->Nat->Int)(E:List Ev)(fuel:Int)(hPg:Pg w w.heap.size pv m F)(hF:AP m F K H)(hE:Ec m E)(hEv:Bs w w.heap.size ev E) :
  Calls prog 57 #[pv,ev,.int .i64 fuel] w (O3 w F E fuel):=by
 have hl:=(hF.fn 0 hF.size.1).locals;obtain⟨L,hL⟩:∃ L:Nat,(F 0).locals=L:=⟨(F 0).locals.toNat,by omega⟩
 have hL8:L<=8:=by omega
 have hmk:=fun wx=>Fs (L:Int) (by omega) (by omega) wx
 simp only[Int.toNat_natCast] at hmk;obtain⟨A0,l0,p0⟩:=Qv w pv F L hL hL8;obtain⟨pb,po,pc,CA,CC,hpv,hPA,hpb,_⟩:=hPg.at_;obtain⟨ep,ec,rfl,hec,hecs⟩:=hEv;have a1:=(hPA.fn 0 hF.size.1).locals;rw[hL] at a1;simp only[Nat.zero_mul,Nat.add_zero] at a1;subst hpv;have hm1:(0:Int)<(m:Int):=by have:=hF.size.1;omega
 have hfl:=EI fuel;have hfew:=hE.few;have HX:=Aa (Tc l0 (Tc p0 (Tc hPg (Tc hF (Tc hE hecs)))));clear l0 p0 hPg hF hPA hl hE hecs;go_enter func57,ntmps57
 go_upto_if 10 with fail
 go_cut [2] from 9 to 10 (fun v wc=>(∃ fu2:Int,v=.int .i64 fu2/\∀ j:Nat,j<=AX fuel->(fu2<=(j:Int)↔AX fuel<=j))/\wc=w)
 case first =>
  by_cases hf:fuel<=100000
  ·have hd:decide (100000<fuel)=false:=by simp;omega
   go_wp2_with fail
   go_meet;exact⟨⟨fuel,rfl,fun j hj=>by unfold AX at *;omega⟩,rfl⟩
  ·have hd:decide (100000<fuel)=true:=by simp;omega
   go_wp2_with fail
   go_meet;exact⟨⟨100000,rfl,fun j hj=>by unfold AX at *;omega⟩,rfl⟩
 case rest =>
  obtain⟨⟨fu2,rfl,hfu⟩,rfl⟩:=hcut;have HFU:=Aa hfu;clear hfu;obtain⟨l0,p0,hPg,hF,hE,hecs⟩:=HX.out;have hB0:Below wc.heap.size wc ((((wc.alloc (.cells #[.bool false] 4)).alloc (.cells #[.slice (some ⟨pb,po,none⟩) m pc,.slice (some ⟨wc.heap.size+1+1+1,0,none⟩) 1 1,.slice none 0 0,.slice none 0 0,.int .i64 0,.int .i64 0,.int .i64 0,.int .i64 0,.slice (some ⟨wc.heap.size,0,none⟩) 1 1,.bool false,.bool false,.bool false,.bool false,.bool false,.bool false,.bool false,.bool false,.int .i64 0,.int .i64 0,.int .i64 0] 155)).alloc (.cells (Bm L) 43)).alloc (.cells #[.int .i64 0,.int .i64 0,.slice (some ⟨wc.heap.size+1+1,0,none⟩) L L,.slice none 0 0] 73)) :=
   ((((Tu _ _).alloc (Te _) _).alloc (by simp) _).alloc (by simp;omega) _).alloc (by simp;omega) _
  have HS:=Aa (show GV wc (wc.heap.size+1) (.slice (some ⟨pb,po,none⟩) m pc) m F K H E (AX fuel) (AX fuel) (.int .i64 0) _ from ⟨0,0,by omega,Tt _,rfl,A0,_,l0,p0,hB0,Em.start hF hE⟩);have HG:=Aa (Tc hPg (Tc hF hE));have HEC:=Aa hecs;clear l0 p0 hPg hF hB0 HX hE hecs;go_wp2_with fail
  go_loopg [8] (AX fuel) (fun gk at0 wr=>GV wc (wc.heap.size+1) (.slice (some ⟨pb,po,none⟩) m pc) m F K H E (AX fuel) gk at0 wr)
  case atStart=>exact HS.out
  case round =>
   clear HS a1 hmk hpb;obtain⟨j,a0,hj,ha0,rfl,A0',s0,l0,p0,hB0,hS0⟩:=hrel;have hgj:j<=AX fuel:=by omega
   have r7:wr.cell? ⟨wc.heap.size+1,7,none⟩=some (.int .i64 s0.fin):=Ag.cell l0 7;by_cases hz:s0.fin=0
   ·have hz0:(s0.fin==0)=true:=by simpa using hz
    obtain⟨g0,hg0⟩:∃ g0,a0+g0=E.length:=⟨E.length-a0,by omega⟩
    have HM:=Aa (show IL wc (wc.heap.size+1) (.slice (some ⟨pb,po,none⟩) m pc) m F K H E j g0 (.int .i64 a0) wr from ⟨a0,hg0,rfl,A0',s0,l0,p0,hB0,hS0.mid hz⟩);rw[hz] at r7;clear l0 p0 hB0 hS0 hz;go_wp2_with fail
    go_loopg [8] g0 (fun g1 at1 wz9=>IL wc (wc.heap.size+1) (.slice (some ⟨pb,po,none⟩) m pc) m F K H E j g1 at1 wz9)
    case atStart=>exact HM.out
    case round =>
     clear HM r7 hz0;obtain⟨a,hg1,rfl,A1,s,l1,p1,hB1,hM⟩:=hrel;have r6:wr.cell? ⟨wc.heap.size+1,6,none⟩=some (.int .i64 s.steps):=Ag.cell l1 6;have r7:wr.cell? ⟨wc.heap.size+1,7,none⟩=some (.int .i64 s.fin):=Ag.cell l1 7;have z7:wr.frozen? ⟨wc.heap.size+1,7,none⟩=false:=Ag.frozen l1 7;rw[hM.steps] at r6;have i0:(0:Int)<=(a:Int):=by omega
     by_cases hlt:a<E.length
     ·have hdr:E.drop a=E.getD a ⟨0,0,0⟩::E.drop (a+1):=by
       rw[List.drop_eq_getElem_cons hlt,Tj,List.getElem?_eq_getElem hlt];rfl
      obtain⟨eb,eo,rfl,heb,hcs⟩:=HEC.out (by intro e;rw[e] at hlt;simp at hlt);obtain⟨k0,k1,k2⟩:=hcs a hlt;have k0:=(hB1.cell (p:=⟨eb,eo+a * 3,none⟩) heb).trans k0;have k1:=(hB1.cell (p:=⟨eb,eo+a * 3+1,none⟩) heb).trans k1;have k2:=(hB1.cell (p:=⟨eb,eo+a * 3+2,none⟩) heb).trans k2;rw[hdr] at hM;generalize E.getD a ⟨0,0,0⟩=ev at *;have hd1:decide ((a:Int)<(E.length:Int))=true:=by simp;omega
      have hd1':decide (a<E.length)=true:=by simp;omega
      have i1:(a:Int)<(E.length:Int):=by omega
      have HT:=Aa (fun (X:World) (hX:Below wr.heap.size wr X)=>PY X wc.heap.size (wc.heap.size+1) m A1 s F K H ev (l1.below hX) (by rw[p1];exact HG.out.1.below (hB1.trans (hX.mono hB1.size))) HG.out.2.1 hM.inv (hM.ok ev Ti) (by have:=hM.room.1;omega) (by have:=hM.room.2;omega));have HY:=Aa (Tc l1 (Tc p1 (Tc hB1 hM)));have HDR:=Aa hdr;clear l1 p1 hB1 hM hdr hcs;by_cases hst:ev.st<=(j:Int)
      ·have hd2:decide (ev.st<=(j:Int))=true:=by simpa using hst
       go_wp2_with fail
       go_quiet (fail)
       go_wp2_with fail
       refine(HT.out _ (below_drewN (Tu _ _) nq)).mono ?_;rintro e w2 ⟨rfl,A2,l2,p2,c2⟩;obtain⟨g2,hg2⟩:∃ g2,a+1+g2=E.length:=⟨E.length-(a+1),by omega⟩
       have HN:=Aa (show IL wc (wc.heap.size+1) (.slice (some ⟨pb,po,none⟩) m pc) m F K H E j g2 (.int .i64 (a+1:Nat)) w2 from by
        obtain⟨l1,p1,hB1,hM⟩:=HY.out;refine⟨a+1,hg2,rfl,A2,_,l2,p2.trans p1,?_,hM.come hst⟩;have hb:Below wr.heap.size wr (wr.drewN nq):=below_drewN (Tu _ _) nq;exact(hB1.trans (hb.mono hB1.size)).trans (c2.below (by have:=hB1.size;simpa using this)))
       have hv1:((a+1:Nat):Int)=(a:Int)+1:=by omega
       rw[hv1] at HN;clear l2 p2 c2 HT HY hv1 hst k0 k1 k2 r6 r7 z7;go_wp2;go_roundg g2
       case measure=>omega
       case rel=>exact HN.out
      ·have hd2:decide (ev.st<=(j:Int))=false:=by simpa using hst
       have HE:=Aa (show AO F (AC F) E j=(s,E.drop a) from by rw[HDR.out];exact HY.out.2.2.2.done (Or.inr ⟨ev,_,rfl,hst⟩));have HYR:=HY.out;rw[<-HDR.out] at HYR;have HY:=Aa HYR;clear HYR hst;by_cases hjf:AX fuel<=j
       ·have hle:=(HFU.out j (by omega)).2 hjf;have hd:decide (fu2<=(j:Int))=true:=by simpa using hle
        have HQ:=Aa (fun (X:World) (hX:Below wr.heap.size wr X)=>(show Below wc.heap.size wc (X.setCell ⟨wc.heap.size+1,7,none⟩ (.int .i64 2))/\∃ A:Ad,Al (X.setCell ⟨wc.heap.size+1,7,none⟩ (.int .i64 2)) wc.heap.size (wc.heap.size+1) A (C2 (Bk F E fuel)) from by
         obtain⟨l1,p1,hB1,hM⟩:=HY.out;have e0:j=AX fuel:=by omega
         have e1:Bk F E fuel=s:=by unfold Bk;rw[<-e0,HE.out]
         have e2:C2 s={s with fin:=2}:=by unfold C2 Ca;rw[if_pos hM.fin]
         rw[e1,e2];obtain⟨l2,_⟩:=(l1.below hX).ownset 7 (.int .i64 2) (s':={s with fin:=2}) rfl rfl rfl rfl rfl;exact⟨(hB1.trans (hX.mono hB1.size)).setCell (by show wc.heap.size<=wc.heap.size+1;omega) _,A1,l2⟩))
        clear HY HT HE HG;go_wp2_with fail
        go_quiet (fail)
        have HV:=Aa (HQ.out _ (below_drewN (Tu _ _) nq));clear HQ;go_wp2;go_ret;exact⟨_,rfl,HV.out⟩
       ·have hle:¬fu2<=(j:Int):=fun h=>hjf ((HFU.out j (by omega)).1 h)
        have hd:decide (fu2<=(j:Int))=false:=by simpa using hle
        obtain⟨g2,hg2⟩:∃ g2,j+1+g2=AX fuel:=⟨AX fuel-(j+1),by omega⟩
        have HU:=Aa (fun (X:World) (hX:Below wr.heap.size wr X)=>(show Calls prog 82 #[.pointer (some ⟨wc.heap.size+1,0,none⟩)] X (JL X wc.heap.size (wc.heap.size+1) A1 (AA F s)) from by
         obtain⟨l1,p1,hB1,hM⟩:=HY.out;obtain⟨hPg,hF,hE⟩:=HG.out;have hbd:=hM.bd;have hst:=hM.steps;have Av:=EX hF j;have h6:=FU hF hE.rise hE.ok j;rw[HE.out] at h6;exact KA X wc.heap.size (wc.heap.size+1) m A1 s F K H (l1.below hX) (by rw[p1];exact hPg.below (hB1.trans (hX.mono hB1.size))) (Nat.le_trans hB1.size hX.size) hF hM.inv hM.low hM.fin (by omega) (by have:=hbd.out;omega) (by have:=hbd.arr;omega) (by have:=hbd.cH;omega) (fun i=>by
          by_cases hi:i<s.arr.length
          ·have:=Av.1.al _ (by rw[<-h6.arr];exact Ij hi);exact this
          ·rw[Tj,List.getElem?_eq_none (by omega)];exact Tt _)))
        clear HT;go_wp2_with fail
        go_quiet (fail)
        go_wp2_with fail
        refine(HU.out _ (below_drewN (Tu _ _) nq)).mono ?_;rintro e w2 ⟨rfl,A2,l2,p2,c2⟩;have HN:=Aa (show GV wc (wc.heap.size+1) (.slice (some ⟨pb,po,none⟩) m pc) m F K H E (AX fuel) g2 (.int .i64 a) w2 from by
         obtain⟨l1,p1,hB1,hM⟩:=HY.out;refine⟨j+1,a,hg2,by omega,rfl,A2,_,l2,p2.trans p1,?_,hM.next HG.out.2.1 HE.out⟩;have hb:Below wr.heap.size wr (wr.drewN nq):=below_drewN (Tu _ _) nq;exact(hB1.trans (hb.mono hB1.size)).trans (c2.below (by have:=hB1.size;simpa using this)))
        clear l2 p2 c2 HU HY HE;go_wp2;go_roundg g2
        case measure=>omega
        case rel=>exact HN.out
     ·have hd1:decide ((a:Int)<(E.length:Int))=false:=by simp;omega
      have hd1':decide (a<E.length)=false:=by simp;omega
      have hdr:E.drop a=[]:=List.drop_eq_nil_of_le (by omega);have HE:=Aa (show AO F (AC F) E j=(s,E.drop a) from by rw[hdr] at hM ⊢;exact hM.done (Or.inl rfl));have HY:=Aa (Tc l1 (Tc p1 (Tc hB1 hM)));have HT:=Aa True.intro;clear l1 p1 hB1 hM hdr;by_cases hjf:AX fuel<=j
      ·have hle:=(HFU.out j (by omega)).2 hjf;have hd:decide (fu2<=(j:Int))=true:=by simpa using hle
       have HQ:=Aa (fun (X:World) (hX:Below wr.heap.size wr X)=>(show Below wc.heap.size wc (X.setCell ⟨wc.heap.size+1,7,none⟩ (.int .i64 2))/\∃ A:Ad,Al (X.setCell ⟨wc.heap.size+1,7,none⟩ (.int .i64 2)) wc.heap.size (wc.heap.size+1) A (C2 (Bk F E fuel)) from by
        obtain⟨l1,p1,hB1,hM⟩:=HY.out;have e0:j=AX fuel:=by omega
        have e1:Bk F E fuel=s:=by unfold Bk;rw[<-e0,HE.out]
        have e2:C2 s={s with fin:=2}:=by unfold C2 Ca;rw[if_pos hM.fin]
        rw[e1,e2];obtain⟨l2,_⟩:=(l1.below hX).ownset 7 (.int .i64 2) (s':={s with fin:=2}) rfl rfl rfl rfl rfl;exact⟨(hB1.trans (hX.mono hB1.size)).setCell (by show wc.heap.size<=wc.heap.size+1;omega) _,A1,l2⟩))
       clear HY HT HE HG;go_wp2_with fail
       go_quiet (fail)
       have HV:=Aa (HQ.out _ (below_drewN (Tu _ _) nq));clear HQ;go_wp2;go_ret;exact⟨_,rfl,HV.out⟩
      ·have hle:¬fu2<=(j:Int):=fun h=>hjf ((HFU.out j (by omega)).1 h)
       have hd:decide (fu2<=(j:Int))=false:=by simpa using hle
       obtain⟨g2,hg2⟩:∃ g2,j+1+g2=AX fuel:=⟨AX fuel-(j+1),by omega⟩
       have HU:=Aa (fun (X:World) (hX:Below wr.heap.size wr X)=>(show Calls prog 82 #[.pointer (some ⟨wc.heap.size+1,0,none⟩)] X (JL X wc.heap.size (wc.heap.size+1) A1 (AA F s)) from by
        obtain⟨l1,p1,hB1,hM⟩:=HY.out;obtain⟨hPg,hF,hE⟩:=HG.out;have hbd:=hM.bd;have hst:=hM.steps;have Av:=EX hF j;have h6:=FU hF hE.rise hE.ok j;rw[HE.out] at h6;exact KA X wc.heap.size (wc.heap.size+1) m A1 s F K H (l1.below hX) (by rw[p1];exact hPg.below (hB1.trans (hX.mono hB1.size))) (Nat.le_trans hB1.size hX.size) hF hM.inv hM.low hM.fin (by omega) (by have:=hbd.out;omega) (by have:=hbd.arr;omega) (by have:=hbd.cH;omega) (fun i=>by
         by_cases hi:i<s.arr.length
         ·have:=Av.1.al _ (by rw[<-h6.arr];exact Ij hi);exact this
         ·rw[Tj,List.getElem?_eq_none (by omega)];exact Tt _)))
       clear HT;go_wp2_with fail
       go_quiet (fail)
       go_wp2_with fail
       refine(HU.out _ (below_drewN (Tu _ _) nq)).mono ?_;rintro e w2 ⟨rfl,A2,l2,p2,c2⟩;have HN:=Aa (show GV wc (wc.heap.size+1) (.slice (some ⟨pb,po,none⟩) m pc) m F K H E (AX fuel) g2 (.int .i64 a) w2 from by
        obtain⟨l1,p1,hB1,hM⟩:=HY.out;refine⟨j+1,a,hg2,by omega,rfl,A2,_,l2,p2.trans p1,?_,hM.next HG.out.2.1 HE.out⟩;have hb:Below wr.heap.size wr (wr.drewN nq):=below_drewN (Tu _ _) nq;exact(hB1.trans (hb.mono hB1.size)).trans (c2.below (by have:=hB1.size;simpa using this)))
       clear l2 p2 c2 HU HY HE;go_wp2;go_roundg g2
       case measure=>omega
       case rel=>exact HN.out
   ·have hz0:(s0.fin==0)=false:=by simpa using hz
    have HQ:=Aa (show ∃ A:Ad,Al wr wc.heap.size (wc.heap.size+1) A (C2 (Bk F E fuel)) from by
     have e1:Bk F E fuel=s0:=hS0.stay hz (AX fuel) (by omega);have e2:C2 s0=s0:=by unfold C2 Ca;rw[if_neg hz]
     rw[e1,e2];exact⟨A0',l0⟩)
    have HB:=Aa hB0;clear l0 p0 hB0 hS0 hz HG HEC;go_wp2;go_ret;exact⟨_,rfl,HB.out,HQ.out⟩
theorem Ly(w:World)(m:Nat)(pv:Value)(F:Nat->PF)(K:Nat->Nat->Bool)(H:Nat->Nat->Int)(fuel:Int)(hPg:Pg w w.heap.size pv m F)(hF:AP m F K H) :
  Calls prog 57 #[pv,.slice none 0 0,.int .i64 fuel] w fun e w'=>∃ rb,e=.returned (.pointer (some ⟨rb,0,none⟩))/\Below w.heap.size w w'/\∃ A:Ad,Al w' w.heap.size rb A (C2 (Bl F fuel)):=by
 refine(I4 w m pv (.slice none 0 0) F K H [] fuel hPg hF (Ec.nil m) ⟨none,0,rfl,Te _,fun h=>absurd rfl h⟩).mono ?_;rintro e w' ⟨rb,h1,h2,h3⟩;rw[KO] at h3;exact⟨rb,h1,h2,h3⟩
end Go.Proofs.YtkafkipjedpohaaGreatDoor
namespace Go.Proofs.YtkafkipjedpohaaGreatDoor
set_option maxRecDepth 100000
set_option maxHeartbeats 16000000
open Go.RowKit _root_.Go.Proofs.Tryz
theorem Nn(w:World)(v u:Value)(l:List V)(h1:Cq w v l)(h2:Cq w u l)(hl:l.length<=200000) :
  Calls prog 80 #[v,u] w fun e w'=>e=.returned (.bool true)/\∃ k,w'=w.drewN k:=by
 obtain⟨p1,c1,rfl⟩:=h1.any;obtain⟨p2,c2,rfl⟩:=h2.any;have HA:=Aa (Tc h1 h2);clear h1 h2;generalize hn:l.length=n at *;have HN:=Aa hn;clear hn;go_enter func80,ntmps80
 go_wp2;go_loopw [5] (fun v wr=>∃ j:Nat,j<=n/\v=.int .i64 j/\∃ k,wr=w.drewN k) (fun v _=>n-(intOf v).toNat)
 case atStart=>exact⟨0,by omega,rfl,0,rfl⟩
 case round =>
  obtain⟨j,hj,rfl,k,hk⟩:=hrel;subst hk;by_cases hlt:j<n
  ·have hdec:decide ((j:Int)<(n:Int))=true:=by simp;omega
   obtain⟨b1,e1,x0,x1⟩:=HA.out.1.at_ (i:=j) (by rw[HN.out];exact hlt);obtain⟨b2,e2,y0,y1⟩:=HA.out.2.at_ (i:=j) (by rw[HN.out];exact hlt);subst e1 e2;have i0:(0:Int)<=(j:Int):=by omega
   have i1:(j:Int)<(n:Int):=by omega
   generalize l.getD j As=x at *;have hne:=Po x;go_wp2_with fail
   go_quiet (fail)
   go_wp2;exact⟨⟨j+1,by omega,by go_num,_,rfl⟩,by simp[intOf];omega⟩
  ·have hdec:decide ((j:Int)<(n:Int))=false:=by simp;omega
   go_wp2;go_ret;exact⟨rfl,k,rfl⟩
theorem Is(w:World)(v u:Value)(l:List V)(h1:Cq w v l)(h2:Cq w u l)(hl:l.length<=200000) :
  Calls prog 80 #[v,u] w fun e w'=>e=.returned (.bool true)/\Below w.heap.size w w':=by
 refine(Nn w v u l h1 h2 hl).mono ?_;rintro e w' ⟨rfl,k,rfl⟩;exact⟨rfl,below_drewN (Tu _ _) _⟩
theorem Lg(w:World)(B rb:Nat)(A:Ad)(s:Mc)(v:Value)(hL:Al w B rb A s)(h1:Cq w v s.out)(hl:s.out.length<=200000) :
  Calls prog 56 #[Dj s.fin s v,.pointer (some ⟨rb,0,none⟩)] w fun e w'=>e=.returned (.bool true)/\Below w.heap.size w w':=by
 have h2:Cq w A.ov s.out:=(Ag.out hL).args;obtain⟨p1,c1,rfl⟩:=h1.any;obtain⟨p2,c2,hov⟩:=h2.any;have k3:w.cell? ⟨rb,3,none⟩=some (.slice p2 s.out.length c2):=by rw[Ag.cell hL 3,<-hov];rfl
 have k4:w.cell? ⟨rb,4,none⟩=some (.int .i64 s.gives.k):=Ag.cell hL 4;have k5:w.cell? ⟨rb,5,none⟩=some (.int .i64 s.gives.n):=Ag.cell hL 5;have k6:w.cell? ⟨rb,6,none⟩=some (.int .i64 s.steps):=Ag.cell hL 6;have k7:w.cell? ⟨rb,7,none⟩=some (.int .i64 s.fin):=Ag.cell hL 7;have hrz:=Ag.lt hL;rw[hov] at h2;unfold Dj;generalize s.gives=g at *;generalize s.fin=en at *;obtain⟨st,hst⟩:∃ st:Int,st=(s.steps:Int):=⟨_,rfl⟩
 rw[<-hst] at k6 ⊢;have e1:(en==en)=true:=by simp
 have e2:(st==st)=true:=by simp
 have e3:=G4 g g true (by simp);have hW:Below w.heap.size w (w.alloc (.cells #[.int .i64 en,.int .i64 st,.int .i64 g.k,.int .i64 g.n,.slice p1 s.out.length c1] 46)):=(Tu _ _).alloc (Te _) _;have r1:(w.alloc (.cells #[.int .i64 en,.int .i64 st,.int .i64 g.k,.int .i64 g.n,.slice p1 s.out.length c1] 46)).heap[w.heap.size]?=some (.cells #[.int .i64 en,.int .i64 st,.int .i64 g.k,.int .i64 g.n,.slice p1 s.out.length c1] 46 (0,0)):=Tv _ _;have HV:=Aa (Tc (h1.below hW) (h2.below hW));have HW:=Aa (Tc hW r1);have a4:(w.alloc (.cells #[.int .i64 en,.int .i64 st,.int .i64 g.k,.int .i64 g.n,.slice p1 s.out.length c1] 46)).cell? ⟨w.heap.size,4,none⟩=some (.slice p1 s.out.length c1):=(Ab r1).trans rfl;have kk:∀ i v,w.cell? ⟨rb,i,none⟩=some v->(w.alloc (.cells #[.int .i64 en,.int .i64 st,.int .i64 g.k,.int .i64 g.n,.slice p1 s.out.length c1] 46)).cell? ⟨rb,i,none⟩=some v:=fun i v h=>(hW.cell (p:=⟨rb,i,none⟩) hrz).trans h
 have a3:=kk 3 _ k3;have HK:=Aa (Tc (kk 4 _ k4) (Tc (kk 5 _ k5) (Tc (kk 6 _ k6) (kk 7 _ k7))));have hrz2:rb<(w.alloc (.cells #[.int .i64 en,.int .i64 st,.int .i64 g.k,.int .i64 g.n,.slice p1 s.out.length c1] 46)).heap.size:=by simp;omega
 have hoz:w.heap.size<(w.alloc (.cells #[.int .i64 en,.int .i64 st,.int .i64 g.k,.int .i64 g.n,.slice p1 s.out.length c1] 46)).heap.size:=by simp
 clear h1 h2 hW r1 k3 k4 k5 k6 k7 kk hL hst hov;go_enter func56,ntmps56
 go_wp2_with fail
 generalize w.alloc (.cells #[.int .i64 en,.int .i64 st,.int .i64 g.k,.int .i64 g.n,.slice p1 s.out.length c1] 46)=W at *;refine AG (fun w'=>w'.cell? ⟨w.heap.size,4,none⟩=some (.slice p1 s.out.length c1)/\w'.cell? ⟨rb,3,none⟩=some (.slice p2 s.out.length c2)) [(false,0),(false,1),(false,2),(false,3),(false,4),(false,5),(true,6),(false,7)] (by kernel_rfl) (by kernel_rfl) (Co _ _ _) ⟨a4,a3⟩ ?_;simp only[lexL,Tl,Tm];iterate 6 (refine Aw (by rfl) (by intro w' hS';obtain⟨o0,o1⟩:=hS';go_simp;exact rfl) ?_;simp only[Act.put,Td,Th,Tg])
 refine Az (fun K hK=>?_);go_simp;refine(Is W.drew _ _ s.out (HV.out.1.below (Tu _ _).drew) (HV.out.2.below (Tu _ _).drew) hl).mono ?_;rintro e w2 ⟨rfl,hB2⟩;refine hK.out _ _ ⟨(hB2.cell (p:=⟨w.heap.size,4,none⟩) hoz).trans a4,(hB2.cell (p:=⟨rb,3,none⟩) hrz2).trans a3⟩ ?_;clear hK K;refine Aw (by rfl) (by intro w' hS';go_simp;exact rfl) ?_;simp only[Act.put,Td,Th,Tg];refine AF ?_;obtain⟨hW,r1⟩:=HW.out;have q1:=(hB2.block _ (Ah r1)).trans r1;have x0:w2.cell? ⟨w.heap.size,0,none⟩=some (.int .i64 en):=(Ab q1).trans rfl;have x1:w2.cell? ⟨w.heap.size,1,none⟩=some (.int .i64 st):=(Ab q1).trans rfl;have x2:w2.cell? ⟨w.heap.size,2,none⟩=some (.int .i64 g.k):=(Ab q1).trans rfl;have x3:w2.cell? ⟨w.heap.size,3,none⟩=some (.int .i64 g.n):=(Ab q1).trans rfl;obtain⟨k4,k5,k6,k7⟩:=HK.out;have y4:=(hB2.cell (p:=⟨rb,4,none⟩) hrz2).trans k4;have y5:=(hB2.cell (p:=⟨rb,5,none⟩) hrz2).trans k5;have y6:=(hB2.cell (p:=⟨rb,6,none⟩) hrz2).trans k6;have y7:=(hB2.cell (p:=⟨rb,7,none⟩) hrz2).trans k7;have HB:=Aa (hW.trans ((show Below W.heap.size W w2 from (Tu _ _).drew.trans hB2).mono hW.size));clear hW r1 q1 hB2 HW HV HK k4 k5 k6 k7 a3 a4;go_wp2_with fail
 go_quiet (fail)
 go_wp2;go_ret;exact⟨rfl,below_drewN HB.out _⟩
def F6(w:World)(p:Option Addr)(fr:Nat->Fr)(n:Nat):Prop :=
 ∃ LV SV:Nat->Value,∀ i,i<n->∃ b,p=some ⟨b,0,none⟩/\b<w.heap.size/\w.cell? ⟨b,i * 4,none⟩=some (.int .i64 (fr i).fn)/\w.cell? ⟨b,i * 4+1,none⟩=some (.int .i64 (fr i).pc)/\w.cell? ⟨b,i * 4+2,none⟩=some (LV i)/\w.cell? ⟨b,i * 4+3,none⟩=some (SV i)/\Cq w (LV i) (fr i).loc/\Cq w (SV i) (fr i).stk.reverse
def F3(w:World)(p:Option Addr)(arr:List (List V))(n:Nat):Prop :=
 ∃ AV:Nat->Value,∀ i,i<n->∃ b,p=some ⟨b,0,none⟩/\b<w.heap.size/\w.cell? ⟨b,i,none⟩=some (AV i)/\Cq w (AV i) (arr.getD i [])
section
variable {w:World}{B n c:Nat}{p:Option Addr}{tag:Nat->Nat}
theorem F6.below{w':World}{fr:Nat->Fr}(h:F6 w p fr n)(k:Below w.heap.size w w'):F6 w' p fr n:=by
 obtain⟨LV,SV,h⟩:=h;refine⟨LV,SV,fun i hi=>?_⟩;obtain⟨b,e,hz,h0,h1,h2,h3,h4,h5⟩:=h i hi;exact⟨b,e,Ts hz k.size,(k.cell (p:=⟨b,_,none⟩) hz).trans h0,(k.cell (p:=⟨b,_,none⟩) hz).trans h1,(k.cell (p:=⟨b,_,none⟩) hz).trans h2,(k.cell (p:=⟨b,_,none⟩) hz).trans h3,h4.below k,h5.below k⟩
theorem F3.below{w':World}{arr:List (List V)}(h:F3 w p arr n)(k:Below w.heap.size w w'):F3 w' p arr n:=by
 obtain⟨AV,h⟩:=h;refine⟨AV,fun i hi=>?_⟩;obtain⟨b,e,hz,h0,h4⟩:=h i hi;exact⟨b,e,Ts hz k.size,(k.cell (p:=⟨b,_,none⟩) hz).trans h0,h4.below k⟩
theorem MI{v:Value}{l:List V}(h:Ae w B tag c 43 2 v l.length (Ar l.reverse)):Cq w v l.reverse:=by
 have:Ae w B tag c 43 2 v l.reverse.length (Ar l.reverse):=by rw[List.length_reverse];exact h
 exact this.args
theorem Cc.frin{k:Nat}{LV SV:Nat->Value}{fr:Nat->Fr}(h:Cc w B tag (.slice p n c) LV SV fr k):F6 w p fr k:=by
 refine⟨LV,SV,fun i hi=>?_⟩;obtain⟨b,e,hz,h0,h1,h2,h3⟩:=h.at_ hi;exact⟨b,e,hz,h0,h1,h2,h3,(h.loc i hi).args,MI (h.stk i hi)⟩
theorem Cd.arin{k:Nat}{AV:Nat->Value}{arr:List (List V)}(h:Cd w B tag (.slice p n c) AV arr k):F3 w p arr k:=by
 refine⟨AV,fun i hi=>?_⟩;obtain⟨b,e,hz,h0⟩:=h.at_ hi;exact⟨b,e,hz,h0,(h.arr i hi).args⟩
theorem Al.frin{rb:Nat}{A:Ad}{s:Mc}(h:Al w B rb A s):∃ p c,A.fv=.slice p s.fr.length c/\F6 w p (Am s.fr) s.fr.length:=by
 have hr:=Ag.fr h;obtain⟨p,c,e⟩:∃ p c,A.fv=.slice p s.fr.length c:=by
  rcases hr with⟨h1,h2⟩|⟨b,cap,cur,h1,_⟩
  ·exact⟨none,0,by rw[h1,h2]⟩
  ·exact⟨_,_,h1⟩
 refine⟨p,c,e,A.LV,A.SV,fun i hi=>?_⟩;rw[e] at hr;obtain⟨b,cap,e2,_,hz,_,_⟩:=hr.form (by omega);injection e2 with e1 _ e3;subst e1;refine⟨b,rfl,hz,(hr.cell (i:=i * 4) (by omega)).trans (by rw[Iu]),(hr.cell (i:=i * 4+1) (by omega)).trans (by rw[E6]),(hr.cell (i:=i * 4+2) (by omega)).trans (by rw[Gb]),(hr.cell (i:=i * 4+3) (by omega)).trans (by rw[Gd]),(Ag.loc h i hi).args,MI (Ag.stk h i hi)⟩
theorem Al.arin{rb:Nat}{A:Ad}{s:Mc}(h:Al w B rb A s):∃ p c,A.av=.slice p s.arr.length c/\F3 w p s.arr s.arr.length:=by
 have hr:=Ag.ar h;obtain⟨p,c,e⟩:∃ p c,A.av=.slice p s.arr.length c:=by
  rcases hr with⟨h1,h2⟩|⟨b,cap,cur,h1,_⟩
  ·exact⟨none,0,by rw[h1,h2]⟩
  ·exact⟨_,_,h1⟩
 refine⟨p,c,e,A.AV,fun i hi=>?_⟩;rw[e] at hr;obtain⟨b,cap,e2,_,hz,_,_⟩:=hr.form (by omega);injection e2 with e1 _ e3;subst e1;exact⟨b,rfl,hz,hr.cell (i:=i) (by omega),(Ag.arr h i hi).args⟩
end
end Go.Proofs.YtkafkipjedpohaaGreatDoor

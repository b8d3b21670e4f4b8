import Derived.Test.YtkafkipjedpohaaGreatDoorU16
namespace Go.Proofs.YtkafkipjedpohaaGreatDoor
set_option maxRecDepth 100000
set_option maxHeartbeats 16000000
open Go.RowKit _root_.Go.Proofs.Tryz
theorem Bs.mono{w:World}{B B2:Nat}{v:Value}{E:List Ev}(h:Bs w B v E)(hb:B<=B2):Bs w B2 v E:=by
 obtain⟨p,c,h1,h2,h3⟩:=h;refine⟨p,c,h1,h2,fun hE=>?_⟩;obtain⟨eb,eo,e1,e2,e3⟩:=h3 hE;exact⟨eb,eo,e1,by omega,e3⟩
def FO(s:Mc):Value:=.agg #[.int .i64 s.cH,.int .i64 s.cU,.int .i64 s.cD]
theorem SL(w:World)(B mb m:Nat)(F:Nat->PF)(MV:Nat->Value)(A:Af)(s:Mc)(en:Int)(hM:AH w B mb m F MV A s en) :
  Calls prog 46 #[.pointer (some ⟨mb,0,none⟩)] w fun e w'=>e=.returned (FO s)/\Below w.heap.size w w':=by
 have x8:w.cell? ⟨mb,8,none⟩=some (.int .i64 s.cH):=by rw[Ab hM.lay.run,<-hM.cnt.1];rfl
 have x9:w.cell? ⟨mb,9,none⟩=some (.int .i64 s.cU):=by rw[Ab hM.lay.run,<-hM.cnt.2.1];rfl
 have x10:w.cell? ⟨mb,10,none⟩=some (.int .i64 s.cD):=by rw[Ab hM.lay.run,<-hM.cnt.2.2];rfl
 have hmz:=Ah hM.lay.run;have hne:¬mb=w.heap.size:=by omega
 have HQ:=Aa (show Below w.heap.size w (w.alloc (.cells #[.int .i64 s.cH,.int .i64 s.cU,.int .i64 s.cD] 61)) from (Tu _ _).alloc (Te _) _);clear hM;unfold FO;go_enter func46,ntmps46
 go_wp2;exact bodyPost_ret (v:=.agg #[.int .i64 s.cH,.int .i64 s.cU,.int .i64 s.cD]) (by simp[results,Tryz.results46,go_sem]) rfl ⟨rfl,HQ.out⟩
def IG:Value:=.agg #[.int .i64 0,.int .i64 0,.int .i64 0,.int .i64 0,.slice none 0 0]
def JT:Value:=.agg #[.int .i64 0,.int .i64 0,.int .i64 0]
def EJ(w:World)(n:Nat)(a0 a1 a2 a3 a4 c0 c1 c2:Value):World :=
 (((((((w.setCell ⟨n,0,none⟩ a0).setCell ⟨n,1,none⟩ a1).setCell ⟨n,2,none⟩ a2).setCell ⟨n,3,none⟩ a3).setCell ⟨n,4,none⟩ a4).setCell ⟨n+1,0,none⟩ c0).setCell ⟨n+1,1,none⟩ c1).setCell ⟨n+1,2,none⟩ c2
theorem LO{w:World}{n:Nat}(q0:w.heap[n]?=some (.cells #[.int .i64 0,.int .i64 0,.int .i64 0,.int .i64 0,.slice none 0 0] 46 (0,0)))(q1:w.heap[n+1]?=some (.cells #[.int .i64 0,.int .i64 0,.int .i64 0] 61 (0,0)))(a0 a1 a2 a3 a4 c0 c1 c2:Value) :
  (EJ w n a0 a1 a2 a3 a4 c0 c1 c2).heap[n]?=some (.cells #[a0,a1,a2,a3,a4] 46 (0,0))/\(EJ w n a0 a1 a2 a3 a4 c0 c1 c2).heap[n+1]?=some (.cells #[c0,c1,c2] 61 (0,0)):=by
 have g0:=AM (o:=4) (AM (o:=3) (AM (o:=2) (AM (o:=1) (AM (o:=0) q0 a0) a1) a2) a3) a4;have k0:∀ (X:World) (o:Nat) (v:Value),(X.setCell ⟨n,o,none⟩ v).heap[n+1]?=X.heap[n+1]?:=fun X o v=>Tx _ _ _ _ (by dsimp only;omega)
 have k1:∀ (X:World) (o:Nat) (v:Value),(X.setCell ⟨n+1,o,none⟩ v).heap[n]?=X.heap[n]?:=fun X o v=>Tx _ _ _ _ (by dsimp only;omega)
 unfold EJ;refine⟨?_,?_⟩
 ·rw[k1,k1,k1];exact g0
 ·have q1':(((((w.setCell ⟨n,0,none⟩ a0).setCell ⟨n,1,none⟩ a1).setCell ⟨n,2,none⟩ a2).setCell ⟨n,3,none⟩ a3).setCell ⟨n,4,none⟩ a4).heap[n+1]?=some (.cells #[.int .i64 0,.int .i64 0,.int .i64 0] 61 (0,0)):=by rw[k0,k0,k0,k0,k0];exact q1
  exact AM (o:=2) (AM (o:=1) (AM (o:=0) q1' c0) c1) c2
theorem Mj{B:Nat}{u w:World}(h:Below B u w){n:Nat}(hn:B<=n)(a0 a1 a2 a3 a4 c0 c1 c2:Value):Below B u (EJ w n a0 a1 a2 a3 a4 c0 c1 c2) :=
 CH (CH (CH (CH (CH (CH (CH (CH h hn _) hn _) hn _) hn _) hn _) (by omega) _) (by omega) _) (by omega) _
theorem R1{u X w:World}{v:Value}{l:List V}(h:Bh X w v l){n:Nat}(hu:u.heap.size<=X.heap.size)(hn:n+1<X.heap.size)(a0 a1 a2 a3 a4 c0 c1 c2:Value):Bh u (EJ w n a0 a1 a2 a3 a4 c0 c1 c2) v l :=
 (Bh.set (Bh.set (Bh.set (Bh.set (Bh.set (Bh.set (Bh.set (Bh.set (o:=0) h hu (by omega) _).2 (o:=1) hu (by omega) _).2 (o:=2) hu (by omega) _).2 (o:=3) hu (by omega) _).2 (o:=4) hu (by omega) _).2 (o:=0) hu hn _).2 (o:=1) hu hn _).2 (o:=2) hu hn _).1
theorem NU(w:World)(cb pb po pc m:Nat)(fuel:Int)(ev:Value)(E:List Ev)(hc:w.cell? ⟨cb,0,none⟩=some (.slice (some ⟨pb,po,none⟩) m pc))(hm:m<=8)(hEv:Bs w w.heap.size ev E)(hbad:BR m E≠0) :
  Calls prog 26 #[.pointer (some ⟨cb,0,none⟩),ev,.int .i64 fuel] w fun e w'=>e=.returned (.tuple #[IG,JT,.int .i64 (BR m E)])/\Below w.heap.size w w':=by
 have hcz:=Tr w _ hc;have hW:Below w.heap.size w ((w.alloc (.cells #[.int .i64 0,.int .i64 0,.int .i64 0,.int .i64 0,.slice none 0 0] 46)).alloc (.cells #[.int .i64 0,.int .i64 0,.int .i64 0] 61)):=((Tu _ _).alloc (Te _) _).alloc (by simp) _;have hz:((w.alloc (.cells #[.int .i64 0,.int .i64 0,.int .i64 0,.int .i64 0,.slice none 0 0] 46)).alloc (.cells #[.int .i64 0,.int .i64 0,.int .i64 0] 61)).heap.size=w.heap.size+2:=by simp
 have r0:((w.alloc (.cells #[.int .i64 0,.int .i64 0,.int .i64 0,.int .i64 0,.slice none 0 0] 46)).alloc (.cells #[.int .i64 0,.int .i64 0,.int .i64 0] 61)).heap[w.heap.size]?=some (.cells #[.int .i64 0,.int .i64 0,.int .i64 0,.int .i64 0,.slice none 0 0] 46 (0,0)):=(Ty _ _ _ (by simp)).trans (Tv _ _);have r1:((w.alloc (.cells #[.int .i64 0,.int .i64 0,.int .i64 0,.int .i64 0,.slice none 0 0] 46)).alloc (.cells #[.int .i64 0,.int .i64 0,.int .i64 0] 61)).heap[w.heap.size+1]?=some (.cells #[.int .i64 0,.int .i64 0,.int .i64 0] 61 (0,0)):=by
  have:=Tv (w.alloc (.cells #[.int .i64 0,.int .i64 0,.int .i64 0,.int .i64 0,.slice none 0 0] 46)) (.cells #[.int .i64 0,.int .i64 0,.int .i64 0] 61);simpa using this
 have c0:=(hW.cell (p:=⟨cb,0,none⟩) hcz).trans hc;have hcon:=Ig _ ev E (show Bs _ ((w.alloc (.cells #[.int .i64 0,.int .i64 0,.int .i64 0,.int .i64 0,.slice none 0 0] 46)).alloc (.cells #[.int .i64 0,.int .i64 0,.int .i64 0] 61)).heap.size ev E from (hEv.below hW).mono (by omega)) (m:Int) (by omega);obtain⟨ep,ecc,rfl,_⟩:=hEv;have hb:(BR m E != 0)=true:=by simpa using hbad
 have HC:=Aa hcon;have HX:=Aa (Tc hW (Tc r0 (Tc r1 hz)));clear hcon hW r0 r1 hz hc hbad;generalize BR m E=er at *;generalize E.length=el at *;go_enter func26,ntmps26
 go_wp2_with fail
 refine HC.out.mono ?_;rintro e w2 ⟨rfl,hB2⟩;obtain⟨hW,r0,r1,hz⟩:=HX.out;have q0:=(hB2.block w.heap.size (by omega)).trans r0;have q1:=(hB2.block (w.heap.size+1) (by omega)).trans r1;have hB:Below w.heap.size w w2:=hW.trans (hB2.mono (by omega));have y0:w2.cell? ⟨w.heap.size,0,none⟩=some (.int .i64 0):=(Ab q0).trans rfl;have y1:w2.cell? ⟨w.heap.size,1,none⟩=some (.int .i64 0):=(Ab q0).trans rfl;have y2:w2.cell? ⟨w.heap.size,2,none⟩=some (.int .i64 0):=(Ab q0).trans rfl;have y3:w2.cell? ⟨w.heap.size,3,none⟩=some (.int .i64 0):=(Ab q0).trans rfl;have y4:w2.cell? ⟨w.heap.size,4,none⟩=some (.slice none 0 0):=(Ab q0).trans rfl;have z0:=Ax (o:=0) q0;have z1:=Ax (o:=1) q0;have z2:=Ax (o:=2) q0;have z3:=Ax (o:=3) q0;have z4:=Ax (o:=4) q0;have x0:w2.cell? ⟨w.heap.size+1,0,none⟩=some (.int .i64 0):=(Ab q1).trans rfl;have x1:w2.cell? ⟨w.heap.size+1,1,none⟩=some (.int .i64 0):=(Ab q1).trans rfl;have x2:w2.cell? ⟨w.heap.size+1,2,none⟩=some (.int .i64 0):=(Ab q1).trans rfl;have u0:=Ax (o:=0) q1;have u1:=Ax (o:=1) q1;have u2:=Ax (o:=2) q1;have HB:=Aa (Tc hB (Tc q0 q1));clear hB2 hW r0 r1 hz q0 q1 hB HX HC;go_wp2;obtain⟨hB,q0,q1⟩:=HB.out;obtain⟨g0,g1⟩:=LO q0 q1 (.int .i64 0) (.int .i64 0) (.int .i64 0) (.int .i64 0) (.slice none 0 0) (.int .i64 0) (.int .i64 0) (.int .i64 0);have hF:=Mj hB (Te _) (.int .i64 0) (.int .i64 0) (.int .i64 0) (.int .i64 0) (.slice none 0 0) (.int .i64 0) (.int .i64 0) (.int .i64 0);clear y0 y1 y2 y3 y4 z0 z1 z2 z3 z4 x0 x1 x2 u0 u1 u2 q0 q1 hB HB;refine(show bodyPost prog f26 _ _ _ (EJ w2 w.heap.size (.int .i64 0) (.int .i64 0) (.int .i64 0) (.int .i64 0) (.slice none 0 0) (.int .i64 0) (.int .i64 0) (.int .i64 0)) from ?_);generalize EJ w2 w.heap.size (.int .i64 0) (.int .i64 0) (.int .i64 0) (.int .i64 0) (.slice none 0 0) (.int .i64 0) (.int .i64 0) (.int .i64 0)=V at *;have y0:V.cell? ⟨w.heap.size,0,none⟩=some (.int .i64 0):=(Ab g0).trans rfl;have y1:V.cell? ⟨w.heap.size,1,none⟩=some (.int .i64 0):=(Ab g0).trans rfl;have y2:V.cell? ⟨w.heap.size,2,none⟩=some (.int .i64 0):=(Ab g0).trans rfl;have y3:V.cell? ⟨w.heap.size,3,none⟩=some (.int .i64 0):=(Ab g0).trans rfl;have y4:V.cell? ⟨w.heap.size,4,none⟩=some (.slice none 0 0):=(Ab g0).trans rfl;have x0:V.cell? ⟨w.heap.size+1,0,none⟩=some (.int .i64 0):=(Ab g1).trans rfl;have x1:V.cell? ⟨w.heap.size+1,1,none⟩=some (.int .i64 0):=(Ab g1).trans rfl;have x2:V.cell? ⟨w.heap.size+1,2,none⟩=some (.int .i64 0):=(Ab g1).trans rfl;exact bodyPost_ret (v:=.tuple #[IG,JT,.int .i64 er]) (by simp[results,Tryz.results26,go_sem,y0,y1,y2,y3,y4,x0,x1,x2,IG,JT]) rfl ⟨rfl,hF⟩
theorem NE(w:World)(cb pb po pc m:Nat)(F:Nat->PF)(K:Nat->Nat->Bool)(H:Nat->Nat->Int)(CA:Nat->Option Addr)(CC:Nat->Nat)(fuel:Int)(ev:Value)(E:List Ev)(hc:w.cell? ⟨cb,0,none⟩=some (.slice (some ⟨pb,po,none⟩) m pc))(hP:BD w pb po m F CA CC)(hcc:∀ k,k<m->(F k).cn<=CC k)(hF:AP m F K H)(hEv:Bs w w.heap.size ev E)(hok:BR m E=0) :
  Calls prog 26 #[.pointer (some ⟨cb,0,none⟩),ev,.int .i64 fuel] w fun e w'=>∃ v,e=.returned (.tuple #[Dj (Ca (Bk F E fuel)) (Bk F E fuel) v,FO (Bk F E fuel),.int .i64 0])/\Below w.heap.size w w'/\Bh w w' v (Bk F E fuel).out:=by
 have hm:=hF.size;have hEok:Ec m E:=by
  unfold BR at hok;by_cases h200:200<E.length
  ·rw[if_pos h200] at hok;omega
  ·rw[if_neg h200] at hok;by_cases he:BL m 0 E=true
   ·obtain⟨k1,k2⟩:=Jv (Int.le_refl 0) he;exact⟨k1,k2,by omega⟩
   ·rw[if_neg he] at hok;omega
 have hout:(Bk F E fuel).out.length<=200000:=by
  have h6:=FU hF hEok.rise hEok.ok (AX fuel);have:=(EX hF (AX fuel)).2.2;have:=EI fuel;show (AO F (AC F) E (AX fuel)).1.out.length<=200000;rw[h6.out];omega
 have hcz:=Tr w _ hc;have hW:Below w.heap.size w ((w.alloc (.cells #[.int .i64 0,.int .i64 0,.int .i64 0,.int .i64 0,.slice none 0 0] 46)).alloc (.cells #[.int .i64 0,.int .i64 0,.int .i64 0] 61)):=((Tu _ _).alloc (Te _) _).alloc (by simp) _;have hz:((w.alloc (.cells #[.int .i64 0,.int .i64 0,.int .i64 0,.int .i64 0,.slice none 0 0] 46)).alloc (.cells #[.int .i64 0,.int .i64 0,.int .i64 0] 61)).heap.size=w.heap.size+2:=by simp
 have r0:((w.alloc (.cells #[.int .i64 0,.int .i64 0,.int .i64 0,.int .i64 0,.slice none 0 0] 46)).alloc (.cells #[.int .i64 0,.int .i64 0,.int .i64 0] 61)).heap[w.heap.size]?=some (.cells #[.int .i64 0,.int .i64 0,.int .i64 0,.int .i64 0,.slice none 0 0] 46 (0,0)):=(Ty _ _ _ (by simp)).trans (Tv _ _);have r1:((w.alloc (.cells #[.int .i64 0,.int .i64 0,.int .i64 0,.int .i64 0,.slice none 0 0] 46)).alloc (.cells #[.int .i64 0,.int .i64 0,.int .i64 0] 61)).heap[w.heap.size+1]?=some (.cells #[.int .i64 0,.int .i64 0,.int .i64 0] 61 (0,0)):=by
  have:=Tv (w.alloc (.cells #[.int .i64 0,.int .i64 0,.int .i64 0,.int .i64 0,.slice none 0 0] 46)) (.cells #[.int .i64 0,.int .i64 0,.int .i64 0] 61);simpa using this
 have c0:=(hW.cell (p:=⟨cb,0,none⟩) hcz).trans hc;generalize hWe:(w.alloc (.cells #[.int .i64 0,.int .i64 0,.int .i64 0,.int .i64 0,.slice none 0 0] 46)).alloc (.cells #[.int .i64 0,.int .i64 0,.int .i64 0] 61)=W at *;have hEW:Bs W W.heap.size ev E:=(hEv.below hW).mono (by omega);have hcon:=Ig W ev E hEW (m:Int) (by omega);rw[hok] at hcon;have hPW:=hP.below hW (Te _);have HSh:=Aa (fun (X:World) (hX:Below W.heap.size W X)=>(I8 X m _ F K H fuel ev E hEok ((hEW.below hX).mono hX.size) (DR.of_prog (pc:=pc) (hPW.below hX (Te _)) hcc) (Pg.of_prog (pc:=pc) (hPW.below hX (Te _))) hF));obtain⟨ep,ecc,rfl,_⟩:=hEv;have HC:=Aa hcon;have HX:=Aa (Tc hW (Tc r0 (Tc r1 hz)));have HC0:=Aa (fun (X:World) (hX:Below W.heap.size W X)=>(hX.cell (p:=⟨cb,0,none⟩) (Ts (show cb<w.heap.size from hcz) hW.size)).trans c0);have HO:=Aa hout;clear hcon hW r0 r1 hz hc hok hPW hEW hP hcc hF hEok hm hout;generalize Ca (Bk F E fuel)=en at *;generalize Bk F E fuel=sN at *;generalize E.length=el at *;subst hWe;go_enter func26,ntmps26
 go_wp2_with fail
 refine HC.out.mono ?_;rintro e w2 ⟨rfl,hB2⟩;clear c0;have c2:=HC0.out w2 hB2;obtain⟨hW,r0,r1,hz⟩:=HX.out;have hz2:=hB2.size;have q0:=(hB2.block w.heap.size (by omega)).trans r0;have q1:=(hB2.block (w.heap.size+1) (by omega)).trans r1;have HB:=Aa (Tc (hW.trans (hB2.mono (by omega))) (Tc q0 (Tc q1 (show w.heap.size+2<=w2.heap.size by omega))));have HSh2:=Aa (HSh.out w2 hB2);clear hB2 hW r0 r1 hz hz2 q0 q1 HX HC HC0 HSh;go_wp2_with fail
 refine HSh2.out.mono ?_;rintro e w3 ⟨mb,rfl,hB3,A3,MV3,m3⟩;have HM:=Aa (Tc m3 hB3);clear m3 hB3 HSh2 c2;go_wp2_with fail
 refine(LK w3 _ mb A3 sN en HM.out.1.lay HO.out).mono ?_;rintro e w4 ⟨v4,rfl,hB4,hO4⟩;obtain⟨p4,cp4,hv4,_⟩:=Ae.any hO4;subst hv4;have HM4:=Aa (Tc (HM.out.1.below hB4) (Tc hB4 hO4));clear hB4 hO4 HO;unfold Dj;go_wp2_with fail
 refine(SL w4 _ mb m F MV3 A3 sN en HM4.out.1).mono ?_;rintro e w5 ⟨rfl,hB5⟩;obtain⟨_,hB4,hO4⟩:=HM4.out;obtain⟨_,hB3⟩:=HM.out;obtain⟨hB2,q0,q1,hz⟩:=HB.out;have hz3:=hB3.size;have hz4:=hB4.size;have hB25:Below w2.heap.size w2 w5:=(hB3.trans (hB4.mono hz3)).trans (hB5.mono (by omega));have s0:=(hB25.block w.heap.size (by omega)).trans q0;have s1:=(hB25.block (w.heap.size+1) (by omega)).trans q1;have hB:Below w.heap.size w w5:=hB2.trans (hB25.mono (by omega));have hO5:=hO4.later hB5;have y0:w5.cell? ⟨w.heap.size,0,none⟩=some (.int .i64 0):=(Ab s0).trans rfl;have y1:w5.cell? ⟨w.heap.size,1,none⟩=some (.int .i64 0):=(Ab s0).trans rfl;have y2:w5.cell? ⟨w.heap.size,2,none⟩=some (.int .i64 0):=(Ab s0).trans rfl;have y3:w5.cell? ⟨w.heap.size,3,none⟩=some (.int .i64 0):=(Ab s0).trans rfl;have y4:w5.cell? ⟨w.heap.size,4,none⟩=some (.slice none 0 0):=(Ab s0).trans rfl;have z0:=Ax (o:=0) s0;have z1:=Ax (o:=1) s0;have z2:=Ax (o:=2) s0;have z3:=Ax (o:=3) s0;have z4:=Ax (o:=4) s0;have x0:w5.cell? ⟨w.heap.size+1,0,none⟩=some (.int .i64 0):=(Ab s1).trans rfl;have x1:w5.cell? ⟨w.heap.size+1,1,none⟩=some (.int .i64 0):=(Ab s1).trans rfl;have x2:w5.cell? ⟨w.heap.size+1,2,none⟩=some (.int .i64 0):=(Ab s1).trans rfl;have u0:=Ax (o:=0) s1;have u1:=Ax (o:=1) s1;have u2:=Ax (o:=2) s1;have HE:=Aa (Tc (LO s0 s1 (.int .i64 en) (.int .i64 sN.steps) (.int .i64 sN.gives.k) (.int .i64 sN.gives.n) (.slice p4 sN.out.length cp4) (.int .i64 sN.cH) (.int .i64 sN.cU) (.int .i64 sN.cD)) (Tc (Mj hB (Te _) (.int .i64 en) (.int .i64 sN.steps) (.int .i64 sN.gives.k) (.int .i64 sN.gives.n) (.slice p4 sN.out.length cp4) (.int .i64 sN.cH) (.int .i64 sN.cU) (.int .i64 sN.cD)) (R1 (u:=w) (n:=w.heap.size) hO5 (by omega) (by omega) (.int .i64 en) (.int .i64 sN.steps) (.int .i64 sN.gives.k) (.int .i64 sN.gives.n) (.slice p4 sN.out.length cp4) (.int .i64 sN.cH) (.int .i64 sN.cU) (.int .i64 sN.cD))));clear hB5 hB4 hO4 hB3 hB2 q0 q1 hz hz3 hz4 hB25 s0 s1 hB hO5 HM HM4 HB;unfold FO;go_wp2;obtain⟨⟨g0,g1⟩,hF,hol⟩:=HE.out;clear y0 y1 y2 y3 y4 z0 z1 z2 z3 z4 x0 x1 x2 u0 u1 u2 HE;refine(show bodyPost prog f26 _ _ _ (EJ w5 w.heap.size (.int .i64 en) (.int .i64 sN.steps) (.int .i64 sN.gives.k) (.int .i64 sN.gives.n) (.slice p4 sN.out.length cp4) (.int .i64 sN.cH) (.int .i64 sN.cU) (.int .i64 sN.cD)) from ?_);generalize EJ w5 w.heap.size (.int .i64 en) (.int .i64 sN.steps) (.int .i64 sN.gives.k) (.int .i64 sN.gives.n) (.slice p4 sN.out.length cp4) (.int .i64 sN.cH) (.int .i64 sN.cU) (.int .i64 sN.cD)=V at *;have y0:V.cell? ⟨w.heap.size,0,none⟩=some (.int .i64 en):=(Ab g0).trans rfl;have y1:V.cell? ⟨w.heap.size,1,none⟩=some (.int .i64 sN.steps):=(Ab g0).trans rfl;have y2:V.cell? ⟨w.heap.size,2,none⟩=some (.int .i64 sN.gives.k):=(Ab g0).trans rfl;have y3:V.cell? ⟨w.heap.size,3,none⟩=some (.int .i64 sN.gives.n):=(Ab g0).trans rfl;have y4:V.cell? ⟨w.heap.size,4,none⟩=some (.slice p4 sN.out.length cp4):=(Ab g0).trans rfl;have x0:V.cell? ⟨w.heap.size+1,0,none⟩=some (.int .i64 sN.cH):=(Ab g1).trans rfl;have x1:V.cell? ⟨w.heap.size+1,1,none⟩=some (.int .i64 sN.cU):=(Ab g1).trans rfl;have x2:V.cell? ⟨w.heap.size+1,2,none⟩=some (.int .i64 sN.cD):=(Ab g1).trans rfl;exact bodyPost_ret (v:=.tuple #[Dj en sN (.slice p4 sN.out.length cp4),FO sN,.int .i64 0]) (by simp[results,Tryz.results26,go_sem,y0,y1,y2,y3,y4,x0,x1,x2,Dj,FO]) rfl ⟨_,rfl,hF,hol⟩
theorem Jj{m:Nat}{E:List Ev}(hok:BR m E=0):Ec m E:=by
 unfold BR at hok;by_cases h200:200<E.length
 ·rw[if_pos h200] at hok;omega
 ·rw[if_neg h200] at hok;by_cases he:BL m 0 E=true
  ·obtain⟨k1,k2⟩:=Jv (Int.le_refl 0) he;exact⟨k1,k2,by omega⟩
  ·rw[if_neg he] at hok;omega
theorem Nt(w:World)(cb pb po pc m:Nat)(fuel:Int)(ev:Value)(E:List Ev)(hc:w.cell? ⟨cb,0,none⟩=some (.slice (some ⟨pb,po,none⟩) m pc))(hm:m<=8)(hEv:Bs w w.heap.size ev E)(hbad:BR m E≠0) :
  Calls prog 28 #[.pointer (some ⟨cb,0,none⟩),ev,.int .i64 fuel] w fun e w'=>e=.returned (.tuple #[.agg #[.slice none 0 0,.slice none 0 0],.int .i64 (BR m E)])/\Below w.heap.size w w':=by
 have hcz:=Tr w _ hc;have hW:Below w.heap.size w (w.alloc (.cells #[.slice none 0 0,.slice none 0 0] 53)):=(Tu _ _).alloc (Te _) _;have hz:(w.alloc (.cells #[.slice none 0 0,.slice none 0 0] 53)).heap.size=w.heap.size+1:=by simp
 have r0:(w.alloc (.cells #[.slice none 0 0,.slice none 0 0] 53)).heap[w.heap.size]?=some (.cells #[.slice none 0 0,.slice none 0 0] 53 (0,0)):=Tv _ _;have c0:=(hW.cell (p:=⟨cb,0,none⟩) hcz).trans hc;have hcon:=Ig _ ev E (show Bs _ (w.alloc (.cells #[.slice none 0 0,.slice none 0 0] 53)).heap.size ev E from (hEv.below hW).mono (by omega)) (m:Int) (by omega);obtain⟨ep,ecc,rfl,_⟩:=hEv;have hb:(BR m E != 0)=true:=by simpa using hbad
 have HC:=Aa hcon;have HX:=Aa (Tc hW (Tc r0 hz));clear hcon hW r0 hz hc hbad;generalize BR m E=er at *;generalize E.length=el at *;go_enter func28,ntmps28
 go_wp2_with fail
 refine HC.out.mono ?_;rintro e w2 ⟨rfl,hB2⟩;obtain⟨hW,r0,hz⟩:=HX.out;have q0:=(hB2.block w.heap.size (by omega)).trans r0;have hB:Below w.heap.size w w2:=hW.trans (hB2.mono (by omega));have y0:w2.cell? ⟨w.heap.size,0,none⟩=some (.slice none 0 0):=(Ab q0).trans rfl;have y1:w2.cell? ⟨w.heap.size,1,none⟩=some (.slice none 0 0):=(Ab q0).trans rfl;have z0:=Ax (o:=0) q0;have z1:=Ax (o:=1) q0;have g0:=AM (o:=1) (AM (o:=0) q0 (.slice none 0 0)) (.slice none 0 0);have HQ:=Aa (Tc g0 (CH (o:=1) (CH (o:=0) hB (Te _) (.slice none 0 0)) (Te _) (.slice none 0 0)));clear hB2 hW r0 hz q0 hB HX HC g0;go_wp2;obtain⟨g0,hF⟩:=HQ.out;generalize (w2.setCell ⟨w.heap.size,0,none⟩ (.slice none 0 0)).setCell ⟨w.heap.size,1,none⟩ (.slice none 0 0)=V at *;have v0:V.cell? ⟨w.heap.size,0,none⟩=some (.slice none 0 0):=(Ab g0).trans rfl;have v1:V.cell? ⟨w.heap.size,1,none⟩=some (.slice none 0 0):=(Ab g0).trans rfl;exact bodyPost_ret (v:=.tuple #[.agg #[.slice none 0 0,.slice none 0 0],.int .i64 er]) (by simp[results,Tryz.results28,go_sem,v0,v1]) rfl ⟨rfl,hF⟩
theorem Pw(w:World)(cb pb po pc m:Nat)(F:Nat->PF)(K:Nat->Nat->Bool)(H:Nat->Nat->Int)(CA:Nat->Option Addr)(CC:Nat->Nat)(fuel:Int)(ev:Value)(E:List Ev)(hc:w.cell? ⟨cb,0,none⟩=some (.slice (some ⟨pb,po,none⟩) m pc))(hP:BD w pb po m F CA CC)(hcc:∀ k,k<m->(F k).cn<=CC k)(hF:AP m F K H)(hEv:Bs w w.heap.size ev E)(hok:BR m E=0) :
  Calls prog 28 #[.pointer (some ⟨cb,0,none⟩),ev,.int .i64 fuel] w fun e w'=>∃ v,e=.returned (.tuple #[v,.int .i64 0])/\DZ w w' (Bl F fuel).fr (Bl F fuel).arr (.returned v):=by
 have hm:=hF.size;have hEok:=Jj hok;have h6:=FU hF hEok.rise hEok.ok (AX fuel);obtain⟨Av,har,_⟩:=EX hF (AX fuel);have hfl:=EI fuel;have h1:(Bl F fuel).fr.length<=1000:=by have:=Av.fr;show (AY F (AC F) (AX fuel)).fr.length<=1000;omega
 have h2:(Bl F fuel).arr.length<=200000:=by show (AY F (AC F) (AX fuel)).arr.length<=200000;omega
 have h3:∀ i,i<(Bl F fuel).fr.length->(Am (Bl F fuel).fr i).loc.length<=200000/\(Am (Bl F fuel).fr i).stk.length<=200000:=fun i hi=>by have:=Av.ls _ (Hz hi);show (Am (AY F (AC F) (AX fuel)).fr i).loc.length<=200000/\(Am (AY F (AC F) (AX fuel)).fr i).stk.length<=200000;omega
 have h4:∀ j,j<(Bl F fuel).arr.length->((Bl F fuel).arr.getD j []).length<=200000:=fun j hj=>by have:=Av.al _ (KG hj);show ((AY F (AC F) (AX fuel)).arr.getD j []).length<=200000;omega
 have e1:(Bk F E fuel).fr=(Bl F fuel).fr:=h6.fr;have e2:(Bk F E fuel).arr=(Bl F fuel).arr:=h6.arr;rw[<-e1] at h1 h3;rw[<-e2] at h2 h4;rw[<-e1,<-e2];have hcz:=Tr w _ hc;have hW:Below w.heap.size w (w.alloc (.cells #[.slice none 0 0,.slice none 0 0] 53)):=(Tu _ _).alloc (Te _) _;have hz:(w.alloc (.cells #[.slice none 0 0,.slice none 0 0] 53)).heap.size=w.heap.size+1:=by simp
 have r0:(w.alloc (.cells #[.slice none 0 0,.slice none 0 0] 53)).heap[w.heap.size]?=some (.cells #[.slice none 0 0,.slice none 0 0] 53 (0,0)):=Tv _ _;have c0:=(hW.cell (p:=⟨cb,0,none⟩) hcz).trans hc;generalize hWe:w.alloc (.cells #[.slice none 0 0,.slice none 0 0] 53)=W at *;have hEW:Bs W W.heap.size ev E:=(hEv.below hW).mono (by omega);have hcon:=Ig W ev E hEW (m:Int) (by omega);rw[hok] at hcon;have hPW:=hP.below hW (Te _);have HSh:=Aa (fun (X:World) (hX:Below W.heap.size W X)=>(I8 X m _ F K H fuel ev E hEok ((hEW.below hX).mono hX.size) (DR.of_prog (pc:=pc) (hPW.below hX (Te _)) hcc) (Pg.of_prog (pc:=pc) (hPW.below hX (Te _))) hF));obtain⟨ep,ecc,rfl,_⟩:=hEv;have HC:=Aa hcon;have HX:=Aa (Tc hW (Tc r0 hz));have HC0:=Aa (fun (X:World) (hX:Below W.heap.size W X)=>(hX.cell (p:=⟨cb,0,none⟩) (Ts (show cb<w.heap.size from hcz) hW.size)).trans c0);have HZ:=Aa (Tc h1 (Tc h2 (Tc h3 h4)));clear hcon hW r0 hz hc hok hPW hEW hP hcc hF hEok hm h1 h2 h3 h4 h6 Av har hfl e1 e2;generalize Ca (Bk F E fuel)=en at *;generalize Bk F E fuel=sN at *;generalize E.length=el at *;subst hWe;go_enter func28,ntmps28
 go_wp2_with fail
 refine HC.out.mono ?_;rintro e w2 ⟨rfl,hB2⟩;clear c0;have c2:=HC0.out w2 hB2;obtain⟨hW,r0,hz⟩:=HX.out;have hz2:=hB2.size;have q0:=(hB2.block w.heap.size (by omega)).trans r0;have HB:=Aa (Tc (hW.trans (hB2.mono (by omega))) (Tc q0 (show w.heap.size+1<=w2.heap.size by omega)));have HSh2:=Aa (HSh.out w2 hB2);clear hB2 hW r0 hz hz2 q0 HX HC HC0 HSh;go_wp2_with fail
 refine HSh2.out.mono ?_;rintro e w3 ⟨mb,rfl,hB3,A3,MV3,m3⟩;have HO:=Aa (Lc w3 _ mb A3 sN en m3.lay HZ.out.1 HZ.out.2.1 HZ.out.2.2.1 HZ.out.2.2.2);have HM:=Aa hB3;clear m3 hB3 HSh2 c2 HZ;go_wp2_with fail
 refine HO.out.mono ?_;intro e w4 hst;obtain⟨hB2,q0,hz⟩:=HB.out;have hB23:Below w.heap.size w w3:=hB2.trans (HM.out.mono (by omega));have q3:=(HM.out.block w.heap.size (by omega)).trans q0;obtain⟨p1,c1,p2,c2,rfl,r3,hfin⟩:=DZ.stored hB23 q3 hst;have y0:w4.cell? ⟨w.heap.size,0,none⟩=some (.slice none 0 0):=(Ab r3).trans rfl;have y1:w4.cell? ⟨w.heap.size,1,none⟩=some (.slice none 0 0):=(Ab r3).trans rfl;have z0:=Ax (o:=0) r3;have z1:=Ax (o:=1) r3;have g0:=AM (o:=1) (AM (o:=0) r3 (.slice p1 sN.fr.length c1)) (.slice p2 sN.arr.length c2);have HQ:=Aa (Tc g0 hfin);clear hst q0 q3 r3 hB2 hz hB23 HB HO g0 hfin HM;go_wp2;obtain⟨g0,hfin⟩:=HQ.out;generalize (w4.setCell ⟨w.heap.size,0,none⟩ (.slice p1 sN.fr.length c1)).setCell ⟨w.heap.size,1,none⟩ (.slice p2 sN.arr.length c2)=V at *;have v0:V.cell? ⟨w.heap.size,0,none⟩=some (.slice p1 sN.fr.length c1):=(Ab g0).trans rfl;have v1:V.cell? ⟨w.heap.size,1,none⟩=some (.slice p2 sN.arr.length c2):=(Ab g0).trans rfl;exact bodyPost_ret (v:=.tuple #[.agg #[.slice p1 sN.fr.length c1,.slice p2 sN.arr.length c2],.int .i64 0]) (by simp[results,Tryz.results28,go_sem,v0,v1]) rfl ⟨_,rfl,hfin⟩
def DW(E:List Ev):Nat->Value:=fun j =>
 if j % 3=0 then .int .i64 (E.getD (j / 3) ⟨0,0,0⟩).st else if j % 3=1 then .int .i64 (E.getD (j / 3) ⟨0,0,0⟩).k else .int .i64 (E.getD (j / 3) ⟨0,0,0⟩).n
def Ct(E:List Ev)(k:Nat):Nat->Value:=fun j =>
 if j / 3<E.length then DW E j else if j / 3<k then (if j % 3=1 then .int .i64 (-77) else .int .i64 0) else .int .i64 0
def GC(E:List Ev):List Value:=(List.range (E.length * 3)).map (DW E)
theorem FI(E:List Ev):(GC E).length=E.length * 3:=by simp[GC]
theorem Lp(E:List Ev)(j:Nat)(hj:j<E.length * 3):(GC E)[j]?=some (DW E j):=by simp[GC,hj]
theorem Qa(E:List Ev)(j:Nat):(DW E j).oneCell'=true:=by unfold DW;split;rfl;split<;>rfl
theorem Bs.at_{w:World}{B:Nat}{p:Option Addr}{n c:Nat}{E:List Ev}(h:Bs w B (.slice p n c) E)(hne:E≠[]):∃ eb eo,p=some ⟨eb,eo,none⟩/\eb<B/\∀ j,j<E.length * 3->w.cell? ⟨eb,eo+j,none⟩=some (DW E j):=by
 obtain⟨p',c',hv,_,hc⟩:=h;injection hv with e1 e2 e3;subst e1;obtain⟨eb,eo,e,hb,hcs⟩:=hc hne;refine⟨eb,eo,e,hb,fun j hj=>?_⟩;obtain⟨h0,h1,h2⟩:=hcs (j / 3) (by omega);unfold DW;have:j % 3=0\/j % 3=1\/j % 3=2:=by omega
 rcases this with e|e|e
 ·rw[if_pos e,show eo+j=eo+j / 3 * 3 by omega];exact h0
 ·rw[if_neg (by omega),if_pos e,show eo+j=eo+j / 3 * 3+1 by omega];exact h1
 ·rw[if_neg (by omega),if_neg (by omega),show eo+j=eo+j / 3 * 3+2 by omega];exact h2
theorem Tryz.infoEvt:(prog.info? 65).map (fun i=>(i.zero,i.size,i.bytes))=some (some (.agg #[.int .i64 0,.int .i64 0,.int .i64 0]),3,24):=by kernel_rfl
theorem Tryz.sizeEvt:(prog.info? 65).map (·.size)=some 3:=by kernel_rfl
def Ey(n:Nat):Array Value:=madeCells #[.int .i64 0,.int .i64 0,.int .i64 0] (n * 3)
theorem MP(n i:Nat)(hi:i<n * 3):(Ey n)[i]?=some (.int .i64 0):=by
 have:i % 3=0\/i % 3=1\/i % 3=2:=by omega
 rcases this with e|e|e<;>simp[Ey,madeCells,hi,e]
theorem R2(n:Nat)(hn:n<=5864062014900)(wx:World):(Instr.makeSlice 57 (.int .i64 n) (.int .i64 n)).run prog wx=.ok (.slice (some ⟨wx.heap.size,0,none⟩) n n) (wx.alloc (.cells (Ey n) 65)) :=
 Fo (P:=prog) 57 65 _ _ 3 24 underlying57 Tryz.infoEvt rfl .i64 .i64 n (by omega) (by omega) wx
theorem NM(w:World)(E:List Ev)(p:Option Addr)(c:Nat)(hE:Bs w w.heap.size (.slice p E.length c) E) :
  ∃ w',(Builtin.copy_ #[57,57] 3 #[.slice (some ⟨w.heap.size,0,none⟩) (E.length+2) (E.length+2),.slice p E.length c]).run prog (w.alloc (.cells (Ey (E.length+2)) 65))=.ok (goInt E.length) w' /\
   w'.rowIs w.heap.size 65 ((E.length+2) * 3) (Ct E E.length)/\Below w.heap.size w w'/\w'.heap.size=w.heap.size+1:=by
 have hB1:Below w.heap.size w (w.alloc (.cells (Ey (E.length+2)) 65)):=(Tu _ _).alloc (Te _) _;by_cases h0:E=[]
 ·subst h0;refine⟨_,I7 _ 57 57 3 65 _ _ _ _ _ underlying57 3 Tryz.sizeEvt,⟨_,Tv _ _,by simp[Ey,size_madeCells],fun i hi=>?_⟩,hB1,by simp⟩;rw[MP _ _ hi];unfold Ct;rw[if_neg (by simp),if_neg (by simp)]
 ·obtain⟨eb,eo,rfl,heb,hcs⟩:=hE.at_ h0;have hrun:=Jc (P:=prog) (w.alloc (.cells (Ey (E.length+2)) 65)) 57 57 3 65 3 w.heap.size (E.length+2) (E.length+2) ⟨eb,eo,none⟩ E.length c (Ey (E.length+2)) 65 (GC E) underlying57 Tryz.sizeEvt (Tv _ _) (by omega) (FI E)
   (fun j u hu=>by
    have hj:j<E.length * 3:=by have:=(List.getElem?_eq_some_iff.1 hu).1;rwa [FI] at this
    rw[Lp E j hj] at hu;injection hu with hu;rw[Addr.add_lit,<-hu];exact(hB1.cell (p:=⟨eb,eo+j,none⟩) heb).trans (hcs j hj)) (by rw[FI];simp[Ey,size_madeCells];omega) (fun u hu=>by obtain⟨j,_,rfl⟩:=List.mem_map.1 hu;exact Qa E j)
  refine⟨_,hrun,⟨_,setRow_heap _ _ _ _ 65 (0,0) (Tv _ _),?_,fun i hi=>?_⟩,?_,?_⟩
  ·simp[FI,Ey,size_madeCells];omega
  ·unfold Ct;by_cases hlt:i<E.length * 3
   ·rw[if_pos (by omega),List.getElem?_toArray,Tq (by rw[FI];exact hlt)];exact Lp E i hlt
   ·rw[if_neg (by omega),if_neg (by omega),List.getElem?_toArray,List.getElem?_append_right (by rw[FI];omega),List.getElem?_drop,FI];rw[show E.length * 3+(i-E.length * 3)=i by omega];have:=MP (E.length+2) i hi;rw[<-this];simp
  ·refine⟨rfl,rfl,rfl,by simp[World.setRow],fun k hk=>?_⟩;rw[setRow_other _ _ _ _ (by omega)];exact hB1.block k hk
  ·simp[World.setRow]
theorem Rb(E:List Ev)(k:Nat)(hk:E.length<=k):Ct E (k+1) (k * 3)=.int .i64 0/\Ct E (k+1) (k * 3+1)=.int .i64 (-77)/\Ct E (k+1) (k * 3+2)=.int .i64 0:=by
 unfold Ct;refine⟨?_,?_,?_⟩
 ·rw[if_neg (by omega),if_pos (by omega),if_neg (by omega)]
 ·rw[if_neg (by omega),if_pos (by omega),if_pos (by omega)]
 ·rw[if_neg (by omega),if_pos (by omega),if_neg (by omega)]
theorem II(w:World)(E:List Ev)(v:Value)(hE:Bs w w.heap.size v E)(hl:E.length<=5864062014805) :
  Calls prog 83 #[v] w fun e w'=>e=.returned (.slice (some ⟨w.heap.size,0,none⟩) (E.length+2) (E.length+2))/\Below w.heap.size w w'/\w'.rowIs w.heap.size 65 ((E.length+2) * 3) (Ct E (E.length+2)):=by
 obtain⟨p,c,rfl,_⟩:=id hE;obtain⟨w2,hcp,hrow,hB2,hz2⟩:=NM w E p c hE;have hmk:=R2 (E.length+2) (by omega) w;have e1:wrap64 ((E.length:Int)+2)=(E.length:Int)+2:=by unfold wrap64;omega
 have e2:(((E.length+2:Nat):Int))=(E.length:Int)+2:=by omega
 rw[e2] at hmk;have HH:=Aa (Tc hrow hB2);clear hrow hB2 hE;generalize hn:E.length=n at *;have HN:=Aa hn;clear hn;go_enter func83,ntmps83
 go_wp2;go_loopw [4] (fun v wr=>∃ k:Nat,n<=k/\k<=n+2/\v=.int .i64 k/\Below w.heap.size w wr/\wr.rowIs w.heap.size 65 ((n+2) * 3) (Ct E k)) (fun v _=>n+2-(intOf v).toNat)
 case atStart=>exact⟨n,Te _,by omega,rfl,HH.out.2,HH.out.1⟩
 case round =>
  obtain⟨k,hk1,hk2,rfl,hB,hR⟩:=hrel;by_cases hlt:k<n+2
  ·have d1:decide ((k:Int)<(n:Int)+2)=true:=by simp;omega
   obtain⟨t0,t1,t2⟩:=Rb E k (by rw[HN.out];exact hk1);have h3:=IZ (g:=Ct E (k+1)) hR k (fun j _=>by
    by_cases e:j / 3=k
    ·rw[if_pos e]
    ·rw[if_neg e];unfold Ct;by_cases e1:j / 3<E.length
     ·rw[if_pos e1,if_pos e1]
     ·rw[if_neg e1,if_neg e1];by_cases e2:j / 3<k
      ·rw[if_pos e2,if_pos (by omega)]
      ·rw[if_neg e2,if_neg (by omega)])
   rw[t0,t1,t2] at h3;have hb3:Below w.heap.size w (((wr.setCell ⟨w.heap.size,k * 3,none⟩ (.int .i64 0)).setCell ⟨w.heap.size,k * 3+1,none⟩ (.int .i64 (-77))).setCell ⟨w.heap.size,k * 3+2,none⟩ (.int .i64 0)):=⟨hB.os,hB.tape,hB.output,by have:=hB.size;simp[World.setCell];omega,fun i hi=>by rw[G2 _ _ _ _ _ _ _ (by omega)];exact hB.block i hi⟩
   obtain⟨cur,hcur,hcs,hca⟩:=hR;have y0:wr.cell? ⟨w.heap.size,k * 3,none⟩=some (Ct E k (k * 3)):=(Ab hcur).trans (hca _ (by omega));have y1:wr.cell? ⟨w.heap.size,k * 3+1,none⟩=some (Ct E k (k * 3+1)):=(Ab hcur).trans (hca _ (by omega));have y2:wr.cell? ⟨w.heap.size,k * 3+2,none⟩=some (Ct E k (k * 3+2)):=(Ab hcur).trans (hca _ (by omega));have z0:=Ax (o:=k * 3) hcur;have z1:=Ax (o:=k * 3+1) hcur;have z2:=Ax (o:=k * 3+2) hcur;have i0:(0:Int)<=(k:Int):=by omega
   have i1:(k:Int)<(n:Int)+2:=by omega
   have HQ:=Aa (Tc hb3 h3);clear hb3 h3 hcur hca hcs hB t0 t1 t2 HH;generalize Ct E k (k * 3)=x0 at *;generalize Ct E k (k * 3+1)=x1 at *;generalize Ct E k (k * 3+2)=x2 at *;go_wp2;go_roundw
   case rel=>exact⟨k+1,by omega,by omega,by go_num,HQ.out.1,HQ.out.2⟩
   case measure=>simp[intOf];omega
  ·have d1:decide ((k:Int)<(n:Int)+2)=false:=by simp;omega
   obtain rfl:k=n+2:=by omega
   have HQ:=Aa (Tc hB hR);clear hB hR HH;go_wp2;go_ret;exact⟨rfl,HQ.out⟩
end Go.Proofs.YtkafkipjedpohaaGreatDoor

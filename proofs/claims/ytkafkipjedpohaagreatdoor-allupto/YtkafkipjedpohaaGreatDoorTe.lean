import Derived.Test.YtkafkipjedpohaaGreatDoorTc
import Derived.Test.YtkafkipjedpohaaGreatDoorCards
import Derived.Test.YtkafkipjedpohaaGreatDoorTie
import Derived.OpenShut
import Derived.Deep.DeepHandedRow
import Derived.Lib.LaidTab
namespace Go.Proofs.YtkafkipjedpohaaGreatDoor
set_option maxRecDepth 100000
set_option maxHeartbeats 16000000
open Go.RowKit _root_.Go.Proofs.Tryz
theorem Pk{w1:World}{cb g cap m:Nat}{F:Nat->PF}{K:Nat->Nat->Bool}{H:Nat->Nat->Int}{CA:Nat->Option Addr}{CC:Nat->Nat}{N:Int}{E:List Ev}{ev:Value}
  (c1:w1.cell? ⟨cb,0,none⟩=some (.slice (some ⟨g,0,none⟩) m cap)) (hP:BD w1 g 0 m F CA CC) (hcc:∀ k,k<m->(F k).cn<=CC k) (hF:AP m F K H) (hEv:Bs w1 w1.heap.size ev E) :
  ∃ (er:Int) (fr:List Fr) (arr:List (List V)),(∀ X,Below w1.heap.size w1 X->Calls prog 28 #[.pointer (some ⟨cb,0,none⟩),ev,.int .i64 N] X fun e u2=>∃ fp ap fc ac LV SV AV tg,e=.returned (.tuple #[.agg #[.slice fp fr.length fc,.slice ap arr.length ac],.int .i64 er])/\Below X.heap.size X u2/\Cc u2 X.heap.size tg (.slice fp fr.length fc) LV SV (Am fr) fr.length/\Cd u2 X.heap.size tg (.slice ap arr.length ac) AV arr arr.length) /\
   (fr.length<=24/\arr.length<=100000/\(∀ i,i<fr.length->(Am fr i).loc.length<=200000/\(Am fr i).stk.length<=200000)/\∀ j,j<arr.length->(arr.getD j []).length<=200000) /\
   ((BR m E=0/\Ec m E/\er=0/\fr=(Bk F E N).fr/\arr=(Bk F E N).arr)\/(BR m E≠0/\er=5/\fr=[]/\arr=[])):=by
 have hcz:=Tr w1 _ c1;have hEX:∀ X,Below w1.heap.size w1 X->Bs X X.heap.size ev E:=fun X hX=>by
  obtain⟨p',c',hv,h1,h2⟩:=hEv.below hX;refine⟨p',c',hv,h1,fun h0=>?_⟩;obtain⟨eb,eo,e1,e2,e3⟩:=h2 h0;exact⟨eb,eo,e1,by have:=hX.size;omega,e3⟩
 by_cases hok:BR m E=0
 ·have hE:=Jj hok;have h6:=FU hF hE.rise hE.ok (AX N);have hszs:=EX hF (AX N);have hfl:=EI N;have e1:(Bl F N).fr=(Bk F E N).fr:=h6.fr.symm;have e2:(Bl F N).arr=(Bk F E N).arr:=h6.arr.symm;have hS1:ER (Bl F N):=hszs.1;refine⟨0,(Bl F N).fr,(Bl F N).arr,fun X hX=>?_,⟨hS1.fr,by have:=hszs.2.1;show (AY F (AC F) (AX N)).arr.length<=_;omega,fun i hi=>by have:=hS1.ls _ (Hz hi);omega,fun j hj=>by have:=hS1.al _ (Ij hj);omega⟩,Or.inl ⟨hok,hE,rfl,e1,e2⟩⟩;refine(Pw X cb g 0 cap m F K H CA CC N ev E ((hX.cell (p:=⟨cb,0,none⟩) hcz).trans c1) (hP.below hX (Te _)) hcc hF (hEX X hX) hok).mono ?_;rintro e u2 ⟨v,rfl,fv,av,LV,SV,AV,tg,hv,h1,h2,h3⟩;injection hv with hv;subst hv;obtain⟨fp,fc,rfl⟩:=h2.row.slc;obtain⟨ap,ac,rfl⟩:=h3.row.slc;exact⟨fp,ap,fc,ac,LV,SV,AV,tg,rfl,h1,h2,h3⟩
 ·have h5:BR m E=5:=by
   unfold BR at hok ⊢;by_cases a:200<E.length
   ·rw[if_pos a]
   ·rw[if_neg a] at hok ⊢;by_cases b:BL m 0 E=true
    ·rw[if_pos b] at hok;exact absurd rfl hok
    ·rw[if_neg b]
  refine⟨5,[],[],fun X hX=>?_,⟨Tt _,Tt _,fun i hi=>absurd hi (Nat.not_lt_zero _),fun j hj=>absurd hj (Nat.not_lt_zero _)⟩,Or.inr ⟨hok,rfl,rfl,rfl⟩⟩;refine(Nt X cb g 0 cap m N ev E ((hX.cell (p:=⟨cb,0,none⟩) hcz).trans c1) hF.size.2 (hEX X hX) hok).mono ?_;rintro e u2 ⟨rfl,h1⟩;rw[h5];exact⟨none,none,0,0,fun _=>.slice none 0 0,fun _=>.slice none 0 0,fun _=>.slice none 0 0,fun _=>0,rfl,h1,⟨Ae.nil _ _ _ _ _ _ _,fun i hi=>absurd hi (Nat.not_lt_zero _),fun i hi=>absurd hi (Nat.not_lt_zero _)⟩,⟨Ae.nil _ _ _ _ _ _ _,fun i hi=>absurd hi (Nat.not_lt_zero _)⟩⟩
theorem NG(w:World)(B wb:Nat)(A:AN)(n:Nat->Nat)(nc:Nat)(CV PV:Nat->Value)(M:Nat->Nat)(FF:Nat->Nat->PF)(h:B3 w B wb A n nc CV PV M FF)(cb g cap m:Nat)(F:Nat->PF)(K:Nat->Nat->Bool)(H:Nat->Nat->Int)(CA:Nat->Option Addr)(CC:Nat->Nat)(pb po pcc:Nat)(CA2:Nat->Option Addr)(CC2:Nat->Nat)(kd at_ N:Int)(ep pp:Option Addr)(ec pl pc:Nat)(E:List Ev)
  (c1:w.cell? ⟨cb,0,none⟩=some (.slice (some ⟨g,0,none⟩) m cap)) (hP:BD w g 0 m F CA CC) (hcc:∀ k,k<m->(F k).cn<=CC k) (hP2:BD w pb po m F CA2 CC2) (hF:AP m F K H) (hEv:Bs w w.heap.size (.slice ep E.length ec) E) (hEl:E.length<=5864062014805) (hn0:∀ k,k<4->n k<=3000000000000) :
  Calls prog 62 #[.pointer (some ⟨wb,0,none⟩),.pointer (some ⟨cb,0,none⟩),.slice (some ⟨pb,po,none⟩) m pcc,.agg #[.int .i64 kd,.int .i64 at_,.int .i64 N,.slice ep E.length ec,.slice pp pl pc]] w (Cn w B wb n nc CV PV M FF):=by
 have hcz:=Tr w _ c1;have hwz:=Ah h.hold.blk;obtain⟨W,hWd⟩:∃ W,W=w.alloc (.cells #[.int .i64 kd,.int .i64 at_,.int .i64 N,.slice ep E.length ec,.slice pp pl pc] 100):=⟨_,rfl⟩
 have hW:Below w.heap.size w W:=by rw[hWd];exact(Tu _ _).alloc (Te _) _
 have ob:W.heap[w.heap.size]?=some (.cells #[.int .i64 kd,.int .i64 at_,.int .i64 N,.slice ep E.length ec,.slice pp pl pc] 100 (0,0)):=by rw[hWd];exact Tv _ _
 have hEX:∀ X,Below w.heap.size w X->Bs X X.heap.size (.slice ep E.length ec) E:=fun X hX=>by
  obtain⟨p',c',hv,h1,h2⟩:=hEv.below hX;refine⟨p',c',hv,h1,fun h0=>?_⟩;obtain⟨eb,eo,e1,e2,e3⟩:=h2 h0;exact⟨eb,eo,e1,by have:=hX.size;omega,e3⟩
 have HT:=Aa (II W E _ (hEX W hW) hEl);have o2:W.cell? ⟨w.heap.size,2,none⟩=some (.int .i64 N):=(Ab ob).trans rfl;have o3:W.cell? ⟨w.heap.size,3,none⟩=some (.slice ep E.length ec):=(Ab ob).trans rfl;have hoz:w.heap.size<W.heap.size:=Ah ob;have HX:=Aa (Tc h (Tc hW (Tc c1 (Tc hP (Tc hcc (Tc hP2 (Tc hF (Tc hEX hn0))))))));have HD:=Aa hWd;clear h hW ob c1 hP hcc hP2 hF hEv hEX hn0 hWd;go_enter func62,ntmps62
 go_wp2_with fail
 rw[<-HD.out];refine HT.out.mono ?_;rintro e w1 ⟨rfl,hB1,hrow⟩;have hWs:=hB1.size;have p2:w1.cell? ⟨w.heap.size,2,none⟩=some (.int .i64 N):=(hB1.cell (p:=⟨w.heap.size,2,none⟩) hoz).trans o2;have p3:w1.cell? ⟨w.heap.size,3,none⟩=some (.slice ep E.length ec):=(hB1.cell (p:=⟨w.heap.size,3,none⟩) hoz).trans o3;have htz:W.heap.size<w1.heap.size:=by obtain⟨cur,h1,_⟩:=hrow;exact Ah h1
 have hw1:Below w.heap.size w w1:=HX.out.2.1.trans (hB1.mono HX.out.2.1.size);obtain⟨er,fr,arr,hR,Av,hcase⟩:=Pk (N:=N) ((hw1.cell (p:=⟨cb,0,none⟩) hcz).trans HX.out.2.2.1) (HX.out.2.2.2.1.below hw1 (Te _)) HX.out.2.2.2.2.1 HX.out.2.2.2.2.2.2.1 (MB hrow htz);have HW1:=Aa (Tc hw1 (Tc hrow hcase));have HR:=Aa hR;have HSZ:=Aa Av;have hoz1:w.heap.size<w1.heap.size:=by omega
 have HS:=Aa (fun (w':World) (hb:Below w1.heap.size w1 w')=>(show w'.cell? ⟨w.heap.size,2,none⟩=some (.int .i64 N)/\w'.cell? ⟨w.heap.size,3,none⟩=some (.slice ep E.length ec) from ⟨(hb.cell (p:=⟨w.heap.size,2,none⟩) hoz1).trans p2,(hb.cell (p:=⟨w.heap.size,3,none⟩) hoz1).trans p3⟩));have j0:(0:Int)<=(E.length:Int):=by omega
 have j1:(E.length:Int)<=(E.length:Int)+2:=by omega
 have H0:=Aa (DC.start w1 fr arr);clear hw1 hB1 hrow HT o2 o3 hR hcase p2 p3 hcz hwz Av;go_upto_region 2 with fail
 go_cut [10,11] from 19 to 31 (fun v10 v11 wc=>KQ w1 er fr arr v10 v11 wc)
 case first =>
  refine LE (Below w1.heap.size w1) (.free 0 (.free 1 (.free 2 (.free 3 (.free 4 (.free 5 (.free 6 (.free 7 (.two 8 (.free 9 (.free 10 (.free 11 (.one 12 (.one 13 (.free 14 .done)))))) 12 (.one 8 (.free 9 (.free 10 (.free 11 (.one 13 (.free 14 .done))))))))))))))) (by kernel_rfl) (by kernel_rfl) (Co _ _ _) (Tu _ _).drew ?_;iterate 8 (refine C7 rfl (by rfl) (by intro w' hS';obtain⟨q0,q1⟩:=HS.out w' hS';clear hS';go_simp;exact rfl) ?_;simp only[Act.put,List.getElem_toArray,List.getElem_cons_zero,List.getElem_cons_succ,Td,Th,Tg])
  refine Hr ?_ ?_
  ·refine BJ rfl (fun K9 hK=>?_);go_simp;refine(HR.out _ H0.out.bl).mono ?_;rintro e u2 ⟨fp,ap,fc,ac,LV,SV,AV,tg,rfl,hB2,hF2,hA2⟩;have S1:=Aa (H0.out.call hB2 hF2 hA2);clear hB2 hF2 hA2;refine hK.out _ _ S1.out.bl ?_;clear hK K9;iterate 3 (refine C7 rfl (by rfl) (by intro w' hS';clear hS';go_simp;exact rfl) ?_;simp only[Act.put,List.getElem_toArray,List.getElem_cons_zero,List.getElem_cons_succ,Td,Th,Tg])
   refine BJ rfl (fun K9 hK=>?_);go_simp;have S2:=Aa S1.out.alloc53;unfold sz at S2;refine hK.out _ _ S2.out.bl ?_;clear hK K9;have ST:=S2;generalize u2.alloc (.cells #[.slice none 0 0,.slice none 0 0] 53)=X at *;obtain⟨⟨x0,x1⟩,⟨z0,z1⟩,xl⟩:=ST.out.a_reads;have HF:=Aa (ST.out.a_set er);refine BJ rfl (fun K9 hK=>?_);go_simp;refine hK.out _ _ (show Below w1.heap.size w1 (Gp X (u2.heap.size) (.slice fp fr.length fc) (.slice ap arr.length ac)) from by obtain⟨_,_,_,_,_,_,_,hh,_⟩:=HF.out;exact hh) ?_;clear hK K9 x0 x1 z0 z1
   (refine C7 rfl (by rfl) (by intro w' hS';clear hS';go_simp;exact rfl) ?_;simp only[Act.put,List.getElem_toArray,List.getElem_cons_zero,List.getElem_cons_succ,Td,Th,Tg])
   refine E4 ?_;go_wp2_with fail
   go_meet;exact HF.out
  ·refine BJ rfl (fun K9 hK=>?_);go_simp;have S1:=Aa H0.out.alloc53;unfold sz at S1;refine hK.out _ _ S1.out.bl ?_;clear hK K9;refine BJ rfl (fun K9 hK=>?_);go_simp;refine(HR.out _ S1.out.bl).mono ?_;rintro e u2 ⟨fp,ap,fc,ac,LV,SV,AV,tg,rfl,hB2,hF2,hA2⟩;have S2:=Aa (S1.out.call hB2 hF2 hA2);clear hB2 hF2 hA2;refine hK.out _ _ S2.out.bl ?_;clear hK K9;iterate 3 (refine C7 rfl (by rfl) (by intro w' hS';clear hS';go_simp;exact rfl) ?_;simp only[Act.put,List.getElem_toArray,List.getElem_cons_zero,List.getElem_cons_succ,Td,Th,Tg])
   have ST:=S2;simp only[TM] at ST;obtain⟨X,hXu⟩:∃ X,X=u2:=⟨_,rfl⟩
   subst hXu;obtain⟨⟨x0,x1⟩,⟨z0,z1⟩,xl⟩:=ST.out.a_reads;have HF:=Aa (ST.out.a_set er);refine BJ rfl (fun K9 hK=>?_);go_simp;refine hK.out _ _ (show Below w1.heap.size w1 (Gp X (w1.heap.size) (.slice fp fr.length fc) (.slice ap arr.length ac)) from by obtain⟨_,_,_,_,_,_,_,hh,_⟩:=HF.out;exact hh) ?_;clear hK K9 x0 x1 z0 z1
   (refine C7 rfl (by rfl) (by intro w' hS';clear hS';go_simp;exact rfl) ?_;simp only[Act.put,List.getElem_toArray,List.getElem_cons_zero,List.getElem_cons_succ,Td,Th,Tg])
   refine E4 ?_;go_wp2_with fail
   go_meet;exact HF.out
 case rest =>
  obtain⟨rfl,ab,fp,ap,fc,ac,rfl,hBc,hab,ba,hout⟩:=hcut;obtain⟨hw1,hrow,hcase⟩:=HW1.out;have hw1s:=hw1.size;have hwc:Below w.heap.size w wc:=hw1.trans (hBc.mono hw1s);obtain⟨q2,q3⟩:=HS.out wc hBc;have haz:ab<wc.heap.size:=Ah ba;have hocz:w.heap.size<wc.heap.size:=by have:=hBc.size;omega
  have HSM:=Aa (KK wc E _ (HX.out.2.2.2.2.2.2.2.1 wc hwc) hEl W.heap.size (Mm hrow hBc htz));have HC:=Aa (Tc hBc (Tc hwc (Tc ba (Tc hout hcase))));clear hw1 hrow hcase hwc hBc ba hout H0 HR HS;go_wp2_with fail
  refine HSM.out.mono ?_;rintro e w3 ⟨rfl,hB3⟩;have r2:=(hB3.cell (p:=⟨w.heap.size,2,none⟩) hocz).trans q2;have r3:=(hB3.cell (p:=⟨w.heap.size,3,none⟩) hocz).trans q3;have hz3:=hB3.size;have hw3:Below w.heap.size w w3:=HC.out.2.1.trans (hB3.mono HC.out.2.1.size);have HEV:=Aa (JZ w3 _ E (HX.out.2.2.2.2.2.2.2.1 w3 hw3) (m:Int));have HB3:=Aa hB3;clear hB3 hw3 q2 q3 HSM;go_wp2_with fail
  refine HEV.out.mono ?_;rintro e w4 ⟨rfl,hB4⟩;have hB4c:Below wc.heap.size wc w4:=HB3.out.trans (hB4.mono hz3);have hoz3:w.heap.size<w3.heap.size:=by omega
  have s2:=(hB4.cell (p:=⟨w.heap.size,2,none⟩) hoz3).trans r2;have s3:=(hB4.cell (p:=⟨w.heap.size,3,none⟩) hoz3).trans r3;have ba4:=(hB4c.block ab haz).trans HC.out.2.2.1;have hz4:=hB4c.size;have HB4:=Aa hB4c;have a0:w4.cell? ⟨ab,0,none⟩=some (.slice fp fr.length fc):=(Ab ba4).trans rfl;have a1:w4.cell? ⟨ab,1,none⟩=some (.slice ap arr.length ac):=(Ab ba4).trans rfl;have haz4:ab<w4.heap.size:=by omega
  have hHK:∀ X,Below w4.heap.size w4 X->Below w1.heap.size w1 X/\Iq w1 X fr arr (some ab) (.slice fp fr.length fc) (.slice ap arr.length ac):=fun X hX=>by
   have h1:Below wc.heap.size wc X:=HB4.out.trans (hX.mono HB4.out.size);obtain⟨LV,SV,AV,tg,g1,g2,g3⟩:=HC.out.2.2.2.1;exact⟨HC.out.1.trans (h1.mono HC.out.1.size),LV,SV,AV,tg,g1.below h1,g2.below h1,g3⟩
  have HHK:=Aa hHK;clear hB4 hB4c ba4 r2 r3 HEV HB3 hHK;rcases HC.out.2.2.2.2 with⟨hok,hEo,rfl,hfr,harr⟩|⟨hbad,rfl,hfr,harr⟩
  ·have hdec:decide (BR (m:Int) E=0)=true:=by simpa using hok
   have hw4:Below w.heap.size w w4:=HC.out.2.1.trans (HB4.out.mono HC.out.2.1.size);have HPL:=Aa (I4 w4 m (.slice (some ⟨pb,po,none⟩) m pcc) (.slice ep E.length ec) F K H E N (Pg.of_prog (pc:=pcc) (HX.out.2.2.2.2.2.1.below hw4 (Te _))) HX.out.2.2.2.2.2.2.1 hEo (HX.out.2.2.2.2.2.2.2.1 w4 hw4));have HEQ:=Aa (Tc hfr harr);clear hok hEo hfr harr hw4;rw[hdec];clear hdec;go_wp2_with (go_at_call 78;refine(FQ _ _).mono ?_;rintro e w' ⟨rfl,rfl⟩)
   refine HPL.out.mono ?_;rintro e w5 ⟨rb,rfl,hB5,A2,l2⟩;have b0:=(hB5.cell (p:=⟨ab,0,none⟩) haz4).trans a0;have b1:=(hB5.cell (p:=⟨ab,1,none⟩) haz4).trans a1;have hz5:=hB5.size;obtain⟨hfr,harr⟩:=HEQ.out;have hoc:Calls prog 59 #[.agg #[.slice fp fr.length fc,.slice ap arr.length ac],.pointer (some ⟨rb,0,none⟩)] w5 fun e w'=>e=.returned (.bool true)/\Below w5.heap.size w5 w':=by
    obtain⟨LV,SV,AV,tg,g1,g2,_⟩:=(HHK.out w5 hB5).2;have e1:(C2 (Bk F E N)).fr=fr:=hfr.symm;have e2:(C2 (Bk F E N)).arr=arr:=harr.symm;have hst:=Mv w5 _ rb A2 (C2 (Bk F E N)) fp ap fc ac l2 (by rw[e1];exact g1.frin) (by rw[e2];exact g2.arin) (by rw[e1];have:=HSZ.out.1;omega) (by rw[e2];have:=HSZ.out.2.1;omega) (by rw[e1];exact HSZ.out.2.2.1) (by rw[e2];exact HSZ.out.2.2.2);rw[e1,e2] at hst;exact hst
   have HOC:=Aa hoc;have HB5:=Aa hB5;clear hoc hB5 l2 hfr harr a0 a1 s2 s3 HPL HEQ;go_wp2_with fail
   refine HOC.out.mono ?_;rintro e w6 ⟨rfl,hB6⟩;have haz5:ab<w5.heap.size:=by omega
   have hz6:=hB6.size;have f0:=(hB6.cell (p:=⟨ab,0,none⟩) haz5).trans b0;have f1:=(hB6.cell (p:=⟨ab,1,none⟩) haz5).trans b1;have HK:=Aa (fun (X:World) (hX:Below w6.heap.size w6 X)=>HHK.out X ((HB5.out.trans (hB6.mono HB5.out.size)).trans (hX.mono (by omega))));clear hB6 b0 b1 HOC HB5;go_wp2_with fail
   refine AG (fun w'=>w'.cell? ⟨ab,0,none⟩=some (.slice fp fr.length fc)/\w'.cell? ⟨ab,1,none⟩=some (.slice ap arr.length ac)) [(false,0),(false,1),(false,2),(false,3),(true,4)] (by kernel_rfl) (by kernel_rfl) (fun c0 a0 d0 v0 z0 h0=>A8 (P:=prog) f62 (Cn w B wb n nc CV PV M FF) c0 a0 d0 v0 z0 h0) ⟨f0,f1⟩ ?_;simp only[lexL,Tl,Tm];iterate 4 (refine Aw (by rfl) (by intro w' hS';obtain⟨q0,q1⟩:=hS';go_simp;exact rfl) ?_;simp only[Act.put,Td,Th,Tg])
   refine Az (fun K' hK=>?_);go_simp;refine(Md HX.out.1 HW1.out.1 (HK.out _ (Tu _ _).drew).1 fr arr ab fp ap fc ac hab (HK.out _ (Tu _ _).drew).2 HSZ.out.1 HSZ.out.2.1 HSZ.out.2.2.1 HSZ.out.2.2.2 HX.out.2.2.2.2.2.2.2.2).mono ?_;rintro e w7 ⟨rfl,hQ,hblk⟩;have HQ:=Aa hQ;have hb7:=hblk (by show ab<w6.heap.size;omega);refine hK.out _ _ ⟨(Tw (a:=⟨ab,0,none⟩) hb7).trans f0,(Tw (a:=⟨ab,1,none⟩) hb7).trans f1⟩ ?_;clear hK K' hQ hblk hb7 f0 f1;refine AF ?_;go_wp2;go_ret;exact HQ.out
  ·have hdec:decide (BR (m:Int) E=0)=false:=by simpa using hbad
   have HK:=Aa (fun (X:World) (hX:Below w4.heap.size w4 X)=>HHK.out X hX);subst hfr harr;simp only[List.length_nil] at a0 a1;clear hbad;rw[hdec];clear hdec s2 s3;go_wp2_with (go_at_call 78;refine(FQ _ _).mono ?_;rintro e w' ⟨rfl,rfl⟩)
   refine AG (fun w'=>w'.cell? ⟨ab,0,none⟩=some (.slice fp 0 fc)/\w'.cell? ⟨ab,1,none⟩=some (.slice ap 0 ac)) [(false,0),(false,1),(false,2),(false,3),(true,4)] (by kernel_rfl) (by kernel_rfl) (fun c0 a0 d0 v0 z0 h0=>A8 (P:=prog) f62 (Cn w B wb n nc CV PV M FF) c0 a0 d0 v0 z0 h0) ⟨a0,a1⟩ ?_;simp only[lexL,Tl,Tm];iterate 4 (refine Aw (by rfl) (by intro w' hS';obtain⟨q0,q1⟩:=hS';go_simp;exact rfl) ?_;simp only[Act.put,Td,Th,Tg])
   refine Az (fun K' hK=>?_);go_simp;refine(Md HX.out.1 HW1.out.1 (HK.out _ (Tu _ _).drew).1 [] [] ab fp ap fc ac hab (HK.out _ (Tu _ _).drew).2 HSZ.out.1 HSZ.out.2.1 HSZ.out.2.2.1 HSZ.out.2.2.2 HX.out.2.2.2.2.2.2.2.2).mono ?_;rintro e w7 ⟨rfl,hQ,hblk⟩;have HQ:=Aa hQ;have hb7:=hblk haz4;refine hK.out _ _ ⟨(Tw (a:=⟨ab,0,none⟩) hb7).trans a0,(Tw (a:=⟨ab,1,none⟩) hb7).trans a1⟩ ?_;clear hK K' hQ hblk hb7 a0 a1;refine AF ?_;go_wp2;go_ret;exact HQ.out
theorem MU(w:World)(B wb:Nat)(A:AN)(n:Nat->Nat)(nc:Nat)(CV PV:Nat->Value)(M:Nat->Nat)(FF:Nat->Nat->PF)(h:B3 w B wb A n nc CV PV M FF)(at_ N:Int)(ep pp:Option Addr)(ec pl pc:Nat)(E:List Ev)(hEv:Bs w w.heap.size (.slice ep E.length ec) E)(hEl:E.length<=5864062014805)(hat:-9223372036854775808<=at_/\at_<=9223372036854775807)(hnc:1<=nc)(hnc2:nc<=10000000)(hnb:∀ k,k<4->n k<=3000000000000) :
  Calls prog 38 #[.pointer (some ⟨wb,0,none⟩),.agg #[.int .i64 6,.int .i64 at_,.int .i64 N,.slice ep E.length ec,.slice pp pl pc]] w (Cn w B wb n nc CV PV M FF):=by
 have hcr:=h.cr;have hpr:=h.pr;obtain⟨crb,crc,hcv,_,hcz,hct,_⟩:=hcr.form (by omega);obtain⟨prb,prc,hpv,_,hpz,hpt,_⟩:=hpr.form (by omega);rw[hcv] at hcr;rw[hpv] at hpr;have x0:w.cell? ⟨wb,0,none⟩=some (.slice (some ⟨crb,0,none⟩) nc crc):=by rw[Ab h.hold.blk,<-hcv];rfl
 have x1:w.cell? ⟨wb,1,none⟩=some (.slice (some ⟨prb,0,none⟩) nc prc):=by rw[Ab h.hold.blk,<-hpv];rfl
 have hwz:=Ah h.hold.blk;obtain⟨W,hWd⟩:∃ W,W=w.alloc (.cells #[.int .i64 6,.int .i64 at_,.int .i64 N,.slice ep E.length ec,.slice pp pl pc] 100):=⟨_,rfl⟩
 have hW:Below w.heap.size w W:=by rw[hWd];exact(Tu _ _).alloc (Te _) _
 have ob:W.heap[w.heap.size]?=some (.cells #[.int .i64 6,.int .i64 at_,.int .i64 N,.slice ep E.length ec,.slice pp pl pc] 100 (0,0)):=by rw[hWd];exact Tv _ _
 have o1:W.cell? ⟨w.heap.size,1,none⟩=some (.int .i64 at_):=(Ab ob).trans rfl;have y0:=(hW.cell (p:=⟨wb,0,none⟩) hwz).trans x0;have y1:=(hW.cell (p:=⟨wb,1,none⟩) hwz).trans x1;have hrc:=fun r (hr:r<nc)=>(hW.cell (p:=⟨crb,r,none⟩) hcz).trans (hcr.cell (i:=r) (by omega))
 have hrp:=fun r (hr:r<nc)=>(hW.cell (p:=⟨prb,r,none⟩) hpz).trans (hpr.cell (i:=r) (by omega))
 have HX:=Aa (Tc h (Tc hnb (Tc hW (Tc ob (Tc hrc (Tc hrp hEv))))));have HD:=Aa hWd;clear h hnb hcr hpr hcv hpv x0 x1 hW ob hrc hrp hct hpt hWd hEv;have hoz:w.heap.size<W.heap.size:=Ah HX.out.2.2.2.1;have hwzW:wb<W.heap.size:=by omega
 go_enter func38,ntmps38
 go_wp2_with fail
 rw[<-HD.out];refine AG (fun w'=>w'.cell? ⟨w.heap.size,1,none⟩=some (.int .i64 at_)/\w'.cell? ⟨wb,0,none⟩=some (.slice (some ⟨crb,0,none⟩) nc crc)) TH (by kernel_rfl) (by kernel_rfl) (Co _ _ _) ⟨o1,y0⟩ ?_;simp only[TH,lexL,Tl,Tm];iterate 7 (refine Aw (by rfl) (by intro w' hS';obtain⟨q0,q1⟩:=hS';go_simp;exact rfl) ?_;simp only[Act.put,Td,Th,Tg])
 refine Az (fun K hK=>?_);go_simp;refine(Gi at_ (nc:Int) W.drew hat (by omega)).mono ?_;rintro e w' ⟨r,rfl,hr,rfl⟩;refine hK.out _ _ ⟨o1,y0⟩ ?_;clear hK K;refine Aw (by rfl) (by intro w' hS';go_simp;exact rfl) ?_;simp only[Act.put,Td,Th,Tg];refine AF ?_;have hrn:r<nc:=by omega
 obtain⟨cb,g,cap,CA,CC,pb,po,pcc,CA2,CC2,K,H,ecv,c1,hP,hcc,epv,hP2,hF,hcbz⟩:=Gw (HX.out.1.cd r hrn);have z0:=HX.out.2.2.2.2.1 r hrn;have z1:=HX.out.2.2.2.2.2.1 r hrn;rw[ecv] at z0;rw[epv] at z1;have hWB:=HX.out.2.2.1;have hWd2:Below W.heap.size W W.drew:=(Tu _ _).drew;have hww:Below w.heap.size w W.drew:=hWB.trans (hWd2.mono hWB.size);have hEX:Bs W.drew W.drew.heap.size (.slice ep E.length ec) E:=by
  obtain⟨p',c',hv,h1,h2⟩:=HX.out.2.2.2.2.2.2.below hww;refine⟨p',c',hv,h1,fun h0=>?_⟩;obtain⟨eb,eo,e1,e2,e3⟩:=h2 h0;exact⟨eb,eo,e1,by have:=hww.size;omega,e3⟩
 have HR:=Aa (NG W.drew B wb A n nc CV PV M FF (HX.out.1.below hww) cb g cap (M r) (FF r) K H CA CC pb po pcc CA2 CC2 6 at_ N ep pp ec pl pc E ((hww.cell (p:=⟨cb,0,none⟩) hcbz).trans c1) (hP.below hww (Te _)) hcc (hP2.below hww (Te _)) hF hEX hEl HX.out.2.1);have o0:W.cell? ⟨w.heap.size,0,none⟩=some (.int .i64 6):=(Ab HX.out.2.2.2.1).trans rfl;have o2:W.cell? ⟨w.heap.size,2,none⟩=some (.int .i64 N):=(Ab HX.out.2.2.2.1).trans rfl;have o3:W.cell? ⟨w.heap.size,3,none⟩=some (.slice ep E.length ec):=(Ab HX.out.2.2.2.1).trans rfl;have o4:W.cell? ⟨w.heap.size,4,none⟩=some (.slice pp pl pc):=(Ab HX.out.2.2.2.1).trans rfl;have i0:(0:Int)<=(r:Int):=by omega
 have HBW:=Aa (hww.mono HX.out.1.hold.le);clear hP hP2 hF ecv epv c1 hWB hWd2 hww hEX;go_wp2_with fail
 refine HR.out.mono ?_;rintro e w2 ⟨rfl,hB2,hA2⟩;have HQ:=Aa (show Cn w B wb n nc CV PV M FF (.returned (.bool true)) w2 from ⟨rfl,HBW.out.trans hB2,hA2⟩);clear hB2 hA2;go_wp2;go_ret;exact HQ.out
theorem Sa:Io 6:=by
 intro w B wb A n nc CV PV M FF o h ho h2 h4 hnc hnc2 hnb;have:o.kd<=5\/o.kd=6:=by omega
 rcases this with e|e
 ·exact L8 w B wb A n nc CV PV M FF o h ho h2 e hnc hnc2 hnb
 ·rw[e];have hv:=ho.ev.evv ho.cap;have hr:=MU w B wb A n nc CV PV M FF h o.at_ o.num o.ep o.pp o.ec o.pl o.pc (Fh o.el o.ev) hv (by rw[F4];have:=ho.el;omega) ho.at_ hnc hnc2 hnb;rw[F4] at hr;exact hr
theorem OS(w:World)(sp:Option Addr)(sl sc:Nat)(OP:Nat->DK)(hin:G8 w sp sl OP)(hsl:sl<=1048576)(ht:Cb w)(hw:0<w.heap.size) :
  Calls prog 11 #[.slice sp sl sc] w fun e w'=>e=.returned (.bool true)/\Below w.heap.size w w':=by
 have HI:=Aa (Tc hin ht);clear hin ht;go_enter func11,ntmps11
 go_wp2_with fail
 refine(Ks 6 Sa w sp sl sc OP HI.out.1 hsl HI.out.2 hw).mono ?_;rintro e w2 ⟨rfl,hB⟩;have HB:=Aa hB;clear hB;go_wp2;go_ret;exact⟨rfl,HB.out⟩
open Go.ChangeShapes Go.WideShapes Go.ChangeAt Go.RowKit
theorem Tryz.own:ownKnob Tryz.prog.godebug=none:=by kernel_rfl
theorem Tryz.laidOut:laidOutB Tryz.prog=true:=by kernel_rfl
theorem FC:Tryz.prog.globalNamed "upshift/check.effects"=some 0:=by kernel_rfl
theorem Jd:(Tryz.prog.globals[0]?).map (·.type)=some 194:=by kernel_rfl
theorem Tryz.cells185:Tryz.prog.cellsOf 185=2:=by kernel_rfl
theorem Tryz.cells194:Tryz.prog.cellsOf 194=44:=by kernel_rfl
def EK{H:Type}(i:Nat):DataW H:=.agg [.lit (.int .i64 (A6 i)),.lit (.int .i64 (Bc i))]
theorem JB{H:Type}:(Rows.laid_upshift_check_effects:DataW H)=.agg ((List.range 22).map EK):=by rfl
theorem I6{W:World}(h:laidMetH Tryz.prog Rows.allUptoRow.laid W):Cb W:=by
 have h':laidMet Tryz.prog [("upshift/check.effects",Rows.laid_upshift_check_effects)] W:=h;obtain⟨ps,⟨g',t',cs,fuel,p,q,hg',ht',hvar,hd,_,_⟩,_⟩:=h';obtain rfl:=Option.some.inj (FC.symm.trans hg');obtain rfl:=Option.some.inj (Jd.symm.trans ht');rw[JB] at hd;obtain⟨xs,m,_,hx,hl,hxl,hf⟩:=DataW.trod_array Tryz.underlying194 hd;rw[Tryz.cells194] at hl;have hxs:xs.map (·.1)=(List.range 22).map EK:=by
  have:=(Prod.mk.inj hx).1;injection this with this;exact this.symm
 intro o ho;have h1:=hf o ho;rw[Tryz.cells185,List.getElem?_eq_getElem (by omega)] at h1;obtain⟨y0,y1,n',hy,hlen,g0,g1⟩:=trod_struct2 Tryz.underlying185 h1;simp only[Tryz.cells3] at g0 g1;obtain⟨z0,e0,d0,_⟩:=DataW.trod_int Tryz.underlying3 g0;obtain⟨z1,e1,d1,_⟩:=DataW.trod_int Tryz.underlying3 g1;have hxo:(xs[o]'(by omega)).1=EK o:=by
  have:=congrArg (·[o]?) hxs;simp only[List.getElem?_map,List.getElem?_range ho,List.getElem?_eq_getElem (show o<xs.length by omega),Option.map_some,Option.some.injEq] at this;exact this
 rw[hy] at hxo;subst d0;subst d1;unfold EK at hxo;simp only[DataW.agg.injEq,List.cons.injEq,DataW.lit.injEq,Lit.int.injEq,true_and,and_true] at hxo;obtain⟨q0,q1⟩:=hxo;have k0:cs.toList[o * 2]?=some (.int .i64 z0):=by
  have:=congrArg (·[0]?) e0;simpa [List.getElem?_take,List.getElem?_drop] using this
 have k1:cs.toList[o * 2+1]?=some (.int .i64 z1):=by
  have:=congrArg (·[0]?) e1;simpa [List.getElem?_take,List.getElem?_drop] using this
 have v0:=World.var?_cell FC hvar (o * 2);have v1:=World.var?_cell FC hvar (o * 2+1);rw[Array.getElem?_toList] at k0 k1;rw[k0,q0] at v0;rw[k1,q1] at v1;exact⟨v0,v1⟩
theorem IH{H:Type}(d:DataW H):1<=Rows.uptoBulk d:=by
 cases d with
 |lit l=>cases l<;>simp[Rows.uptoBulk]
 |nil=>simp[Rows.uptoBulk]
 |ptr d=>simp[Rows.uptoBulk]
 |slice elems spare=>simp[Rows.uptoBulk]
 |agg parts=>simp[Rows.uptoBulk]
 |iface t d=>simp[Rows.uptoBulk]
 |map entries=>simp[Rows.uptoBulk]
 |held h=>simp[Rows.uptoBulk]
theorem Jh{H:Type}(l:List (DataW H)):l.length<=Rows.uptoBulkAll l:=by
 induction l with
 |nil=>simp[Rows.uptoBulkAll]
 |cons x r ih=>have:=IH x;simp only[Rows.uptoBulkAll,Tn];omega
theorem JN{H:Type}{d:DataW H}{sl:Nat}(hd:sl=0\/∃ l r,d=.slice l r/\l.length=sl)(hk:Rows.uptoSmall H [d]=true):sl<=1048576:=by
 rcases hd with rfl|⟨l,r,rfl,rfl⟩
 ·omega
 ·have h:Rows.uptoBulkAll [DataW.slice l r]<=1048576:=of_decide_eq_true hk;simp only[Rows.uptoBulkAll,Rows.uptoBulk] at h;have:=Jh l;omega
theorem Jq(H:Type)(enc:TypeId × Value->H)(W:World)(base:Nat)(args:Array Value)(ds gs:List (DataW H))(before:List MemPlace)
  (hval:∀ (j:Nat) t v,Tryz.f11.params[j]?=some t->args[j]?=some v->Value.okWide Tryz.prog W .any base t v)
  (hW:DataW.Whole enc Tryz.prog Tryz.f11.params.toList Rows.allSpec.vars false W args.toList ds gs before) (hL:laidMetH Tryz.prog Rows.allUptoRow.laid W)
  (Av:(DataW.weightsEach Tryz.prog (Tryz.f11.params.toList++Rows.allSpec.plain.varTypes Tryz.prog) (ds++gs)).all (·<=reachBytes)=true) (hk:Rows.uptoSmall H (ds++gs)=true) :
  Calls Tryz.prog 11 args W fun e W'=>∃ v,e=.returned v/\Rows.allSpec.post enc Tryz.prog Tryz.f11 false true false false W args v W':=by
 have hW':=hW;obtain⟨p,q,hA0,hV,rfl,hfz,hnd⟩:=hW;have hA:DataW.TrodAll enc Tryz.prog W 0 (fun _=>true) true Tryz.f11.params.toList args.toList ds p:=hA0;rw[Tryz.params11] at hA hval Av;obtain⟨v0,vs0,d0,ds0,p0,q0,hargs,rfl,rfl,h0,r0⟩:=trodAll_cons hA;obtain⟨rfl,rfl,rfl⟩:=trodAll_nil r0;obtain rfl:args=#[v0]:=by cases args;simp_all
 obtain⟨rfl,rfl⟩:=trodVars_none hV;clear hA0;simp only[List.append_nil] at hW' hk;have h0k:=h0;obtain⟨fuel,hf⟩:=h0;have hsz1:(DataW.weightsEach Tryz.prog [39] [d0]).all (fun x=>decide (x<=reachBytes))=true:=Av;have hwt:∀ y∈d0.weights Tryz.prog 39,y<=reachBytes:=by
  simp only[DataW.weightsEach,List.append_nil,List.all_eq_true,decide_eq_true_eq] at hsz1;exact fun y hy=>hsz1 y hy
 obtain⟨a0,sl,sc,rfl⟩:=okWide_slice Tryz.underlying39 (hval 0 39 v0 rfl rfl);obtain⟨pa,sl2,sc2,OP,hv,hin,hd⟩:=LR (x:=(d0,p0)) hf hwt;injection hv with e1 e2 e3;subst e1;subst e2;subst e3;have hsl:=JN hd hk;have ht:=I6 hL;have hw:0<W.heap.size:=(FW (ht 0 (by omega)).1).1;have hlt:∀ x∈p0,x.block<W.heap.size:=fun x hx=>by simpa using hW'.lt x (by simpa using hx)
 refine(OS W a0 sl sc OP hin hsl ht hw).mono fun e W' ⟨he,hb⟩=>?_
 subst he;refine⟨_,rfl,_,_,_,[],p0++[],[],hW',?_,?_,rfl,hb.frame _,fun h=>by cases h⟩
 ·exact trodAll_cons_mk (shut_bool Tryz.underlying4 _) trodAll_mk0
 ·exact trodAll_cons_mk (Below.trod Tryz.laidOut (by kernel_rfl) (of_decide_eq_true (by kernel_rfl)) h0k hb hlt) trodAll_mk0
noncomputable def FE(os:Os):World :=
 {World.holding Tryz.prog os ⟨#[],#[],[]⟩ with heap:=(World.holding Tryz.prog os ⟨#[],#[],[]⟩).heap.modify 0 fun
   |.cells _ t frozen=>.cells #[.int .i64 0,.int .i64 1,.int .i64 0,.int .i64 1,.int .i64 0,.int .i64 1,.int .i64 1,.int .i64 0,.int .i64 2,.int .i64 1,.int .i64 2,.int .i64 1,.int .i64 2,.int .i64 1,.int .i64 2,.int .i64 1,.int .i64 2,.int .i64 1,.int .i64 2,.int .i64 1,.int .i64 0,.int .i64 0,.int .i64 1,.int .i64 0,.int .i64 0,.int .i64 1,.int .i64 1,.int .i64 1,.int .i64 1,.int .i64 0,.int .i64 1,.int .i64 1,.int .i64 2,.int .i64 1,.int .i64 3,.int .i64 0,.int .i64 1,.int .i64 1,.int .i64 1,.int .i64 0,.int .i64 1,.int .i64 0,.int .i64 1,.int .i64 2] t frozen
   |o=>o}
theorem I3(os:Os):laidMet Tryz.prog Rows.allUptoRow.laid ((FE os).forCall (fun _ _=>0) ⟨#[],#[.slice none 0 0],[]⟩).memory :=
 laidMet_of_run' 8 (by kernel_rfl) (by kernel_rfl)
theorem reads(os:Os){H:Type}(enc:TypeId × Value->H):∃ places,DataW.whole enc Tryz.prog ((FE os).forCall (fun _ _=>0) ⟨#[],#[.slice none 0 0],[]⟩).memory Tryz.f11.params.toList Rows.allSpec.vars false #[Value.slice none 0 0].toList 8=some ([.nil],[],places) :=
 ⟨[],by kernel_rfl⟩
theorem JG(os:Os)(started:os.Started)(H:Type)(enc:TypeId × Value->H)(F:Stop.Interp) :
  ReturnsInHanded {} Tryz.checked os 11 .any ((Rows.OpenSpec.upto Rows.allSpec).preRow enc Tryz.prog Tryz.f11 Rows.allUptoRow.domain false Rows.allUptoRow.laid) (((Rows.OpenSpec.upto Rows.allSpec).at F).post enc Tryz.prog Tryz.f11 false true false false):=by
 obtain⟨places,hx⟩:=reads os enc;refine returnsInHanded_of_row (C:=Tryz.checked) (s:=Rows.OpenSpec.upto Rows.allSpec) Tryz.own started (by kernel_rfl) Tryz.func11
  (witness_row_at (enc:=enc) (C:=Tryz.checked) false (FE os) #[.slice none 0 0] rfl (by kernel_rfl) (by kernel_rfl) (by kernel_rfl)
   (OpenSpec.preRow_of_cond 8 hx (by kernel_rfl) (fun k hk=>by cases hk;kernel_rfl) (by kernel_rfl) (I3 os))) ?_
 intro W base args ds gs before hval hW _ hcond Av hL _ _;exact Jq H enc W base args ds gs before hval hW hL Av (hcond _ rfl)
theorem Iz:Rows.AllUptoSaid :=
 OpenClaim.holds_of_cond 11 Tryz.f11 rfl rfl rfl rfl rfl rfl rfl ⟨rfl,rfl,rfl,rfl,rfl⟩ rfl rfl rfl rfl rfl (by kernel_rfl) Tryz.func11 (by kernel_rfl)
  (of_decide_eq_true (by kernel_rfl)) (by unfold Func.isWrapper;first|(rw[if_pos (by decide +kernel)];kernel_rfl)|(rw[if_neg (by decide +kernel)];exact⟨rfl,rfl⟩))
  (fun os started H enc _ F=>by rw[OpenClaim.pre_eq_preRow];exact JG os started H enc F)
theorem JK(f:FuncId)(fn:Func)(hf:Tryz.pinned.checked.prog.funcNamed "upshift/upshiftlaw.All"=some f)(hfn:Tryz.pinned.checked.prog.funcs[f]?=some fn) :
  Rows.allUptoCard.stood.looks=Tryz.pinned.checked.prog.looks []/\∀ (j:Nat) t,fn.params[j]?=some t->Tryz.pinned.checked.prog.wantsStandIn t=false:=by
 obtain rfl:f=11:=Option.some.inj ((show Tryz.prog.funcNamed "upshift/upshiftlaw.All"=some 11 by kernel_rfl).symm.trans hf) |>.symm;obtain rfl:fn=Tryz.f11:=(Option.some.inj (Tryz.func11.symm.trans hfn)).symm;refine⟨by kernel_rfl,fun j t ht=>?_⟩;rw[Tryz.params11] at ht;obtain rfl:t=39:=by simpa using Array.mem_of_getElem? ht
 exact(show Tryz.prog.wantsStandIn 39=false by kernel_rfl)
theorem all_upto_card:Rows.AllUptoCardSaid :=
 Claim7.holds_tied_plain_at .later [] _ _ _ _ Iz (fun _ h=>by cases h) (by kernel_rfl) (fun _ h=>by cases h) allUpto_row_tie rfl ⟨rfl,rfl⟩ (by kernel_rfl) rfl JK (by kernel_rfl)
#print axioms all_upto_card
end Go.Proofs.YtkafkipjedpohaaGreatDoor

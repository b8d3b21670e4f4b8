import Derived.Test.YtkafkipjedpohaaGreatDoorM28
import Derived.Test.YtkafkipjedpohaaGreatDoorU7
namespace Go.Proofs.YtkafkipjedpohaaGreatDoor
set_option maxRecDepth 100000
set_option maxHeartbeats 16000000
open Go.RowKit _root_.Go.Proofs.Tryz
theorem Tryz.infoFrame:(prog.info? 73).map (fun i=>(i.zero,i.size,i.bytes))=some (some (.agg #[.int .i64 0,.int .i64 0,.slice none 0 0,.slice none 0 0]),4,64):=by kernel_rfl
theorem Tryz.infoVals:(prog.info? 44).map (fun i=>(i.zero,i.size,i.bytes))=some (some (.slice none 0 0),1,24):=by kernel_rfl
def DZ(w w':World)(fr:List Fr)(arr:List (List V))(e:Ending):Prop :=
 ∃ fv av LV SV AV tag,e=.returned (.agg #[fv,av])/\Below w.heap.size w w'/\Cc w' w.heap.size tag fv LV SV (Am fr) fr.length/\Cd w' w.heap.size tag av AV arr arr.length
structure Er (w wr:World) (fl:Value) (n:Nat) (fr:Nat->Fr) (FB:Nat->Nat) (tag:Nat->Nat) (v:Value) (LV SV:Nat->Value) (k:Nat):Prop where
 bl:Below w.heap.size w wr
 res:wr.heap[w.heap.size]?=some (.cells #[.slice none 0 0,.slice none 0 0] 53 (0,0))
 st:wr.heap[w.heap.size+1]?=some (.cells #[v,.slice none 0 0] 53 (0,0))
 t9:tag w.heap.size=9
 t0:tag (w.heap.size+1)=0
 list:Ae wr w.heap.size tag 7 133 1 fl n (CE FB)
 out:Cc wr w.heap.size tag v LV SV fr k
def GF(w wr:World)(fl:Value)(fr:List Fr)(FB:Nat->Nat)(k:Nat):Prop:=∃ tag v LV SV,Er w wr fl fr.length (Am fr) FB tag v LV SV k
section
variable {w wr w4:World}{n k:Nat}{fr:Nat->Fr}{tag FB:Nat->Nat}{v lv fl av:Value}{LV SV AV:Nat->Value}{arr:List (List V)}
theorem Er.keep{wx:World}{tag':Nat->Nat}(h:Er w wr fl n fr FB tag v LV SV k)(c:Ch w.heap.size (fun _=>False) tag tag' wr wx):Er w wx fl n fr FB tag' v LV SV k:=by
 obtain⟨r1,r2⟩:=Bq h.res c (fun h=>h);obtain⟨s1,s2⟩:=Bq h.st c (fun h=>h);exact⟨h.bl.trans (c.below h.bl.size),r1,s1,r2.trans h.t9,s2.trans h.t0,h.list.keep c (fun h=>h),h.out.keep c (fun h=>h) (fun _ _=>⟨fun h=>h,fun h=>h⟩)⟩
theorem Er.copied{w3:World}(h:Er w wr fl n fr FB tag v LV SV k){sv:Value}{l1 l2:List V}(hB3:Below wr.heap.size wr w3)(hO3:Bh wr w3 lv l1)(hB4:Below w3.heap.size w3 w4)(hO4:Bh w3 w4 sv l2) :
  ∃ tag',Er w w4 fl n fr FB tag' v LV SV k/\Ae w4 w.heap.size tag' (11+4 * k) 43 2 lv l1.length (Ar l1)/\Ae w4 w.heap.size tag' (12+4 * k) 43 2 sv l2.length (Ar l2):=by
 have hs:=h.bl.size;have hs3:=hB3.size;have c3:=Ch.tagged (B:=w.heap.size) hB3 (fun _=>False) tag (11+4 * k);have c4:=Ch.tagged (B:=w.heap.size) hB4 (fun _=>False) (fun b=>if b<wr.heap.size then tag b else 11+4 * k) (12+4 * k);exact⟨_,(h.keep c3).keep c4,(hO3.tagged hs tag (11+4 * k)).keep c4 (fun h=>h),hO4.tagged (by omega) _ _⟩
theorem Er.more{w5:World}(h:Er w w4 fl n fr FB tag v LV SV k){sv:Value}(hl:Ae w4 w.heap.size tag (11+4 * k) 43 2 lv (fr k).loc.length (Ar (fr k).loc))(hs:Ae w4 w.heap.size tag (12+4 * k) 43 2 sv (fr k).stk.length (Ar (fr k).stk.reverse)){g cap:Nat}(o:Obj)
  (hown:w5.ownsRow w.heap.size 73 4 (.slice (some ⟨g,0,none⟩) (k+1) cap) (k+1) ((List.range (k * 4)).map (Cx fr LV SV)++[.int .i64 (fr k).fn,.int .i64 (fr k).pc,lv,sv])) (hgrow:(w4.alloc o).grownBy w5 v.ownBlock) (hat:v.ownBlock=some g\/g=w4.heap.size+1) :
  Below w.heap.size w w5/\w5.heap[w.heap.size+1]?=some (.cells #[v,.slice none 0 0] 53 (0,0))/\∃ tag',Er w (w5.setCell ⟨w.heap.size+1,0,none⟩ (.slice (some ⟨g,0,none⟩) (k+1) cap)) fl n fr FB tag' (.slice (some ⟨g,0,none⟩) (k+1) cap) (Ac LV k lv) (Ac SV k sv) (k+1):=by
 have hX:Ch w.heap.size (fun _=>False) tag tag w4 (w4.alloc o):=Ch.of_below ((Tu _ _).alloc (Te _) _);have h1:=h.keep hX;obtain⟨tag',hfo,hch⟩:=h1.out.add (hl.keep hX (fun h=>h)) (hs.keep hX (fun h=>h)) hown hgrow (by rcases hat with h|h;exact Or.inl h;right;rw[h];simp);obtain⟨r1,r2⟩:=Bq h1.res hch (by rw[h1.t9];omega);obtain⟨s1,s2⟩:=Bq h1.st hch (by rw[h1.t0];omega);have hcs:Ch w.heap.size (fun d=>d=0) tag' tag' w5 (w5.setCell ⟨w.heap.size+1,0,none⟩ (.slice (some ⟨g,0,none⟩) (k+1) cap)):=Ch.set w5 _ _ _ (by omega) (s2.trans h1.t0);obtain⟨q1,q2⟩:=Bq r1 hcs (by rw[r2,h1.t9];omega);refine⟨h1.bl.trans (hch.below h1.bl.size),s1,tag',(h1.bl.trans (hch.below h1.bl.size)).trans (hcs.below (by have:=h1.bl.size;have:=hch.size;omega)),q1,?_,q2.trans (r2.trans h1.t9),s2.trans h1.t0,(h1.list.keep hch (by omega)).keep hcs (by omega),hfo.keep hcs (by omega) (fun i _=>⟨by omega,by omega⟩)⟩;exact AM (o:=0) s1 _
theorem GF.first{W w2:World}{fp:Option Addr}{fc:Nat}{fr:List Fr}(hW:Below w.heap.size w W)(hz:W.heap.size=w.heap.size+2)(b0:W.heap[w.heap.size]?=some (.cells #[.slice none 0 0,.slice none 0 0] 53 (0,0)))(b1:W.heap[w.heap.size+1]?=some (.cells #[.slice none 0 0,.slice none 0 0] 53 (0,0)))
  (hB:Below W.heap.size W w2) (hO:F1 W w2 (.slice fp fr.length fc) fr.length FB):GF w w2 (.slice fp fr.length fc) fr FB 0:=by
 refine⟨fun b=>if b=w.heap.size then 9 else if b=w.heap.size+1 then 0 else 7,.slice none 0 0,fun _=>.slice none 0 0,fun _=>.slice none 0 0,⟨hW.trans (hB.mono (by omega)),(hB.block _ (by omega)).trans b0,(hB.block _ (by omega)).trans b1,?_,?_,?_,⟨Ae.nil _ _ _ _ _ _ _,fun i hi=>by omega,fun i hi=>by omega⟩⟩⟩
 ·show (if w.heap.size=w.heap.size then 9 else _)=9;rw[if_pos rfl]
 ·show (if w.heap.size+1=w.heap.size then 9 else if w.heap.size+1=w.heap.size+1 then 0 else 7)=0;rw[if_neg (by omega),if_pos rfl]
 ·rcases hO with h|⟨g,cap,cur,hv,hg,_,hr⟩
  ·exact Or.inl h
  ·refine Or.inr ⟨g,cap,cur,hv,by omega,?_,hr⟩;show (if g=w.heap.size then 9 else if g=w.heap.size+1 then 0 else 7)=7;rw[if_neg (by omega),if_neg (by omega)]
structure D8 (w wr:World) (n:Nat) (fr:Nat->Fr) (arr:List (List V)) (tag:Nat->Nat) (v:Value) (LV SV:Nat->Value) (av:Value) (AV:Nat->Value) (k:Nat):Prop where
 bl:Below w.heap.size w wr
 res:wr.heap[w.heap.size]?=some (.cells #[.slice none 0 0,.slice none 0 0] 53 (0,0))
 st:wr.heap[w.heap.size+1]?=some (.cells #[v,av] 53 (0,0))
 t9:tag w.heap.size=9
 t0:tag (w.heap.size+1)=0
 out:Cc wr w.heap.size tag v LV SV fr n
 ars:Cd wr w.heap.size tag av AV arr k
theorem D8.keep{wx:World}{tag':Nat->Nat}(h:D8 w wr n fr arr tag v LV SV av AV k)(c:Ch w.heap.size (fun _=>False) tag tag' wr wx):D8 w wx n fr arr tag' v LV SV av AV k:=by
 obtain⟨r1,r2⟩:=Bq h.res c (fun h=>h);obtain⟨s1,s2⟩:=Bq h.st c (fun h=>h);exact⟨h.bl.trans (c.below h.bl.size),r1,s1,r2.trans h.t9,s2.trans h.t0,h.out.keep c (fun h=>h) (fun _ _=>⟨fun h=>h,fun h=>h⟩),h.ars.keep c (fun h=>h) (fun _ _ h=>h)⟩
theorem D8.copied{w3:World}(h:D8 w wr n fr arr tag v LV SV av AV k){l1:List V}(hB3:Below wr.heap.size wr w3)(hO3:Bh wr w3 lv l1) :
  ∃ tag',D8 w w3 n fr arr tag' v LV SV av AV k/\Ae w3 w.heap.size tag' (13+4 * k) 43 2 lv l1.length (Ar l1) :=
 ⟨_,h.keep (Ch.tagged (B:=w.heap.size) hB3 (fun _=>False) tag (13+4 * k)),hO3.tagged h.bl.size tag (13+4 * k)⟩
theorem D8.more{w5:World}(h:D8 w w4 n fr arr tag v LV SV av AV k)(hl:Ae w4 w.heap.size tag (13+4 * k) 43 2 lv (arr.getD k []).length (Ar (arr.getD k []))){g cap:Nat}(o:Obj)
  (hown:w5.ownsRow w.heap.size 44 1 (.slice (some ⟨g,0,none⟩) (k+1) cap) (k+1) ((List.range (k * 1)).map AV++[lv])) (hgrow:(w4.alloc o).grownBy w5 av.ownBlock) (hat:av.ownBlock=some g\/g=w4.heap.size+1) :
  Below w.heap.size w w5/\w5.heap[w.heap.size+1]?=some (.cells #[v,av] 53 (0,0))/\∃ tag',D8 w (w5.setCell ⟨w.heap.size+1,1,none⟩ (.slice (some ⟨g,0,none⟩) (k+1) cap)) n fr arr tag' v LV SV (.slice (some ⟨g,0,none⟩) (k+1) cap) (Ac AV k lv) (k+1):=by
 have hX:Ch w.heap.size (fun _=>False) tag tag w4 (w4.alloc o):=Ch.of_below ((Tu _ _).alloc (Te _) _);have h1:=h.keep hX;obtain⟨tag',hfo,hch⟩:=h1.ars.add (hl.keep hX (fun h=>h)) hown hgrow (by rcases hat with h|h;exact Or.inl h;right;rw[h];simp);obtain⟨r1,r2⟩:=Bq h1.res hch (by rw[h1.t9];omega);obtain⟨s1,s2⟩:=Bq h1.st hch (by rw[h1.t0];omega);have hcs:Ch w.heap.size (fun d=>d=0) tag' tag' w5 (w5.setCell ⟨w.heap.size+1,1,none⟩ (.slice (some ⟨g,0,none⟩) (k+1) cap)):=Ch.set w5 _ _ _ (by omega) (s2.trans h1.t0);obtain⟨q1,q2⟩:=Bq r1 hcs (by rw[r2,h1.t9];omega);refine⟨h1.bl.trans (hch.below h1.bl.size),s1,tag',(h1.bl.trans (hch.below h1.bl.size)).trans (hcs.below (by have:=h1.bl.size;have:=hch.size;omega)),q1,?_,q2.trans (r2.trans h1.t9),s2.trans h1.t0,(h1.out.keep hch (by omega) (fun i _=>⟨by omega,by omega⟩)).keep hcs (by omega) (fun i _=>⟨by omega,by omega⟩),hfo.keep hcs (by omega) (fun i _=>by omega)⟩;exact AM (o:=1) s1 _
theorem Lc(w:World)(B mb:Nat)(A:Af)(s:Mc)(en:Int)(hL:AB w B mb A s en)(hfr:s.fr.length<=1000)(har:s.arr.length<=200000)(hls:∀ i,i<s.fr.length->(Am s.fr i).loc.length<=200000/\(Am s.fr i).stk.length<=200000)(hal:∀ j,j<s.arr.length->(s.arr.getD j []).length<=200000) :
  Calls prog 42 #[.pointer (some ⟨mb,0,none⟩)] w fun e w'=>DZ w w' s.fr s.arr e:=by
 obtain⟨inf,hi,hz0,hz1,hz2⟩:∃ i,prog.info? 73=some i/\i.zero=some (.agg #[.int .i64 0,.int .i64 0,.slice none 0 0,.slice none 0 0])/\i.size=4/\i.bytes=64:=by
  obtain⟨i,hi,hzz⟩:=Tp.1 Tryz.infoFrame;simp only[Prod.mk.injEq] at hzz;exact⟨i,hi,hzz.1,hzz.2.1,hzz.2.2⟩
 obtain⟨inf2,hi2,hz02,hz12,hz22⟩:∃ i,prog.info? 44=some i/\i.zero=some (.slice none 0 0)/\i.size=1/\i.bytes=24:=by
  obtain⟨i,hi,hzz⟩:=Tp.1 Tryz.infoVals;simp only[Prod.mk.injEq] at hzz;exact⟨i,hi,hzz.1,hzz.2.1,hzz.2.2⟩
 obtain⟨W,hWd⟩:∃ W,W=(w.alloc (.cells #[.slice none 0 0,.slice none 0 0] 53)).alloc (.cells #[.slice none 0 0,.slice none 0 0] 53):=⟨_,rfl⟩
 have hW:Below w.heap.size w W:=by rw[hWd];exact((Tu _ _).alloc (Te _) _).alloc (by simp) _
 have l1:=hL.below hW;have hz:W.heap.size=w.heap.size+2:=by rw[hWd];simp
 have hlist:=Ja W mb 3 B A.tag 1 A.fv s.fr.length A.FB ((Ab l1.run).trans rfl) l1.fr (by omega);have b0:W.heap[w.heap.size]?=some (.cells #[.slice none 0 0,.slice none 0 0] 53 (0,0)):=by
  rw[hWd];exact(Ty _ _ _ (by simp)).trans (Tv _ _)
 have b1:W.heap[w.heap.size+1]?=some (.cells #[.slice none 0 0,.slice none 0 0] 53 (0,0)):=by
  rw[hWd];have:=Tv (w.alloc (.cells #[.slice none 0 0,.slice none 0 0] 53)) (.cells #[.slice none 0 0,.slice none 0 0] 53);simpa using this
 have HL:=Aa hL;have HI:=Aa hlist;have HW:=Aa (Tc hW (Tc hz (Tc b0 b1)));have hmz:=Ah hL.run;have HH:=Aa (Tc hfr (Tc har (Tc hls hal)));have HD:=Aa hWd;clear l1 hW hz hlist b0 b1 hL hfr har hls hal hWd;go_enter func42,ntmps42
 go_wp2_with fail
 rw[<-HD.out];refine HI.out.mono ?_;rintro e w2 ⟨fl,rfl,hB2,hO2⟩;obtain⟨fp,fc,hfl,_⟩:=Ae.any hO2;subst hfl;have ht0:GF w w2 (.slice fp s.fr.length fc) s.fr A.FB 0:=GF.first HW.out.1 HW.out.2.1 HW.out.2.2.1 HW.out.2.2.2 hB2 hO2;have HT:=Aa ht0;clear ht0 HI hB2 hO2 HW HD;generalize hnf:s.fr.length=nf at *;have HN:=Aa hnf;clear hnf;go_wp2_with fail
 go_loopw [13] (fun v wr=>∃ j:Nat,j<=nf/\v=.int .i64 j/\GF w wr (.slice fp nf fc) s.fr A.FB j) (fun v _=>nf-(intOf v).toNat)
 case atStart=>exact⟨0,by omega,rfl,HT.out⟩
 case round =>
  obtain⟨j,hj,rfl,tag,v,LV,SV,hT⟩:=hrel;have hBr:=hT.bl;have hS:=hT.st;have hfl:=hT.list;have hfo:=hT.out;have hn1000:nf<=1000:=HH.out.1;by_cases hlt:j<nf
  ·have hdec:decide ((j:Int)<(nf:Int))=true:=by simp;omega
   rw[HN.out] at hfl;obtain⟨flb,flc,efl,_,hflz,_,_⟩:=hfl.form (by omega);injection efl with e1 e2 e3;subst e1 e3;have hcj:=hfl.cell (i:=j) (by omega);obtain⟨g1,g2,g3⟩:=HL.out.fb j (by rw[HN.out];exact hlt);have hfz:=Ah g1;have g1r:=(hBr.block _ hfz).trans g1;have hlo:=(HL.out.loc j (by rw[HN.out];exact hlt)).below hBr;have hst:=(HL.out.stk j (by rw[HN.out];exact hlt)).below hBr;unfold CE at hcj;obtain⟨hl1,hl2⟩:=HH.out.2.2.1 j hlt;obtain⟨vp,vc,hv,_⟩:=hfo.row.any;subst hv;obtain⟨lp,lc,hlv,_⟩:=hlo.any;generalize A.FB j=fb at *;generalize A.LV j=lv at *;generalize A.SV j=sv at *;subst hlv;have r0:wr.cell? ⟨fb,0,none⟩=some (.int .i64 (Am s.fr j).fn):=(Ab g1r).trans rfl;have r1:wr.cell? ⟨fb,1,none⟩=some (.int .i64 (Am s.fr j).pc):=(Ab g1r).trans rfl;have r2:wr.cell? ⟨fb,2,none⟩=some (.slice lp (Am s.fr j).loc.length lc):=(Ab g1r).trans rfl;have r3:wr.cell? ⟨fb,3,none⟩=some sv:=(Ab g1r).trans rfl;have s0:wr.cell? ⟨w.heap.size+1,0,none⟩=some (.slice vp j vc):=(Ab hS).trans rfl;have i0:(0:Int)<=(j:Int):=by omega
   have i1:(j:Int)<(nf:Int):=by omega
   have HX:=Aa (Tc hT (Tc hlo (Tc hst (Tc g1r r3))));have hwz:w.heap.size+1<wr.heap.size:=Ah hS;have hfzr:fb<wr.heap.size:=by have:=hBr.size;omega
   clear hBr hS hT hfl hfo hlo hst g1r g1 g2 g3 r3 HT;generalize hff:Am s.fr j=f at *;have HF:=Aa hff;clear hff;go_wp2_with fail
   refine Ka (fun w'=>w'.cell? ⟨w.heap.size+1,0,none⟩=some (.slice vp j vc)/\w'.cell? ⟨fb,0,none⟩=some (.int .i64 f.fn)/\w'.cell? ⟨fb,1,none⟩=some (.int .i64 f.pc)/\w'.cell? ⟨fb,2,none⟩=some (.slice lp f.loc.length lc)) 23 [(false,0),(false,1),(false,2),(false,3),(false,4),(false,5),(false,6),(false,7),(false,8),(false,9),(false,10),(false,11),(false,12),(false,13),(false,15),(false,16),(false,17),(true,14),(true,18),(false,19),(true,20),(true,21),(false,22),(true,23)] (by kernel_rfl) (by kernel_rfl) (fun c0 a0 d0 v0 x0 h0=>A8 (P:=prog) f42 (fun e w'=>DZ w w' s.fr s.arr e) c0 a0 d0 v0 x0 h0) ⟨s0,r0,r1,r2⟩ ?_;simp only[lexL,Tl,Tm];have HS:=Aa (Tc s0 (Tc r0 (Tc r1 r2)));clear s0 r0 r1 r2;iterate 17 (refine Gm (by rfl) (by intro w' hS';obtain⟨q0,q1,q2,q3⟩:=hS';go_simp;exact rfl) ?_;simp only[Act.put,Td,Th,Tg])
   refine Fm (fun K hK=>?_);go_simp;refine(Jw wr.drew B A.tag (11+4 * j) _ f.loc (HX.out.2.1.below (Tu _ _).drew) hl1).mono ?_;rintro e w3 ⟨lv3,rfl,hB3,hO3⟩;obtain⟨p3,c3,e3,_⟩:=Ae.any hO3;subst e3;refine hK.out _ _ ⟨(hB3.cell (p:=⟨w.heap.size+1,0,none⟩) hwz).trans HS.out.1,(hB3.cell (p:=⟨fb,0,none⟩) hfzr).trans HS.out.2.1,(hB3.cell (p:=⟨fb,1,none⟩) hfzr).trans HS.out.2.2.1,(hB3.cell (p:=⟨fb,2,none⟩) hfzr).trans HS.out.2.2.2⟩ ?_;clear hK K;refine Fm (fun K hK=>?_);go_simp;have hz3:wr.heap.size<=w3.heap.size:=hB3.size;have hwz3:w.heap.size+1<w3.heap.size:=by omega
   have hfz3:fb<w3.heap.size:=by omega
   have hst3:=(HX.out.2.2.1.below (Tu _ _).drew).below hB3;have hlr:f.stk.length=f.stk.reverse.length:=by simp
   rw[hlr] at hst3;clear hlr;refine(Sr w3 fb 3 B A.tag (12+4 * j) sv f.stk.reverse ((hB3.cell (p:=⟨fb,3,none⟩) hfzr).trans HX.out.2.2.2.2) hst3 (by rw[List.length_reverse];exact hl2)).mono ?_;rintro e w4 ⟨lv4,rfl,hB4,hO4⟩;obtain⟨p4,c4,e4,_⟩:=Ae.any hO4;subst e4;have s4:w4.cell? ⟨w.heap.size+1,0,none⟩=some (.slice vp j vc):=(hB4.cell (p:=⟨w.heap.size+1,0,none⟩) hwz3).trans ((hB3.cell (p:=⟨w.heap.size+1,0,none⟩) hwz).trans HS.out.1);have u0:w4.cell? ⟨fb,0,none⟩=some (.int .i64 f.fn):=(hB4.cell (p:=⟨fb,0,none⟩) hfz3).trans ((hB3.cell (p:=⟨fb,0,none⟩) hfzr).trans HS.out.2.1);have u1:w4.cell? ⟨fb,1,none⟩=some (.int .i64 f.pc):=(hB4.cell (p:=⟨fb,1,none⟩) hfz3).trans ((hB3.cell (p:=⟨fb,1,none⟩) hfzr).trans HS.out.2.2.1);have u2:w4.cell? ⟨fb,2,none⟩=some (.slice lp f.loc.length lc):=(hB4.cell (p:=⟨fb,2,none⟩) hfz3).trans ((hB3.cell (p:=⟨fb,2,none⟩) hfzr).trans HS.out.2.2.2);have hz4:w3.heap.size<=w4.heap.size:=hB4.size;obtain⟨tag4,T4,L4,S4⟩:=(HX.out.1.keep (Ch.of_below (Tu _ _).drew)).copied hB3 hO3 hB4 hO4;simp only[List.length_reverse] at S4;have H4:=Aa (Tc T4 (Tc L4 S4));refine hK.out _ _ ⟨s4,u0,u1,u2⟩ ?_;have HU:=Aa (Tc s4 (Tc u0 (Tc u1 u2)));clear hK K T4 L4 S4 hst3 hB3 hO3 hB4 hO4 s4 u0 u1 u2 HS;refine Gm (by rfl) (by intro w' hS';go_simp;exact rfl) ?_;simp only[Act.put,Td,Th,Tg];refine Fm (fun K hK=>?_);go_simp;have hwz4:w.heap.size+1<w4.heap.size:=by omega
   have hfz4:fb<w4.heap.size:=by omega
   refine hK.out _ _ ⟨BH HU.out.1 hwz4,BH HU.out.2.1 hfz4,BH HU.out.2.2.1 hfz4,BH HU.out.2.2.2 hfz4⟩ ?_;clear hK K;refine Fm (fun K hK=>?_);refine step_append_lies _ (by rfl) _ _ _ (by rfl) w.heap.size 73 inf _ 4 64 underlying50 hi hz0 hz1 hz2 rfl (by decide) (.slice vp j vc) j _ (by rfl) (by exact H4.out.1.out.row.owns.alloc _) ⟨w4.heap.size,0,none⟩ 1 1 [.int .i64 f.fn,.int .i64 f.pc,.slice p3 f.loc.length c3,.slice p4 f.stk.length c4] (by rfl) (by rfl) (by exact World.news_of_block (Tv w4 _)) (by intro u hu;simp at hu;rcases hu with rfl|rfl|rfl|rfl<;>rfl) (by omega) (by unfold maxLen;have:=HH.out.1;omega) (by have:=HH.out.1;omega) (by simp;omega) (w4.heap.size+1) (by simp) ?_;intro g cap w5 hown hgrow hat hlt;obtain⟨hb5,st5,tag5,T5⟩:=H4.out.1.more (by rw[HF.out];exact H4.out.2.1) (by rw[HF.out];exact H4.out.2.2) _ (by rw[HF.out];exact hown) hgrow hat;have q0:w5.cell? ⟨w.heap.size+1,0,none⟩=some (.slice vp j vc):=(Ab st5).trans rfl;have z0:w5.frozen? ⟨w.heap.size+1,0,none⟩=false:=Ax st5;have k0:=(hb5.cell (p:=⟨fb,0,none⟩) hfz).trans ((H4.out.1.bl.cell (p:=⟨fb,0,none⟩) hfz).symm.trans HU.out.2.1);have k1:=(hb5.cell (p:=⟨fb,1,none⟩) hfz).trans ((H4.out.1.bl.cell (p:=⟨fb,1,none⟩) hfz).symm.trans HU.out.2.2.1);have k2:=(hb5.cell (p:=⟨fb,2,none⟩) hfz).trans ((H4.out.1.bl.cell (p:=⟨fb,2,none⟩) hfz).symm.trans HU.out.2.2.2);have HT5:=Aa T5;refine hK.out _ _ ⟨q0,k0,k1,k2⟩ ?_;clear hK K hown hgrow hat T5 hb5 st5 k0 k1 k2;simp only[Act.put,Td,Th,Tg];refine Gm (by rfl) (by intro w' hS';go_simp;exact rfl) ?_;simp only[Act.put,Td,Th,Tg];refine Lr (fun K hK=>?_);go_simp;refine hK.out _ _ ?_;clear hK K;go_wp2;exact⟨⟨j+1,by omega,by go_num,tag5,_,_,_,HT5.out⟩,by simp[intOf];omega⟩
  ·have hdec:decide ((j:Int)<(nf:Int))=false:=by simp;omega
   obtain rfl:j=nf:=by omega
   have hT1:D8 w wr j (Am s.fr) s.arr tag v LV SV (.slice none 0 0) (fun _=>.slice none 0 0) 0:=⟨hBr,hT.res,hS,hT.t9,hT.t0,hfo,Ae.nil _ _ _ _ _ _ _,fun j hj=>by omega⟩
   have HT1:=Aa hT1;obtain⟨ap,ac,hav,_⟩:=HL.out.ar.any;have x4:wr.cell? ⟨mb,4,none⟩=some (.slice ap s.arr.length ac):=by
    rw[<-hav];exact(hBr.cell (p:=⟨mb,4,none⟩) hmz).trans ((Ab HL.out.run).trans rfl)
   have HAV:=Aa hav;have HFN:=Aa (show j<=1000 from hn1000);clear hT1 hT hBr hS hfl hfo HT hav hn1000;obtain⟨vp,vc,hv,_⟩:=HT1.out.out.row.any;subst hv;generalize hna:s.arr.length=na at *;have HNA:=Aa hna;have hnal:na<=200000:=HH.out.2.1;clear hna;go_wp2_with fail
   go_loopw [46] (fun v wr=>∃ i:Nat,i<=na/\v=.int .i64 i/\∃ tag av AV,D8 w wr j (Am s.fr) s.arr tag (.slice vp j vc) LV SV av AV i) (fun v _=>na-(intOf v).toNat)
   case atStart=>exact⟨0,by omega,rfl,_,_,_,HT1.out⟩
   case round =>
    obtain⟨i,hi1,rfl,tg,av,AV,hT⟩:=hrel;have hBr:=hT.bl;have hS:=hT.st;by_cases hlt2:i<na
    ·have hdec2:decide ((i:Int)<(na:Int))=true:=by simp;omega
     have har:=HL.out.ar;rw[HNA.out,HAV.out] at har;obtain⟨ab,ac',ear,_,habz,_,_⟩:=har.form (by omega);injection ear with e1 e2 e3;subst e1 e3;have hci:=(hBr.cell (p:=⟨ab,i,none⟩) habz).trans (har.cell (i:=i) (by omega));have hai:=(HL.out.arr i (by rw[HNA.out];exact hlt2)).below hBr;have hl1:=HH.out.2.2.2 i hlt2;obtain⟨vp2,vc2,hv2,_⟩:=hT.ars.row.any;subst hv2;obtain⟨lp,lc,hlv,_⟩:=hai.any;generalize A.AV i=lv at *;subst hlv;have s0:wr.cell? ⟨w.heap.size+1,1,none⟩=some (.slice vp2 i vc2):=(Ab hS).trans rfl;have i0:(0:Int)<=(i:Int):=by omega
     have i1:(i:Int)<(na:Int):=by omega
     have HX:=Aa (Tc hT hai);have hwz:w.heap.size+1<wr.heap.size:=Ah hS;clear hBr hS hT hai har HT1;generalize hff:s.arr.getD i []=l at *;have HF:=Aa hff;clear hff;go_wp2_with fail
     refine Ka (fun w'=>w'.cell? ⟨w.heap.size+1,1,none⟩=some (.slice vp2 i vc2)) 7 [(false,0),(false,1),(false,2),(true,3),(true,4),(true,5),(false,6),(true,7)] (by kernel_rfl) (by kernel_rfl) (fun c0 a0 d0 v0 x0 h0=>A8 (P:=prog) f42 (fun e w'=>DZ w w' s.fr s.arr e) c0 a0 d0 v0 x0 h0) s0 ?_;simp only[lexL,Tl,Tm];have HS:=Aa s0;clear s0;iterate 3 (refine Gm (by rfl) (by intro w' hS';go_simp;exact rfl) ?_;simp only[Act.put,Td,Th,Tg])
     refine Fm (fun K hK=>?_);go_simp;refine(Jw wr.drew B A.tag (13+4 * i) _ l (HX.out.2.below (Tu _ _).drew) hl1).mono ?_;rintro e w3 ⟨lv3,rfl,hB3,hO3⟩;obtain⟨p3,c3,e3,_⟩:=Ae.any hO3;subst e3;have s3:=(hB3.cell (p:=⟨w.heap.size+1,1,none⟩) hwz).trans HS.out;have hz3:wr.heap.size<=w3.heap.size:=hB3.size;obtain⟨tag3,T3,L3⟩:=(HX.out.1.keep (Ch.of_below (Tu _ _).drew)).copied hB3 hO3;have H3:=Aa (Tc T3 L3);refine hK.out _ _ s3 ?_;have HU:=Aa s3;clear hK K T3 L3 hB3 hO3 s3 HS;have hwz3:w.heap.size+1<w3.heap.size:=by omega
     refine Fm (fun K hK=>?_);go_simp;refine hK.out _ _ (BH HU.out hwz3) ?_;clear hK K;refine Fm (fun K hK=>?_);refine step_append_lies _ (by rfl) _ _ _ (by rfl) w.heap.size 44 inf2 _ 1 24 underlying51 hi2 hz02 hz12 hz22 rfl (by decide) (.slice vp2 i vc2) i _ (by rfl) (by exact H3.out.1.ars.row.owns.alloc _) ⟨w3.heap.size,0,none⟩ 1 1 [.slice p3 l.length c3] (by rfl) (by rfl) (by exact World.news_of_block (Tv w3 _)) (by intro u hu;simp at hu;subst hu;rfl) (by omega) (by unfold maxLen;omega) (by omega) (by simp;omega) (w3.heap.size+1) (by simp) ?_;intro g cap w5 hown hgrow hat hlt;obtain⟨hb5,st5,tag5,T5⟩:=H3.out.1.more (by rw[HF.out];exact H3.out.2) _ hown hgrow hat;have q0:w5.cell? ⟨w.heap.size+1,1,none⟩=some (.slice vp2 i vc2):=(Ab st5).trans rfl;have z0:w5.frozen? ⟨w.heap.size+1,1,none⟩=false:=Ax st5;have HT5:=Aa T5;refine hK.out _ _ q0 ?_;clear hK K hown hgrow hat T5 hb5 st5;simp only[Act.put,Td,Th,Tg];refine Gm (by rfl) (by intro w' hS';go_simp;exact rfl) ?_;simp only[Act.put,Td,Th,Tg];refine Lr (fun K hK=>?_);go_simp;refine hK.out _ _ ?_;clear hK K;go_wp2;exact⟨⟨i+1,by omega,by go_num,tag5,_,_,HT5.out⟩,by simp[intOf];omega⟩
    ·have hdec2:decide ((i:Int)<(na:Int))=false:=by simp;omega
     obtain rfl:i=na:=by omega
     obtain⟨vp2,vc2,hv2,_⟩:=hT.ars.row.any;subst hv2;have hR:=hT.res;have y0:wr.cell? ⟨w.heap.size+1,0,none⟩=some (.slice vp j vc):=(Ab hS).trans rfl;have y1:wr.cell? ⟨w.heap.size+1,1,none⟩=some (.slice vp2 i vc2):=(Ab hS).trans rfl;have x0:wr.cell? ⟨w.heap.size,0,none⟩=some (.slice none 0 0):=(Ab hR).trans rfl;have x1:wr.cell? ⟨w.heap.size,1,none⟩=some (.slice none 0 0):=(Ab hR).trans rfl;have z0:wr.frozen? ⟨w.heap.size,0,none⟩=false:=Ax hR;have z1:wr.frozen? ⟨w.heap.size,1,none⟩=false:=Ax hR;have hcs:Ch w.heap.size (fun d=>d=9) tg tg wr ((wr.setCell ⟨w.heap.size,0,none⟩ (.slice vp j vc)).setCell ⟨w.heap.size,1,none⟩ (.slice vp2 i vc2)):=(Ch.set wr _ _ _ (Te _) hT.t9).trans (Ch.set _ _ _ _ (Te _) hT.t9);have g0:=AM (o:=1) (AM (o:=0) hR (.slice vp j vc)) (.slice vp2 i vc2);have hfin:DZ w ((wr.setCell ⟨w.heap.size,0,none⟩ (.slice vp j vc)).setCell ⟨w.heap.size,1,none⟩ (.slice vp2 i vc2)) s.fr s.arr (.returned (.agg #[.slice vp j vc,.slice vp2 i vc2])):=by
      refine⟨_,_,LV,SV,AV,tg,rfl,hBr.trans (hcs.below hBr.size),?_,?_⟩
      ·rw[HN.out];exact hT.out.keep hcs (by omega) (fun i _=>⟨by omega,by omega⟩)
      ·rw[HNA.out];exact hT.ars.keep hcs (by omega) (fun i _=>by omega)
     have HQ:=Aa (Tc g0 hfin);clear hT hBr hS hR hcs g0 hfin HT1 x4;go_wp2;obtain⟨g0,hfin⟩:=HQ.out;generalize (wr.setCell ⟨w.heap.size,0,none⟩ (.slice vp j vc)).setCell ⟨w.heap.size,1,none⟩ (.slice vp2 i vc2)=V at *;have v0:V.cell? ⟨w.heap.size,0,none⟩=some (.slice vp j vc):=(Ab g0).trans rfl;have v1:V.cell? ⟨w.heap.size,1,none⟩=some (.slice vp2 i vc2):=(Ab g0).trans rfl;exact bodyPost_ret (v:=.agg #[.slice vp j vc,.slice vp2 i vc2]) (by simp[results,Tryz.results42,go_sem,v0,v1]) rfl hfin
end
section
variable {w:World}{c B n i:Nat}{l:List V}{tag:Nat->Nat}{v:Value}{p:Option Addr}
theorem Ae.args(h:Ae w B tag c 43 2 v l.length (Ar l)):Cq w v l:=by
 rcases h with⟨rfl,h0⟩|⟨b,cap,cur,rfl,hb,ht,hh,hc,hm,hs,hf⟩
 ·exact Or.inl ⟨List.length_eq_zero_iff.1 h0,none,0,rfl⟩
 ·exact Or.inr ⟨b,cap,rfl,Ah hh,fun i hi=>(Ab hh).trans (hf i hi)⟩
theorem Cq.any(h:Cq w v l):∃ p c,v=.slice p l.length c:=by
 rcases h with⟨rfl,a,c,rfl⟩|⟨ab,c,rfl,_⟩
 ·exact⟨a,c,rfl⟩
 ·exact⟨_,c,rfl⟩
theorem Cq.at_(h:Cq w (.slice p n c) l)(hi:i<l.length):∃ b,p=some ⟨b,0,none⟩/\w.cell? ⟨b,i * 2,none⟩=some (.int .i64 (l.getD i As).k)/\w.cell? ⟨b,i * 2+1,none⟩=some (.int .i64 (l.getD i As).n):=by
 rcases h with⟨rfl,_⟩|⟨ab,c,e,_,hf⟩
 ·simp at hi
 ·injection e with e1 e2 e3;refine⟨ab,e1,(hf (i * 2) (by omega)).trans ?_,(hf (i * 2+1) (by omega)).trans ?_⟩
  ·unfold Ar;rw[if_pos (by omega),show i * 2 / 2=i by omega]
  ·unfold Ar;rw[if_neg (by omega),show (i * 2+1) / 2=i by omega]
theorem Cq.below{w':World}(h:Cq w v l)(k:Below w.heap.size w w'):Cq w' v l:=by
 rcases h with h|⟨ab,c,rfl,hab,hf⟩
 ·exact Or.inl h
 ·exact Or.inr ⟨ab,c,rfl,by have:=k.size;omega,fun i hi=>(k.cell (p:=⟨ab,i,none⟩) hab).trans (hf i hi)⟩
theorem Po(a:V)(X:World):(binOp .neq 43 (.agg #[.int .i64 a.k,.int .i64 a.n]) (.agg #[.int .i64 a.k,.int .i64 a.n])).run prog X=.ok (.bool false) X:=by
 have e1:(a.k==a.k)=true:=by simp
 have e2:(a.n==a.n)=true:=by simp
 go_simp
theorem Cc.at_{k:Nat}{LV SV:Nat->Value}{fr:Nat->Fr}(h:Cc w B tag (.slice p n c) LV SV fr k)(hi:i<k) :
  ∃ b,p=some ⟨b,0,none⟩/\b<w.heap.size/\w.cell? ⟨b,i * 4,none⟩=some (.int .i64 (fr i).fn)/\w.cell? ⟨b,i * 4+1,none⟩=some (.int .i64 (fr i).pc)/\w.cell? ⟨b,i * 4+2,none⟩=some (LV i)/\w.cell? ⟨b,i * 4+3,none⟩=some (SV i):=by
 have hr:=h.row;obtain⟨b,cap,e,_,hz,_,_⟩:=hr.form (by omega);injection e with e1 e2 e3;subst e1 e2 e3;refine⟨b,rfl,hz,(hr.cell (i:=i * 4) (by omega)).trans ?_,(hr.cell (i:=i * 4+1) (by omega)).trans ?_,(hr.cell (i:=i * 4+2) (by omega)).trans ?_,(hr.cell (i:=i * 4+3) (by omega)).trans ?_⟩
 ·unfold Cx;rw[if_pos (by omega),show i * 4 / 4=i by omega]
 ·unfold Cx;rw[if_neg (by omega),if_pos (by omega),show (i * 4+1) / 4=i by omega]
 ·unfold Cx;rw[if_neg (by omega),if_neg (by omega),if_pos (by omega),show (i * 4+2) / 4=i by omega]
 ·unfold Cx;rw[if_neg (by omega),if_neg (by omega),if_neg (by omega),show (i * 4+3) / 4=i by omega]
theorem Cd.at_{k:Nat}{AV:Nat->Value}{arr:List (List V)}(h:Cd w B tag (.slice p n c) AV arr k)(hi:i<k) :
  ∃ b,p=some ⟨b,0,none⟩/\b<w.heap.size/\w.cell? ⟨b,i,none⟩=some (AV i):=by
 have hr:=h.row;obtain⟨b,cap,e,_,hz,_,_⟩:=hr.form (by omega);injection e with e1 e2 e3;subst e1 e2 e3;exact⟨b,rfl,hz,hr.cell (i:=i) (by omega)⟩
end
theorem Ez{w:World}{B rb:Nat}{A:Ad}{s:Mc}{f:Fr}{rest:List Fr}(h:Al w B rb A s)(hs:s.fr=f::rest) :
  ∃ fb fcap,w.cell? ⟨rb,1,none⟩=some (.slice (some ⟨fb,0,none⟩) (rest.length+1) fcap)/\A.fv=.slice (some ⟨fb,0,none⟩) (rest.length+1) fcap/\fb<w.heap.size/\B<=fb/\A.tag fb=1:=by
 have hfr:=h.fr;rw[hs,Tn] at hfr;obtain⟨fb,fcap,hfv,hfb,hfz,hft,hfc⟩:=hfr.form (by omega);have r1:w.cell? ⟨rb,1,none⟩=some (.slice (some ⟨fb,0,none⟩) (rest.length+1) fcap):=by rw[Ag.cell h 1];show some A.fv=_;rw[hfv]
 exact⟨fb,fcap,r1,hfv,hfz,hfb,hft⟩
theorem Rl(w:World)(B rb:Nat)(A:Ad)(s:Mc)(f:Fr)(rest:List Fr)(a:Int)(hL:Al w B rb A s)(hs:s.fr=f::rest)(hB:B<=w.heap.size)(hn:f.stk.length<=60)(hr:rest.length<=60) :
  Calls prog 101 #[.pointer (some ⟨rb,0,none⟩),.agg #[.int .i64 0,.int .i64 a]] w fun e w'=>e=.returned (.int .i64 0)/\Br w w' B rb A {s with fr:={f with stk:=Bn a::f.stk}::rest}:=by
 obtain⟨fb,fcap,r1,hfv,hfz,hfb,hft⟩:=Ez hL hs;have hrb:=Ag.lt hL;have HL:=Aa hL;clear hL;generalize hk:rest.length=k at *;have Hk:=Aa hk;clear hk;go_enter func101,ntmps101
 go_wp2_with fail
 go_quiet (fail)
 go_wp2_with fail
 have hbX:Below w.heap.size w ((w.alloc (.cells #[.int .i64 0,.int .i64 a] 33)).drewN nq):=below_drewN ((Tu _ _).alloc (Te _) _) _;have HX:=Aa hbX;clear hbX;generalize (w.alloc (.cells #[.int .i64 0,.int .i64 a] 33)).drewN nq=X at *;refine(Do _ _).mono ?_;rintro e w' ⟨rfl,rfl⟩;have hbY:=HX.out.alloc HX.out.size (.cells #[.int .i64 1,.int .i64 a] 43);have HY:=Aa hbY;have hpush:=Ea (X.alloc (.cells #[.int .i64 1,.int .i64 a] 43)) B rb A s f rest (Bn a) (Al.below HL.out hbY) hs (by have:=hbY.size;omega) (by omega) (by rw[Hk.out];omega);clear hbY;have HP:=Aa hpush;clear hpush;go_wp2_with fail
 refine HP.out.mono ?_;rintro e w5 ⟨rfl,A5,g1,g2,g3,g4,g5,g6,g7⟩;have hfin:Hid (Br w w5 B rb A {s with fr:={f with stk:=Bn a::f.stk}::rest}):=⟨A5,g1,g2,g3,(Ch.of_below HY.out).trans (g7.mono BY)⟩
 clear g1 g7;go_wp2_with fail
 go_ret;exact⟨rfl,hfin.out⟩
theorem N4(w:World)(B rb:Nat)(A:Ad)(s:Mc)(f:Fr)(rest:List Fr)(a:Int)(hL:Al w B rb A s)(hs:s.fr=f::rest)(hB:B<=w.heap.size)(hn:f.stk.length<=60)(hr:rest.length<=60) :
  Calls prog 101 #[.pointer (some ⟨rb,0,none⟩),.agg #[.int .i64 1,.int .i64 a]] w fun e w'=>e=.returned (.int .i64 0)/\Br w w' B rb A {s with fr:={f with stk:=As::f.stk}::rest}:=by
 obtain⟨fb,fcap,r1,hfv,hfz,hfb,hft⟩:=Ez hL hs;have hrb:=Ag.lt hL;have HL:=Aa hL;clear hL;generalize hk:rest.length=k at *;have Hk:=Aa hk;clear hk;go_enter func101,ntmps101
 go_wp2_with fail
 go_quiet (fail)
 go_wp2_with fail
 have hbX:Below w.heap.size w ((w.alloc (.cells #[.int .i64 1,.int .i64 a] 33)).drewN nq):=below_drewN ((Tu _ _).alloc (Te _) _) _;have HX:=Aa hbX;clear hbX;generalize (w.alloc (.cells #[.int .i64 1,.int .i64 a] 33)).drewN nq=X at *;have hpush:=Ea X B rb A s f rest As (Al.below HL.out HX.out) hs (by have:=HX.out.size;omega) (by omega) (by rw[Hk.out];omega);have HP:=Aa hpush;clear hpush;refine HP.out.mono ?_;rintro e w5 ⟨rfl,A5,g1,g2,g3,g4,g5,g6,g7⟩;have hfin:Hid (Br w w5 B rb A {s with fr:={f with stk:=As::f.stk}::rest}):=⟨A5,g1,g2,g3,(Ch.of_below HX.out).trans (g7.mono BY)⟩
 clear g1 g7;go_wp2_with fail
 go_ret;exact⟨rfl,hfin.out⟩
theorem Ni(w:World)(B rb:Nat)(A:Ad)(s:Mc)(f:Fr)(rest:List Fr)(a:Int)(hL:Al w B rb A s)(hs:s.fr=f::rest)(hB:B<=w.heap.size)(hn:f.stk.length<=60)(hr:rest.length<=60) :
  Calls prog 101 #[.pointer (some ⟨rb,0,none⟩),.agg #[.int .i64 12,.int .i64 a]] w fun e w'=>e=.returned (.int .i64 0)/\Br w w' B rb A {s with fr:={f with stk:=⟨3,a⟩::f.stk}::rest}:=by
 obtain⟨fb,fcap,r1,hfv,hfz,hfb,hft⟩:=Ez hL hs;have hrb:=Ag.lt hL;have HL:=Aa hL;clear hL;generalize hk:rest.length=k at *;have Hk:=Aa hk;clear hk;go_enter func101,ntmps101
 go_wp2_with fail
 go_quiet (fail)
 go_wp2_with fail
 have hbX:Below w.heap.size w ((w.alloc (.cells #[.int .i64 12,.int .i64 a] 33)).drewN nq):=below_drewN ((Tu _ _).alloc (Te _) _) _;have HX:=Aa hbX;clear hbX;generalize (w.alloc (.cells #[.int .i64 12,.int .i64 a] 33)).drewN nq=X at *;have hpush:=Ea X B rb A s f rest (⟨3,a⟩:V) (Al.below HL.out HX.out) hs (by have:=HX.out.size;omega) (by omega) (by rw[Hk.out];omega);have HP:=Aa hpush;clear hpush;refine HP.out.mono ?_;rintro e w5 ⟨rfl,A5,g1,g2,g3,g4,g5,g6,g7⟩;have hfin:Hid (Br w w5 B rb A {s with fr:={f with stk:=⟨3,a⟩::f.stk}::rest}):=⟨A5,g1,g2,g3,(Ch.of_below HX.out).trans (g7.mono BY)⟩
 clear g1 g7;go_wp2_with fail
 go_ret;exact⟨rfl,hfin.out⟩
end Go.Proofs.YtkafkipjedpohaaGreatDoor

import Derived.Test.YtkafkipjedpohaaGreatDoorM24
namespace Go.Proofs.YtkafkipjedpohaaGreatDoor
set_option maxRecDepth 100000
set_option maxHeartbeats 16000000
open Go.RowKit _root_.Go.Proofs.Tryz
theorem Q7{w:World}{a b:Addr}{u v:Value}(h:w.cell? a=some u)(hne:¬a.block=b.block):(w.setCell b v).cell? a=some u :=
 (Tw (w:=w) (Tx _ _ _ _ hne)).trans h
def Dj(en:Int)(s:Mc)(v:Value):Value:=.agg #[.int .i64 en,.int .i64 s.steps,.int .i64 s.gives.k,.int .i64 s.gives.n,v]
theorem CH{B:Nat}{w v:World}(h:Below B w v){b o:Nat}(hb:B<=b)(x:Value):Below B w (v.setCell ⟨b,o,none⟩ x) :=
 ⟨h.os,h.tape,h.output,by have:=h.size;simp[World.setCell];omega,fun k hk=>by rw[Tx _ _ _ _ (by dsimp only;omega)];exact h.block k hk⟩
theorem Bh.set{w X v:World}{u:Value}{l:List V}(h:Bh X v u l){b o:Nat}(hw:w.heap.size<=X.heap.size)(hb:b<X.heap.size)(x:Value):Bh w (v.setCell ⟨b,o,none⟩ x) u l/\Bh X (v.setCell ⟨b,o,none⟩ x) u l:=by
 rcases h with h|⟨g,cap,cur,hv,hg,ht,hh,hr⟩
 ·exact⟨Or.inl h,Or.inl h⟩
 ·have e:(v.setCell ⟨b,o,none⟩ x).heap[g]?=v.heap[g]?:=Tx _ _ _ _ (by dsimp only;omega);exact⟨Or.inr ⟨g,cap,cur,hv,by omega,ht,e.trans hh,hr⟩,Or.inr ⟨g,cap,cur,hv,hg,ht,e.trans hh,hr⟩⟩
theorem Bh.later{w w' w2:World}{v:Value}{l:List V}(h:Bh w w' v l)(k:Below w'.heap.size w' w2):Bh w w2 v l:=Ae.below h k
theorem LK(w:World)(B mb:Nat)(A:Af)(s:Mc)(en:Int)(hL:AB w B mb A s en)(hl:s.out.length<=200000) :
  Calls prog 41 #[.pointer (some ⟨mb,0,none⟩)] w fun e w'=>∃ v,e=.returned (Dj en s v)/\Below w.heap.size w w'/\Bh w w' v s.out:=by
 have hW:Below w.heap.size w (w.alloc (.cells #[.int .i64 0,.int .i64 0,.int .i64 0,.int .i64 0,.slice none 0 0] 46)):=(Tu _ _).alloc (Te _) _;have l1:=hL.below hW;have hz:(w.alloc (.cells #[.int .i64 0,.int .i64 0,.int .i64 0,.int .i64 0,.slice none 0 0] 46)).heap.size=w.heap.size+1:=by simp
 have x4:(w.alloc (.cells #[.int .i64 0,.int .i64 0,.int .i64 0,.int .i64 0,.slice none 0 0] 46)).cell? ⟨mb,6,none⟩=some A.ov:=(Ab l1.run).trans rfl;have x5:(w.alloc (.cells #[.int .i64 0,.int .i64 0,.int .i64 0,.int .i64 0,.slice none 0 0] 46)).cell? ⟨mb,7,none⟩=some (.int .i64 s.steps):=(Ab l1.run).trans rfl;have x6:(w.alloc (.cells #[.int .i64 0,.int .i64 0,.int .i64 0,.int .i64 0,.slice none 0 0] 46)).cell? ⟨mb,11,none⟩=some (.int .i64 en):=(Ab l1.run).trans rfl;have x7:(w.alloc (.cells #[.int .i64 0,.int .i64 0,.int .i64 0,.int .i64 0,.slice none 0 0] 46)).cell? ⟨mb,12,none⟩=some (.int .i64 s.gives.k):=(Ab l1.run).trans rfl;have x8:(w.alloc (.cells #[.int .i64 0,.int .i64 0,.int .i64 0,.int .i64 0,.slice none 0 0] 46)).cell? ⟨mb,13,none⟩=some (.int .i64 s.gives.n):=(Ab l1.run).trans rfl;have hmz:=Ah hL.run;have HL:=Aa (Tc l1.out (Tc hW hz));have HX:=Aa (Tc x4 (Tc x5 (Tc x6 (Tc x7 x8))));clear hL l1 hW hz x4 x5 x6 x7 x8;go_enter func41,ntmps41
 go_wp2_with fail
 obtain⟨x4,x5,x6,x7,x8⟩:=HX.out;clear HX;have hWz:mb<(w.alloc (.cells #[.int .i64 0,.int .i64 0,.int .i64 0,.int .i64 0,.slice none 0 0] 46)).heap.size:=by simp;omega
 have r0:(w.alloc (.cells #[.int .i64 0,.int .i64 0,.int .i64 0,.int .i64 0,.slice none 0 0] 46)).heap[w.heap.size]?=some (.cells #[.int .i64 0,.int .i64 0,.int .i64 0,.int .i64 0,.slice none 0 0] 46 (0,0)):=Tv _ _;have HR:=Aa r0;clear r0;have hne:¬mb=w.heap.size:=by omega
 generalize w.alloc (.cells #[.int .i64 0,.int .i64 0,.int .i64 0,.int .i64 0,.slice none 0 0] 46)=W at *;have hrz:w.heap.size<W.heap.size:=by have:=HL.out.2.2;omega
 obtain⟨op,oc,hov,_⟩:=HL.out.1.any;have HCl:=Aa (fun (X:World) (hX:Below W.heap.size W X)=>Jw X B A.tag 3 A.ov s.out (HL.out.1.below hX) hl);rw[hov] at x4 HCl;clear hov;go_region_held3 (fun w'=>w'.cell? ⟨mb,6,none⟩=some (.slice op s.out.length oc)/\w'.cell? ⟨mb,7,none⟩=some (.int .i64 s.steps)/\w'.cell? ⟨mb,11,none⟩=some (.int .i64 en)/\w'.cell? ⟨mb,12,none⟩=some (.int .i64 s.gives.k)/\w'.cell? ⟨mb,13,none⟩=some (.int .i64 s.gives.n))
  ((refine⟨?_,?_,?_,?_,?_⟩<;>(repeat (with_reducible refine Q7 ?_ hne))<;>(first|with_reducible exact q4|with_reducible exact q5|with_reducible exact q6|with_reducible exact q7|with_reducible exact q8|exact x4|exact x5|exact x6|exact x7|exact x8)))
  (first
   |(go_at_call 63;refine(HCl.out _ ?_).mono ?_;exact(Tu _ _).drew;rintro e w3 ⟨v3,he,hB3,hO3⟩;obtain⟨p3,cp3,hv3,hlc3⟩:=Ae.any hO3;subst hv3;subst he;have q4:=(hB3.cell (p:=⟨mb,6,none⟩) hWz).trans x4;have q5:=(hB3.cell (p:=⟨mb,7,none⟩) hWz).trans x5;have q6:=(hB3.cell (p:=⟨mb,11,none⟩) hWz).trans x6;have q7:=(hB3.cell (p:=⟨mb,12,none⟩) hWz).trans x7;have q8:=(hB3.cell (p:=⟨mb,13,none⟩) hWz).trans x8;have r3:=(hB3.block w.heap.size hrz).trans HR.out;have c0:w3.cell? ⟨w.heap.size,0,none⟩=some (.int .i64 0):=(Ab r3).trans rfl;have c1:w3.cell? ⟨w.heap.size,1,none⟩=some (.int .i64 0):=(Ab r3).trans rfl;have c2:w3.cell? ⟨w.heap.size,2,none⟩=some (.int .i64 0):=(Ab r3).trans rfl;have c3:w3.cell? ⟨w.heap.size,3,none⟩=some (.int .i64 0):=(Ab r3).trans rfl;have c4:w3.cell? ⟨w.heap.size,4,none⟩=some (.slice none 0 0):=(Ab r3).trans rfl;have z0:=Ax (o:=0) r3;have z1:=Ax (o:=1) r3;have z2:=Ax (o:=2) r3;have z3:=Ax (o:=3) r3;have z4:=Ax (o:=4) r3;clear r3))
 rename_i hheld;have r3:=(hB3.block w.heap.size hrz).trans HR.out;have r4:=AM (o:=4) (AM (o:=3) (AM (o:=2) (AM (o:=1) (AM (o:=0) r3 (.int .i64 en)) (.int .i64 s.steps)) (.int .i64 s.gives.k)) (.int .i64 s.gives.n)) (.slice p3 s.out.length cp3);have hbl:Below w.heap.size w (((((w3.setCell ⟨w.heap.size,0,none⟩ (.int .i64 en)).setCell ⟨w.heap.size,1,none⟩ (.int .i64 s.steps)).setCell ⟨w.heap.size,2,none⟩ (.int .i64 s.gives.k)).setCell ⟨w.heap.size,3,none⟩ (.int .i64 s.gives.n)).setCell ⟨w.heap.size,4,none⟩ (.slice p3 s.out.length cp3)) :=
  CH (CH (CH (CH (CH ((HL.out.2.1.drew).trans (hB3.mono (by show w.heap.size<=W.heap.size;omega))) (Te _) _) (Te _) _) (Te _) _) (Te _) _) (Te _) _
 have hwX:w.heap.size<=W.drew.heap.size:=by show w.heap.size<=W.heap.size;omega
 have hbX:w.heap.size<W.drew.heap.size:=hrz;have hout:=(Bh.set (Bh.set (Bh.set (Bh.set (Bh.set (o:=0) hO3 hwX hbX (.int .i64 en)).2 (o:=1) hwX hbX (.int .i64 s.steps)).2 (o:=2) hwX hbX (.int .i64 s.gives.k)).2 (o:=3) hwX hbX (.int .i64 s.gives.n)).2 (o:=4) hwX hbX (.slice p3 s.out.length cp3)).1;have g0:(((((w3.setCell ⟨w.heap.size,0,none⟩ (.int .i64 en)).setCell ⟨w.heap.size,1,none⟩ (.int .i64 s.steps)).setCell ⟨w.heap.size,2,none⟩ (.int .i64 s.gives.k)).setCell ⟨w.heap.size,3,none⟩ (.int .i64 s.gives.n)).setCell ⟨w.heap.size,4,none⟩ (.slice p3 s.out.length cp3)).heap[w.heap.size]?=some (.cells #[.int .i64 en,.int .i64 s.steps,.int .i64 s.gives.k,.int .i64 s.gives.n,.slice p3 s.out.length cp3] 46 (0,0)):=r4;clear hheld q4 q5 q6 q7 q8 c0 c1 c2 c3 c4 z0 z1 z2 z3 z4 x4 x5 x6 x7 x8 r3 r4 hB3 hO3;generalize ((((w3.setCell ⟨w.heap.size,0,none⟩ (.int .i64 en)).setCell ⟨w.heap.size,1,none⟩ (.int .i64 s.steps)).setCell ⟨w.heap.size,2,none⟩ (.int .i64 s.gives.k)).setCell ⟨w.heap.size,3,none⟩ (.int .i64 s.gives.n)).setCell ⟨w.heap.size,4,none⟩ (.slice p3 s.out.length cp3)=V5 at *;have y0:V5.cell? ⟨w.heap.size,0,none⟩=some (.int .i64 en):=(Ab g0).trans rfl;have y1:V5.cell? ⟨w.heap.size,1,none⟩=some (.int .i64 s.steps):=(Ab g0).trans rfl;have y2:V5.cell? ⟨w.heap.size,2,none⟩=some (.int .i64 s.gives.k):=(Ab g0).trans rfl;have y3:V5.cell? ⟨w.heap.size,3,none⟩=some (.int .i64 s.gives.n):=(Ab g0).trans rfl;have y4:V5.cell? ⟨w.heap.size,4,none⟩=some (.slice p3 s.out.length cp3):=(Ab g0).trans rfl;have HQ:=Aa (Tc hbl hout);clear g0 hbl hout;go_wp2;exact bodyPost_ret (v:=Dj en s (.slice p3 s.out.length cp3)) (by simp[results,Tryz.results41,go_sem,y0,y1,y2,y3,y4,Dj]) rfl ⟨_,rfl,HQ.out⟩
theorem DR.of_prog{w:World}{pb po pc m:Nat}{F:Nat->PF}{CA:Nat->Option Addr}{CC:Nat->Nat}(h:BD w pb po m F CA CC)(hcc:∀ k,k<m->(F k).cn<=CC k):DR w w.heap.size (.slice (some ⟨pb,po,none⟩) m pc) m F :=
 ⟨pb,po,pc,rfl,h.lt,fun k hk=>⟨_,_,(h.fn k hk).slice,hcc k hk⟩⟩
theorem Pg.of_prog{w:World}{pb po pc m:Nat}{F:Nat->PF}{CA:Nat->Option Addr}{CC:Nat->Nat}(h:BD w pb po m F CA CC):Pg w w.heap.size (.slice (some ⟨pb,po,none⟩) m pc) m F :=
 ⟨pb,po,pc,CA,CC,w,rfl,rfl,h,Tu _ _⟩
theorem O6(w:World)(cb pb po pc m:Nat)(F:Nat->PF)(K:Nat->Nat->Bool)(H:Nat->Nat->Int)(CA:Nat->Option Addr)(CC:Nat->Nat)(fuel:Int)(hc:w.cell? ⟨cb,0,none⟩=some (.slice (some ⟨pb,po,none⟩) m pc))(hP:BD w pb po m F CA CC)(hcc:∀ k,k<m->(F k).cn<=CC k)(hF:AP m F K H)(hout:(Bl F fuel).out.length<=200000) :
  Calls prog 19 #[.pointer (some ⟨cb,0,none⟩),.int .i64 fuel] w fun e w'=>∃ v,e=.returned (Dj (Ca (Bl F fuel)) (Bl F fuel) v)/\Below w.heap.size w w'/\Bh w w' v (Bl F fuel).out:=by
 have hcz:=Tr w _ hc;have hW:Below w.heap.size w (w.alloc (.cells #[.int .i64 0,.int .i64 0,.int .i64 0,.int .i64 0,.slice none 0 0] 46)):=(Tu _ _).alloc (Te _) _;have hP2:=hP.below hW (Te _);have hrun:=Lj _ m _ F K H fuel (DR.of_prog (pc:=pc) hP2 hcc) (Pg.of_prog (pc:=pc) hP2) hF;have c0:=(hW.cell (p:=⟨cb,0,none⟩) hcz).trans hc;have r0:(w.alloc (.cells #[.int .i64 0,.int .i64 0,.int .i64 0,.int .i64 0,.slice none 0 0] 46)).heap[w.heap.size]?=some (.cells #[.int .i64 0,.int .i64 0,.int .i64 0,.int .i64 0,.slice none 0 0] 46 (0,0)):=Tv _ _;have hz:(w.alloc (.cells #[.int .i64 0,.int .i64 0,.int .i64 0,.int .i64 0,.slice none 0 0] 46)).heap.size=w.heap.size+1:=by simp
 generalize Ca (Bl F fuel)=en at *;generalize Bl F fuel=sN at *;have HR:=Aa hrun;have HX:=Aa (Tc hW (Tc r0 hz));clear hrun hW hP hP2 hc r0 hz hF hcc;go_enter func19,ntmps19
 go_wp2_with fail
 refine HR.out.mono ?_;rintro e w2 ⟨mb,rfl,hB2,A2,MV2,m2⟩;have HO:=Aa (LK w2 _ mb A2 sN en m2.lay hout);have HB2:=Aa hB2;clear hB2 m2 HR;go_wp2_with fail
 refine HO.out.mono ?_;rintro e w3 ⟨v,rfl,hB3,hout3⟩;obtain⟨p3,cp3,hv3,_⟩:=Ae.any hout3;subst hv3;obtain⟨hW,r0,hz⟩:=HX.out;have hz2:=HB2.out.size;have r2:=(HB2.out.block w.heap.size (by omega)).trans r0;have r3:=(hB3.block w.heap.size (by omega)).trans r2;have y0:w3.cell? ⟨w.heap.size,0,none⟩=some (.int .i64 0):=(Ab r3).trans rfl;have y1:w3.cell? ⟨w.heap.size,1,none⟩=some (.int .i64 0):=(Ab r3).trans rfl;have y2:w3.cell? ⟨w.heap.size,2,none⟩=some (.int .i64 0):=(Ab r3).trans rfl;have y3:w3.cell? ⟨w.heap.size,3,none⟩=some (.int .i64 0):=(Ab r3).trans rfl;have y4:w3.cell? ⟨w.heap.size,4,none⟩=some (.slice none 0 0):=(Ab r3).trans rfl;have z0:=Ax (o:=0) r3;have z1:=Ax (o:=1) r3;have z2:=Ax (o:=2) r3;have z3:=Ax (o:=3) r3;have z4:=Ax (o:=4) r3;have hB:Below w.heap.size w w3:=(hW.trans (HB2.out.mono (by omega))).trans (hB3.mono (by omega));have g0:(((((w3.setCell ⟨w.heap.size,0,none⟩ (.int .i64 en)).setCell ⟨w.heap.size,1,none⟩ (.int .i64 sN.steps)).setCell ⟨w.heap.size,2,none⟩ (.int .i64 sN.gives.k)).setCell ⟨w.heap.size,3,none⟩ (.int .i64 sN.gives.n)).setCell ⟨w.heap.size,4,none⟩ (.slice p3 sN.out.length cp3)).heap[w.heap.size]?=some (.cells #[.int .i64 en,.int .i64 sN.steps,.int .i64 sN.gives.k,.int .i64 sN.gives.n,.slice p3 sN.out.length cp3] 46 (0,0)):=AM (o:=4) (AM (o:=3) (AM (o:=2) (AM (o:=1) (AM (o:=0) r3 (.int .i64 en)) (.int .i64 sN.steps)) (.int .i64 sN.gives.k)) (.int .i64 sN.gives.n)) (.slice p3 sN.out.length cp3);have hbl:Below w.heap.size w (((((w3.setCell ⟨w.heap.size,0,none⟩ (.int .i64 en)).setCell ⟨w.heap.size,1,none⟩ (.int .i64 sN.steps)).setCell ⟨w.heap.size,2,none⟩ (.int .i64 sN.gives.k)).setCell ⟨w.heap.size,3,none⟩ (.int .i64 sN.gives.n)).setCell ⟨w.heap.size,4,none⟩ (.slice p3 sN.out.length cp3)) :=
  CH (CH (CH (CH (CH hB (Te _) _) (Te _) _) (Te _) _) (Te _) _) (Te _) _
 have hwX:w.heap.size<=w2.heap.size:=by omega
 have hbX:w.heap.size<w2.heap.size:=by omega
 have hol:=(Bh.set (Bh.set (Bh.set (Bh.set (Bh.set (o:=0) hout3 hwX hbX (.int .i64 en)).2 (o:=1) hwX hbX (.int .i64 sN.steps)).2 (o:=2) hwX hbX (.int .i64 sN.gives.k)).2 (o:=3) hwX hbX (.int .i64 sN.gives.n)).2 (o:=4) hwX hbX (.slice p3 sN.out.length cp3)).1;have HQ:=Aa (Tc g0 (Tc hbl hol));clear hB3 hout3 r0 r2 r3 hW hz hz2 HX HB2 HO g0 hbl hol hB hwX hbX;unfold Dj;go_wp2;obtain⟨g0,hbl,hol⟩:=HQ.out;generalize ((((w3.setCell ⟨w.heap.size,0,none⟩ (.int .i64 en)).setCell ⟨w.heap.size,1,none⟩ (.int .i64 sN.steps)).setCell ⟨w.heap.size,2,none⟩ (.int .i64 sN.gives.k)).setCell ⟨w.heap.size,3,none⟩ (.int .i64 sN.gives.n)).setCell ⟨w.heap.size,4,none⟩ (.slice p3 sN.out.length cp3)=V5 at *;have y0:V5.cell? ⟨w.heap.size,0,none⟩=some (.int .i64 en):=(Ab g0).trans rfl;have y1:V5.cell? ⟨w.heap.size,1,none⟩=some (.int .i64 sN.steps):=(Ab g0).trans rfl;have y2:V5.cell? ⟨w.heap.size,2,none⟩=some (.int .i64 sN.gives.k):=(Ab g0).trans rfl;have y3:V5.cell? ⟨w.heap.size,3,none⟩=some (.int .i64 sN.gives.n):=(Ab g0).trans rfl;have y4:V5.cell? ⟨w.heap.size,4,none⟩=some (.slice p3 sN.out.length cp3):=(Ab g0).trans rfl;exact bodyPost_ret (v:=Dj en sN (.slice p3 sN.out.length cp3)) (by simp[results,Tryz.results19,go_sem,y0,y1,y2,y3,y4,Dj]) rfl ⟨_,rfl,hbl,hol⟩
def Cx(fr:Nat->Fr)(LV SV:Nat->Value):Nat->Value:=fun i =>
 if i % 4=0 then .int .i64 (fr (i / 4)).fn else if i % 4=1 then .int .i64 (fr (i / 4)).pc else if i % 4=2 then LV (i / 4) else SV (i / 4)
structure Cc (w:World) (B:Nat) (tag:Nat->Nat) (v:Value) (LV SV:Nat->Value) (fr:Nat->Fr) (k:Nat):Prop where
 row:Ae w B tag 1 73 4 v k (Cx fr LV SV)
 loc:∀ i,i<k->Ae w B tag (11+4 * i) 43 2 (LV i) (fr i).loc.length (Ar (fr i).loc)
 stk:∀ i,i<k->Ae w B tag (12+4 * i) 43 2 (SV i) (fr i).stk.length (Ar (fr i).stk.reverse)
structure Cd (w:World) (B:Nat) (tag:Nat->Nat) (v:Value) (AV:Nat->Value) (arr:List (List V)) (k:Nat):Prop where
 row:Ae w B tag 2 44 1 v k AV
 arr:∀ j,j<k->Ae w B tag (13+4 * j) 43 2 (AV j) (arr.getD j []).length (Ar (arr.getD j []))
section
variable {B k:Nat}{v:Value}{w w':World}{tag:Nat->Nat}
theorem Cc.keep{tag':Nat->Nat}{LV SV:Nat->Value}{fr:Nat->Fr}{p:Nat->Prop}(h:Cc w B tag v LV SV fr k)(c:Ch B p tag tag' w w')(h1:¬p 1)(h2:∀ i,i<k->¬p (11+4 * i)/\¬p (12+4 * i)):Cc w' B tag' v LV SV fr k :=
 ⟨h.row.keep c h1,fun i hi=>(h.loc i hi).keep c (h2 i hi).1,fun i hi=>(h.stk i hi).keep c (h2 i hi).2⟩
theorem Cd.keep{tag':Nat->Nat}{AV:Nat->Value}{arr:List (List V)}{p:Nat->Prop}(h:Cd w B tag v AV arr k)(c:Ch B p tag tag' w w')(h1:¬p 2)(h2:∀ j,j<k->¬p (13+4 * j)):Cd w' B tag' v AV arr k :=
 ⟨h.row.keep c h1,fun j hj=>(h.arr j hj).keep c (h2 j hj)⟩
theorem Bh.tagged{X:World}{l:List V}(h:Bh X w' v l)(hB:B<=X.heap.size)(tag:Nat->Nat)(c:Nat):Ae w' B (fun b=>if b<X.heap.size then tag b else c) c 43 2 v l.length (Ar l):=by
 rcases h with h|⟨g,cap,cur,hv,hg,_,hh,hr⟩
 ·exact Or.inl h
 ·exact Or.inr ⟨g,cap,cur,hv,by omega,by show (if g<X.heap.size then tag g else c)=c;rw[if_neg (by omega)],hh,hr⟩
theorem Ch.tagged{X:World}(h:Below X.heap.size X w')(p:Nat->Prop)(tag:Nat->Nat)(c:Nat):Ch B p tag (fun b=>if b<X.heap.size then tag b else c) X w' :=
 ⟨h.os,h.tape,h.output,h.size,fun b hb _=>h.block b hb,fun b hb=>by show (if b<X.heap.size then tag b else c)=tag b;rw[if_pos hb]⟩
theorem Cc.add{w1:World}{LV SV:Nat->Value}{fr:Nat->Fr}{lv sv:Value}(h:Cc w B tag v LV SV fr k)
  (hl:Ae w B tag (11+4 * k) 43 2 lv (fr k).loc.length (Ar (fr k).loc)) (hs:Ae w B tag (12+4 * k) 43 2 sv (fr k).stk.length (Ar (fr k).stk.reverse)) {g cap:Nat}
  (hown:w1.ownsRow B 73 4 (.slice (some ⟨g,0,none⟩) (k+1) cap) (k+1) ((List.range (k * 4)).map (Cx fr LV SV)++[.int .i64 (fr k).fn,.int .i64 (fr k).pc,lv,sv])) (hgrow:w.grownBy w1 v.ownBlock) (hat:v.ownBlock=some g\/g=w.heap.size) :
  ∃ tag',Cc w1 B tag' (.slice (some ⟨g,0,none⟩) (k+1) cap) (Ac LV k lv) (Ac SV k sv) fr (k+1)/\Ch B (·=1) tag tag' w w1:=by
 obtain⟨tag',h1,h2⟩:=h.row.grew hown hgrow hat rfl;refine⟨tag',⟨h1.congr (fun i hi=>?_),fun i hi=>?_,fun i hi=>?_⟩,h2⟩
 ·by_cases hlt:i<k * 4
  ·rw[if_pos hlt];unfold Cx;rw[Ao _ _ _ _ (by omega),Ao _ _ _ _ (by omega)]
  ·rw[if_neg hlt];have e4:i / 4=k:=by omega
   have:i-k * 4=0\/i-k * 4=1\/i-k * 4=2\/i-k * 4=3:=by omega
   unfold Cx;rw[e4,Au,Au];rcases this with e|e|e|e
   ·rw[if_pos (by omega),e];rfl
   ·rw[if_neg (by omega),if_pos (by omega),e];rfl
   ·rw[if_neg (by omega),if_neg (by omega),if_pos (by omega),e];rfl
   ·rw[if_neg (by omega),if_neg (by omega),if_neg (by omega),e];rfl
 ·by_cases e:i=k
  ·subst e;rw[Au];exact hl.keep h2 (by omega)
  ·rw[Ao _ _ _ _ e];exact(h.loc i (by omega)).keep h2 (by omega)
 ·by_cases e:i=k
  ·subst e;rw[Au];exact hs.keep h2 (by omega)
  ·rw[Ao _ _ _ _ e];exact(h.stk i (by omega)).keep h2 (by omega)
theorem Cd.add{w1:World}{AV:Nat->Value}{arr:List (List V)}{av:Value}(h:Cd w B tag v AV arr k)
  (hl:Ae w B tag (13+4 * k) 43 2 av (arr.getD k []).length (Ar (arr.getD k []))) {g cap:Nat}
  (hown:w1.ownsRow B 44 1 (.slice (some ⟨g,0,none⟩) (k+1) cap) (k+1) ((List.range (k * 1)).map AV++[av])) (hgrow:w.grownBy w1 v.ownBlock) (hat:v.ownBlock=some g\/g=w.heap.size) :
  ∃ tag',Cd w1 B tag' (.slice (some ⟨g,0,none⟩) (k+1) cap) (Ac AV k av) arr (k+1)/\Ch B (·=2) tag tag' w w1:=by
 obtain⟨tag',h1,h2⟩:=h.row.grew hown hgrow hat rfl;refine⟨tag',⟨h1.congr (fun i hi=>?_),fun j hj=>?_⟩,h2⟩
 ·by_cases hlt:i<k * 1
  ·rw[if_pos hlt,Ao _ _ _ _ (by omega)]
  ·obtain rfl:i=k:=by omega
   rw[if_neg hlt,Au];simp
 ·by_cases e:j=k
  ·subst e;rw[Au];exact hl.keep h2 (by omega)
  ·rw[Ao _ _ _ _ e];exact(h.arr j (by omega)).keep h2 (by omega)
end
end Go.Proofs.YtkafkipjedpohaaGreatDoor

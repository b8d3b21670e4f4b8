import Derived.Test.YtkafkipjedpohaaGreatDoorXl
import Derived.Defers
import Derived.Recover
import Derived.Laws.Pointers
import Derived.WideLaws
namespace Go.Proofs.YtkafkipjedpohaaGreatDoor
set_option maxRecDepth 100000
set_option maxHeartbeats 16000000
open Go.RowKit _root_.Go.Proofs.Tryz
theorem P6(w:World)(B:Nat)(v:Value)(l:List Nat)(x:Nat)(hrow:Ae w B (fun _=>0) 0 3 1 v l.length (Dm l))(hl:l.length<=1000) :
  Calls prog 145 #[v,.int .i64 x] w fun e w'=>(∃ r,e=.returned (.int .i64 r)/\((0<=r/\x∈l)\/(r=-1/\x ∉ l)))/\w'=w:=by
 obtain⟨p,c,hv⟩:∃ p c,v=.slice p l.length c:=by
  rcases hrow with⟨h1,h2⟩|⟨b,cap,cur,h1,_⟩
  ·exact⟨none,0,by rw[h1,h2]⟩
  ·exact⟨_,_,h1⟩
 have hcell:∀ j,j<l.length->∃ b,p=some ⟨b,0,none⟩/\w.cell? ⟨b,j,none⟩=some (.int .i64 (l.getD j 0:Nat)):=fun j hj=>by
  obtain⟨b,cap,hv2,_⟩:=hrow.form (by omega);rw[hv2] at hrow hv;injection hv with e1 _ _;exact⟨b,e1.symm,hrow.cell (i:=j) (by omega)⟩
 subst hv;have HC:=Aa hcell;clear hrow hcell;generalize hln:l.length=ln at *;have HLN:=Aa hln;clear hln;go_enter func145,ntmps145
 go_wp2;go_loopw [8] (fun v wr=>∃ j:Nat,j<=ln/\v=.int .i64 j/\wr=w/\∀ i,i<j->l.getD i 0≠x) (fun v _=>ln-(intOf v).toNat)
 case atStart=>exact⟨0,by omega,rfl,rfl,fun i hi=>absurd hi (Nat.not_lt_zero _)⟩
 case round =>
  obtain⟨j,hj,rfl,hwr,hno⟩:=hrel;rw[hwr];clear hwr wr;by_cases hlt:j<ln
  ·have hdec:decide ((j:Int)<(ln:Int))=true:=by simp;omega
   obtain⟨b,rfl,y0⟩:=HC.out j hlt;have i0:(0:Int)<=(j:Int):=by omega
   have i1:(j:Int)<(ln:Int):=by omega
   by_cases he:x=l.getD j 0
   ·have e1:((x:Int)==((l.getD j 0:Nat):Int))=true:=by rw[<-he];simp
    have hmem:x∈l:=by
     have hjl:j<l.length:=by rw[HLN.out];exact hlt
     rw[he,Tj,List.getElem?_eq_getElem hjl];exact List.getElem_mem _
    have HM:=Aa hmem;clear hmem he hno;generalize ((l.getD j 0:Nat):Int)=u at *;go_wp2;go_ret;exact⟨⟨_,rfl,Or.inl ⟨i0,HM.out⟩⟩,rfl⟩
   ·have e1:((x:Int)==((l.getD j 0:Nat):Int))=false:=by rw[beq_eq_false_iff_ne];omega
    have HN:=Aa (show ∀ i,i<j+1->l.getD i 0≠x from fun i hi=>by
     by_cases e:i=j
     ·rw[e];exact fun h=>he h.symm
     ·exact hno i (by omega))
    clear he hno;generalize ((l.getD j 0:Nat):Int)=u at *;go_wp2;exact⟨⟨j+1,by omega,by go_num,by first|trivial|rfl,HN.out⟩,by simp[intOf];omega⟩
  ·have hdec:decide ((j:Int)<(ln:Int))=false:=by simp;omega
   have hnm:x ∉ l:=fun hm=>by
    obtain⟨i,hi,e⟩:=List.getElem_of_mem hm;refine hno i (by rw[HLN.out] at hi;omega) ?_;rw[Tj,List.getElem?_eq_getElem hi];exact e
   have HM:=Aa hnm;clear hnm hno;go_wp2;go_ret;exact⟨⟨_,rfl,Or.inr ⟨by first|trivial|rfl,HM.out⟩⟩,rfl⟩
theorem Rh(w:World)(B:Nat)(v:Value)(l:List Nat)(x:Nat)(hrow:Ae w B (fun _=>0) 0 3 1 v l.length (Dm l))(hl:l.length<=1000) :
  Calls prog 127 #[v,.int .i64 x] w fun e w'=>e=.returned (.bool (decide (x∈l)))/\w'=w:=by
 have HI:=Aa (P6 w B v l x hrow hl);obtain⟨p,c,hv⟩:∃ p c,v=.slice p l.length c:=by
  rcases hrow with⟨h1,h2⟩|⟨b,cap,cur,h1,_⟩
  ·exact⟨none,0,by rw[h1,h2]⟩
  ·exact⟨_,_,h1⟩
 subst hv;clear hrow;go_enter func127,ntmps127
 go_wp2_with fail
 refine HI.out.mono ?_;rintro e w1 ⟨⟨r,rfl,hr⟩,hw1⟩;rw[hw1];clear hw1 w1 HI;rcases hr with⟨h1,h2⟩|⟨h1,h2⟩
 ·have e1:decide ((0:Int)<=r)=true:=by simpa using h1
  have HM:=Aa h2;clear h1 h2;go_wp2;go_ret;exact⟨by rw[decide_eq_true HM.out];rfl,rfl⟩
 ·subst h1;have HM:=Aa h2;clear h2;go_wp2;go_ret;exact⟨by rw[decide_eq_false HM.out];rfl,rfl⟩
theorem SS(f:PF)(x:Nat)(hx:x<f.cn):decide (x∈BC f f.cn)=CB f x:=by
 unfold BC;cases h:CB f x with
 |true=>exact decide_eq_true (List.mem_filter.2 ⟨List.mem_range.2 hx,h⟩)
 |false =>
  refine decide_eq_false (fun hm=>?_);rw[(List.mem_filter.1 hm).2] at h;cases h
theorem Bb.up{w:World}{B mb m:Nat}{F:Nat->PF}{MV:Nat->Value}{A:Af}{s:Mc}{en:Int}{L:Bxs}{E:List Ev}(h:Bb w B mb m F MV A s en L E){f:Fr}{rest:List Fr}(hs:s.fr=f::rest)(hfn:f.fn<m)(hmd:s.made f.fn=true) :
  CN w B mb m F MV A {s with high:=true::s.high.drop 1,cU:=s.cU+1} en L E ((w.setCell ⟨A.FB rest.length,4,none⟩ (MV f.fn)).setCell ⟨mb,9,none⟩ (.int .i64 ((s.cU:Int)+1))):=by
 have hM:=h.st;have hlen:s.fr.length=rest.length+1:=by rw[hs];rfl
 have hi:rest.length<s.fr.length:=by omega
 obtain⟨l1,c1⟩:=hM.lay.lowered hi (MV f.fn);obtain⟨l2,c2⟩:=l1.counted 9 (by omega) ((s.cU:Int)+1);have hchN:Ch B N5 A.tag A.tag w ((w.setCell ⟨A.FB rest.length,4,none⟩ (MV f.fn)).setCell ⟨mb,9,none⟩ (.int .i64 ((s.cU:Int)+1))):=(c1.mono (q:=N5) (fun d hd=>by unfold N5;omega)).trans (c2.mono (q:=N5) (fun d hd=>by unfold N5;omega));have hhl:=hM.hl;have e0:Am s.fr rest.length=f:=by rw[hs];exact Bg _ _
 obtain⟨b,r,hbr⟩:∃ b r,s.high=b::r:=by
  cases hc:s.high with
  |nil=>rw[hc] at hhl;simp at hhl;omega
  |cons b r=>exact⟨b,r,rfl⟩
 have hrl:r.length=rest.length:=by rw[hbr] at hhl;simp at hhl;omega
 have hat:∀ j,j<s.fr.length->AU (true::s.high.drop 1) j=if j=rest.length then true else AU s.high j:=fun j hj=>by
  rw[hbr];show AU (true::r) j=_;by_cases e:j=rest.length
  ·rw[if_pos e,Ff _ _ (by omega)]
  ·rw[if_neg e,EF _ _ _ (by omega),EF _ _ _ (by omega)]
 refine⟨_,⟨hM.ch (l2.like rfl rfl rfl rfl rfl) ?_ (fun j hj=>?_) ⟨?_,?_,?_⟩ rfl ⟨rfl,rfl,rfl⟩ hchN,h.bx.keep hchN Db,h.md,fun j hj hj2=>?_,h.ev.below (hchN.below hM.le),h.cp.below (hchN.below hM.le)⟩,⟨rfl,rfl,rfl⟩,hchN,fun _=>rfl⟩
 ·show (true::s.high.drop 1).length=s.fr.length;rw[hbr];simp;omega
 ·show CT (Ac A.g.CV rest.length (MV f.fn) j) (AU (true::s.high.drop 1) j);rw[hat j hj];by_cases e:j=rest.length
  ·subst e;rw[Au,if_pos rfl,<-hmd];exact hM.mds f.fn hfn
  ·rw[Ao _ _ _ _ e,if_neg e];exact hM.cod j hj
 ·show (A.g.hi:Int)=s.cH;exact hM.cnt.1
 ·show ((s.cU:Int)+1)=((s.cU+1:Nat):Int);omega
 ·show (A.g.dn:Int)=s.cD;exact hM.cnt.2.2
 ·show D6 L _ (Ac A.g.CV rest.length (MV f.fn) j);have hj2':AU (true::s.high.drop 1) j=true:=hj2;rw[hat j hj] at hj2';by_cases e:j=rest.length
  ·subst e;rw[Au];show D6 L (F (Am s.fr rest.length).fn) (MV f.fn);rw[e0];exact h.md f.fn hfn hmd
  ·rw[if_neg e] at hj2';rw[Ao _ _ _ _ e];exact h.fc j hj hj2'
theorem CN.below{w w1 w':World}{B mb m:Nat}{F:Nat->PF}{MV:Nat->Value}{A:Af}{s':Mc}{en:Int}{L:Bxs}{E:List Ev}(hb:Below w.heap.size w w1)(h:CN w1 B mb m F MV A s' en L E w'):CN w B mb m F MV A s' en L E w':=by
 obtain⟨A',h1,h2,h3,h4⟩:=h;exact⟨A',h1,h2,(Ch.of_below hb).trans h3,h4⟩
theorem QR{w:World}{B mb m:Nat}{F:Nat->PF}{K:Nat->Nat->Bool}{H:Nat->Nat->Int}{MV:Nat->Value}{A:Af}{s:Mc}{en:Int}{L:Bxs}{E:List Ev}(h:Bb w B mb m F MV A s en L E)(hF:AP m F K H){f:Fr}{rest:List Fr}(hs:s.fr=f::rest)(hfn:f.fn<m)(hpc:f.pc<(F f.fn).cn)(hu:s.cU<=1000000)(n:Int) :
  Calls prog 117 #[ptr mb,ptr (A.FB rest.length)] w fun e w'=>e=.returned (.tuple #[])/\CN w B mb m F MV A (Bu F 3 n s) en L E w':=by
 have hff:=hF.fn f.fn hfn;obtain⟨vb,vcap,hmv,hvB,hvz,hvt,hvc⟩:=h.st.made.form (by omega);have x2:w.cell? ⟨mb,2,none⟩=some (.slice (some ⟨vb,0,none⟩) m vcap):=by rw[Ab h.st.lay.run,<-hmv];rfl
 have hrow:=h.st.made;rw[hmv] at hrow;have xv:=hrow.cell (i:=f.fn) (by omega);have hmd:=h.st.mds f.fn hfn;obtain⟨t4,tne,t1,_,t0,_,tz⟩:=h.st.top hs;have hg:=h.st.gear hs;have heq:=fun X=>Ll hg X
 have hnq:=fun X=>Hu hmd X
 obtain⟨p4,n4,c4,hsl4⟩:=Fk hg;obtain⟨p0,n0,c0,hsl0⟩:=Fk hmd;obtain⟨pb,po,pc,cb,co,cc,y0,y2,hcap,hcbB,hcode⟩:=h.code hfn hff.cn.1;have x9:w.cell? ⟨mb,9,none⟩=some (.int .i64 s.cU):=by rw[Ab h.st.lay.run,<-h.st.cnt.2.1];rfl
 have z9:w.frozen? ⟨mb,9,none⟩=false:=Ax h.st.lay.run;have hlen:s.fr.length=rest.length+1:=by rw[hs];rfl
 have z4:w.frozen? ⟨A.FB rest.length,4,none⟩=false:=Ax (h.st.lay.fb rest.length (by omega)).1;rw[hsl4] at t4 heq;rw[hsl0] at xv hnq;have hle:=h.st.le;have hmz:mb<w.heap.size:=Ah h.st.lay.run;have hpz:pb<w.heap.size:=Tr w _ y2;have hcbz:cb<w.heap.size:=by omega
 have hcm:Bu F 3 n s=if s.high.headD false=false/\s.made f.fn=true/\CB (F f.fn) f.pc=true then {s with high:=true::s.high.drop 1,cU:=s.cU+1} else s:=by
  unfold Bu;rw[if_neg (by decide),if_pos rfl,hs]
 have HC:=Aa hcm;have HR:=Aa h;have HUp:=Aa (fun (w':World) (hb:Below w.heap.size w w') (hm:s.made f.fn=true)=>(show CN w B mb m F MV A {s with high:=true::s.high.drop 1,cU:=s.cU+1} en L E ((w'.setCell ⟨A.FB rest.length,4,none⟩ (MV f.fn)).setCell ⟨mb,9,none⟩ (.int .i64 ((s.cU:Int)+1))) from CN.below hb ((h.below hb).up hs hfn hm)));rw[hsl0] at HUp;have HH:=Aa (fun (w':World) (hb:Below w.heap.size w w')=>LW w' cb co cc (F f.fn) (fun i hi=>by
  obtain⟨a,b⟩:=hcode i hi;exact⟨(hb.cell (p:=⟨cb,co+i * 2,none⟩) hcbz).trans a,(hb.cell (p:=⟨cb,co+i * 2+1,none⟩) hcbz).trans b⟩) (by have:=hb.size;omega) hff.cn.2 (fun k hk ho=>by
   obtain⟨a,b⟩:=DF (hff.legal k hk) ho;exact⟨a,b⟩))
 have HHM:=Aa (SS (F f.fn) f.pc hpc);have HHL:=Aa (Nat.le_trans (In (F f.fn) (F f.fn).cn) hff.cn.2);generalize Bu F 3 n s=s' at *;generalize hfb:A.FB rest.length=fb at *;have HC0:=Aa (fun (w':World) (hb:Below w.heap.size w w')=>(show (w'.cell? ⟨mb,2,none⟩=some (.slice (some ⟨vb,0,none⟩) m vcap)/\w'.cell? ⟨vb,f.fn,none⟩=some (.slice p0 n0 c0)/\w'.cell? ⟨fb,0,none⟩=some (.int .i64 f.fn))/\w'.cell? ⟨fb,4,none⟩=some (.slice p4 n4 c4)/\w'.cell? ⟨fb,1,none⟩=some (.int .i64 f.pc)/\w'.cell? ⟨mb,0,none⟩=some (.slice (some ⟨pb,po,none⟩) m pc)/\w'.cell? ⟨pb,po+f.fn * 3+2,none⟩=some (.slice (some ⟨cb,co,none⟩) (F f.fn).cn cc) from
  ⟨⟨(hb.cell (p:=⟨mb,2,none⟩) hmz).trans x2,(hb.cell (p:=⟨vb,f.fn,none⟩) hvz).trans xv,(hb.cell (p:=⟨fb,0,none⟩) tz).trans t0⟩,(hb.cell (p:=⟨fb,4,none⟩) tz).trans t4,(hb.cell (p:=⟨fb,1,none⟩) tz).trans t1,(hb.cell (p:=⟨mb,0,none⟩) hmz).trans y0,(hb.cell (p:=⟨pb,po+f.fn * 3+2,none⟩) hpz).trans y2⟩))
 have HC9:=Aa (fun (w':World) (hb:Below w.heap.size w w')=>(show w'.cell? ⟨mb,9,none⟩=some (.int .i64 s.cU)/\w'.frozen? ⟨mb,9,none⟩=false/\w'.frozen? ⟨fb,4,none⟩=false from ⟨(hb.cell (p:=⟨mb,9,none⟩) hmz).trans x9,(hb.frozen (p:=⟨mb,9,none⟩) hmz).trans z9,(hb.frozen (p:=⟨fb,4,none⟩) tz).trans z4⟩));have i0:(0:Int)<=(f.fn:Int):=by omega
 have i1:(f.fn:Int)<(m:Int):=by omega
 have e5:wrap64 ((s.cU:Int)+1)=(s.cU:Int)+1:=by unfold wrap64;omega
 clear h hff hrow hmd hg hsl4 hsl0 hcode hcap hcm t4 t1 t0 y0 y2 x2 xv x9 z9 z4 hs hF;generalize hhd:s.high.headD false=hi at *;generalize hmk:s.made f.fn=mk at *;generalize hhp:CB (F f.fn) f.pc=hp at *;generalize hhl:BC (F f.fn) (F f.fn).cn=hl at *;generalize (F f.fn).cn=cn at *;generalize hfnl:f.fn=fnl at *;generalize hpcl:f.pc=pcl at *;clear hhd hmk hhp hhl hfnl hpcl;go_enter func117,ntmps117
 go_wp2_with fail
 refine AG (Below w.heap.size w) [(false,0),(false,1),(false,2),(false,3),(false,4),(false,5),(false,6),(false,7),(false,8),(false,9),(false,10)] (by kernel_rfl) (by kernel_rfl) (Co _ _ _) (Tu _ _).drew ?_;simp only[lexL,Tl,Tm];iterate 11 (refine Aw (by rfl) (by intro w' hS';obtain⟨⟨q0,q1,q2⟩,_⟩:=HC0.out w' hS';clear hS';go_simp;exact rfl) ?_;simp only[Act.put,Td,Th,Tg])
 refine AF ?_;have hb1:Below w.heap.size w w.drew:=(Tu _ _).drew;have HB1:=Aa hb1;clear hb1;generalize w.drew=w1 at *;go_wp2_with fail
 cases hi with
 |true =>
  simp only[Bool.not_true] at heq;refine AG (Below w.heap.size w) TK (by kernel_rfl) (by kernel_rfl) (Co _ _ _) HB1.out.drew ?_;simp only[TK,lexL,Tl,Tm];iterate 6 (refine Aw (by rfl) (by intro w' hS';obtain⟨_,q4,_⟩:=HC0.out w' hS';clear hS';go_simp;exact rfl) ?_;simp only[Act.put,Td,Th,Tg])
  iterate 2 (refine Cj (by rfl) ?_;simp only[Act.put,Td,Th,Tg])
  iterate 2 (refine Aw (by rfl) (by intro w' hS';clear hS';go_simp;exact rfl) ?_;simp only[Act.put,Td,Th,Tg])
  iterate 17 (refine Cj (by rfl) ?_;simp only[Act.put,Td,Th,Tg])
  refine Aw (by rfl) (by intro w' hS';clear hS';go_simp;exact rfl) ?_;simp only[Act.put,Td,Th,Tg];refine AF ?_;have HQ:=Aa (show CN w B mb m F MV A s' en L E w1.drew from by
   rw[HC.out,if_neg (fun h=>by cases h.1)];exact⟨A,HR.out.below HB1.out.drew,Bw.refl _,Ch.of_below HB1.out.drew,fun _=>rfl⟩)
  go_wp2;go_end0;exact⟨rfl,HQ.out⟩
 |false =>
  simp only[Bool.not_false] at heq;cases mk with
  |false =>
   refine AG (Below w.heap.size w) TK (by kernel_rfl) (by kernel_rfl) (Co _ _ _) HB1.out.drew ?_;simp only[TK,lexL,Tl,Tm];iterate 10 (refine Aw (by rfl) (by intro w' hS';obtain⟨_,q4,_⟩:=HC0.out w' hS';clear hS';go_simp;exact rfl) ?_;simp only[Act.put,Td,Th,Tg])
   iterate 17 (refine Cj (by rfl) ?_;simp only[Act.put,Td,Th,Tg])
   refine Aw (by rfl) (by intro w' hS';clear hS';go_simp;exact rfl) ?_;simp only[Act.put,Td,Th,Tg];refine AF ?_;have HQ:=Aa (show CN w B mb m F MV A s' en L E w1.drew from by
    rw[HC.out,if_neg (fun h=>by cases h.2.1)];exact⟨A,HR.out.below HB1.out.drew,Bw.refl _,Ch.of_below HB1.out.drew,fun _=>rfl⟩)
   go_wp2;go_end0;exact⟨rfl,HQ.out⟩
  |true =>
   refine AG (Below w.heap.size w) [(false,0),(false,1),(false,2),(false,3),(false,4),(false,5),(false,6),(false,7),(false,8),(false,9),(false,10),(false,11),(false,12),(false,13),(false,14),(false,15),(false,16),(false,17),(false,18),(false,19),(false,20),(false,22),(false,23),(false,24),(false,25),(true,21),(true,26),(false,27)] (by kernel_rfl) (by kernel_rfl) (Co _ _ _) HB1.out.drew ?_;simp only[lexL,Tl,Tm];iterate 25 (refine Aw (by rfl) (by intro w' hS';obtain⟨⟨_,_,q2⟩,q4,q5,q6,q7⟩:=HC0.out w' hS';clear hS';go_simp;exact rfl) ?_;simp only[Act.put,Td,Th,Tg])
   have HB2:=Aa HB1.out.drew;generalize w1.drew=w2 at *;refine Az (fun K hK=>?_);go_simp;refine(HH.out w2 HB2.out).mono ?_;rintro e w3 ⟨v,rfl,hrw,hb3⟩;have HB3:=Aa (HB2.out.trans (hb3.mono HB2.out.size));have HRW:=Aa hrw;refine hK.out _ _ HB3.out ?_;clear hK K hrw hb3 HH;refine Az (fun K hK=>?_);obtain⟨pv3,cv3,hv3⟩:∃ p c,v=.slice p hl.length c:=by
    rcases HRW.out with⟨h1,h2⟩|⟨b,cap,cur,h1,_⟩
    ·exact⟨none,0,by rw[h1,h2]⟩
    ·exact⟨_,_,h1⟩
   subst hv3;go_simp;refine(Rh w3 _ _ hl pcl HRW.out (by have:=HHL.out;omega)).mono ?_;rintro e w4 ⟨rfl,hw4⟩;rw[hw4];clear hw4 w4;have hdm:=HHM.out;rw[hdm];refine hK.out _ _ HB3.out ?_;clear hK K hdm;refine Aw (by rfl) (by intro w' hS';clear hS';go_simp;exact rfl) ?_;simp only[Act.put,Td,Th,Tg];refine AF ?_;cases hp with
   |false =>
    have HQ:=Aa (show CN w B mb m F MV A s' en L E w3 from by
     rw[HC.out,if_neg (fun h=>by cases h.2.2)];exact⟨A,HR.out.below HB3.out,Bw.refl _,Ch.of_below HB3.out,fun _=>rfl⟩)
    go_wp2;go_end0;exact⟨rfl,HQ.out⟩
   |true =>
    have HQ:=Aa (show CN w B mb m F MV A s' en L E ((w3.setCell ⟨fb,4,none⟩ (.slice p0 n0 c0)).setCell ⟨mb,9,none⟩ (.int .i64 ((s.cU:Int)+1))) from by
     rw[HC.out,if_pos ⟨rfl,rfl,rfl⟩];exact HUp.out w3 HB3.out rfl)
    obtain⟨r9,r9z,r4z⟩:=HC9.out w3 HB3.out;obtain⟨_,r4,_⟩:=HC0.out w3 HB3.out;go_wp2;go_end0;exact⟨rfl,HQ.out⟩
theorem DE.below{w w1 w':World}{B mb m:Nat}{F:Nat->PF}{A:Af}{s':Mc}{en:Int}{L:Bxs}{E:List Ev}(hb:Below w.heap.size w w1)(h:DE w1 B mb m F A s' en L E w'):DE w B mb m F A s' en L E w':=by
 obtain⟨A',MV',L',h1,h2,h3,h4,h5⟩:=h;exact⟨A',MV',L',h1,h2,(Ch.of_below hb).trans h3,h4,h5⟩
theorem RZ{w:World}{B mb m:Nat}{F:Nat->PF}{K:Nat->Nat->Bool}{H:Nat->Nat->Int}{MV:Nat->Value}{A:Af}{s:Mc}{en:Int}{L:Bxs}{E:List Ev}(h:Bb w B mb m F MV A s en L E)(hF:AP m F K H)(hI:BS m F K H s)(hd:s.cD<=900000)(hu:s.cU<=900000)(ev:Ev)(hok:CY m ev) :
  Calls prog 102 #[ptr mb,.agg #[.int .i64 ev.st,.int .i64 ev.k,.int .i64 ev.n]] w fun e w'=>e=.returned (.tuple #[])/\DE w B mb m F A (Bu F ev.k ev.n s) en L E w':=by
 obtain⟨f,rest,hs,hf,_,hr24⟩:=hI.top;have hlen:s.fr.length=rest.length+1:=by rw[hs];rfl
 have hbl:Below w.heap.size w (w.alloc (.cells #[.int .i64 ev.st,.int .i64 ev.k,.int .i64 ev.n] 65)):=(Tu _ _).alloc (Te _) _;have hR:=h.below hbl;obtain⟨st,k,n⟩:=ev;obtain⟨_,hk,hn⟩:=hok;simp only at hk hn hbl hR ⊢;have hdn:∀ (kd:Int) (w':World),DE (w.alloc (.cells #[.int .i64 st,.int .i64 kd,.int .i64 n] 65)) B mb m F A (Bu F kd n s) en L E w'->k=kd->DE w B mb m F A (Bu F k n s) en L E w':=fun kd w' hc e=>by
  subst e;exact DE.below hbl hc
 have HD:=Aa hdn;clear hdn;rcases hk with rfl|rfl|rfl|rfl
 ·obtain⟨fn,rfl⟩:∃ fn:Nat,n=fn:=⟨n.toNat,by have:=hn (by decide);omega⟩
  have HT:=Aa (Rs hR hF fn (by have:=hn (by decide);omega));clear h hR hF hI hf hs hbl hn;go_enter func102,ntmps102
  go_wp2_with fail
  refine HT.out.mono ?_;rintro e w1 ⟨rfl,h1⟩;have HQ:=Aa (HD.out 1 w1 h1 rfl);clear h1 HT HD;go_wp2;go_end0;exact⟨rfl,HQ.out⟩
 ·obtain⟨fn,rfl⟩:∃ fn:Nat,n=fn:=⟨n.toNat,by have:=hn (by decide);omega⟩
  have HT:=Aa (Rz hR (by omega) (by omega) hd fn (by have:=hn (by decide);omega));clear h hR hF hI hf hs hbl hn;go_enter func102,ntmps102
  go_wp2_with fail
  refine HT.out.mono ?_;rintro e w1 ⟨rfl,h1⟩;have HQ:=Aa (HD.out 2 w1 h1 rfl);clear h1 HT HD;go_wp2;go_end0;exact⟨rfl,HQ.out⟩
 ·have hfrow:=hR.st.lay.fr;rw[hlen] at hfrow;obtain⟨gb,gcap,hgv,_,_,_,_⟩:=hfrow.form (by omega);rw[hgv] at hfrow;have x3:(w.alloc (.cells #[.int .i64 st,.int .i64 3,.int .i64 n] 65)).cell? ⟨mb,3,none⟩=some (.slice (some ⟨gb,0,none⟩) (rest.length+1) gcap):=by rw[Ab hR.st.lay.run,<-hgv];rfl
  have q0:(w.alloc (.cells #[.int .i64 st,.int .i64 3,.int .i64 n] 65)).cell? ⟨gb,rest.length,none⟩=some (.pointer (some ⟨A.FB rest.length,0,none⟩)):=hfrow.cell (i:=rest.length) (by omega);have HTop:=Aa (Ha _ mb 3 rest.length gb gcap _ x3 q0 (by omega));have HT:=Aa (fun (w1:World) (hb:Below (w.alloc (.cells #[.int .i64 st,.int .i64 3,.int .i64 n] 65)).heap.size (w.alloc (.cells #[.int .i64 st,.int .i64 3,.int .i64 n] 65)) w1)=>QR (hR.below hb) hF hs hf.fn hf.pc (by omega) n);clear h hR hF hI hf hs hbl hn hfrow hgv x3 q0;generalize A.FB rest.length=fb at *;go_enter func102,ntmps102
  go_wp2_with fail
  generalize hWW:w.alloc (.cells #[.int .i64 st,.int .i64 3,.int .i64 n] 65)=W at *;refine HTop.out.mono ?_;rintro e w1 ⟨rfl,kq,hw1⟩;have hb1:Below W.heap.size W w1:=by rw[hw1];exact below_drewN (Tu _ _) _
  have HT1:=Aa (HT.out w1 hb1);have HB1:=Aa hb1;clear hw1 hb1 HT HTop;go_wp2_with fail
  refine HT1.out.mono ?_;rintro e w2 ⟨rfl,h2⟩;have HQ:=Aa (HD.out 3 w2 (by rw[hWW];exact(CN.below HB1.out h2).come) rfl);clear h2 HT1 HD;go_wp2;go_end0;exact⟨rfl,HQ.out⟩
 ·have HT:=Aa (QT hR (by omega) (by omega) hd n);clear h hR hF hI hf hs hbl hn;go_enter func102,ntmps102
  go_wp2_with fail
  refine HT.out.mono ?_;rintro e w1 ⟨rfl,h1⟩;have HQ:=Aa (HD.out 4 w1 h1.come rfl);clear h1 HT HD;go_wp2;go_end0;exact⟨rfl,HQ.out⟩
structure Ed (A A':Af):Prop where
 pv:A'.g.pv=A.g.pv
 mv:A'.g.mv=A.g.mv
theorem Ed.refl(A:Af):Ed A A:=⟨rfl,rfl⟩
section
variable {A:Af}{s:Mc}{w:World}{B mb:Nat}{en:Int}{F:Nat->PF}
theorem Ed.trans{B C:Af}(h:Ed A B)(k:Ed B C):Ed A C:=⟨k.pv.trans h.pv,k.mv.trans h.mv⟩
theorem Bw.p{A':Af}(h:Bw A A'):Ed A A':=⟨h.pv,h.mv⟩
theorem AB.evset(h:AB w B mb A s en)(v:Value) :
  AB (w.setCell ⟨mb,1,none⟩ v) B mb {A with g:={A.g with ev:=v}} s en/\Ch B (fun d=>d=0) A.tag A.tag w (w.setCell ⟨mb,1,none⟩ v):=by
 have hc:Ch B (fun d=>d=0) A.tag A.tag w (w.setCell ⟨mb,1,none⟩ v):=Ch.set w _ _ _ h.own.1 h.own.2;refine⟨⟨?_,h.own,h.fr.keep hc (by omega),fun i hi=>?_,h.ar.keep hc (by omega),h.out.keep hc (by omega),fun i hi=>(h.loc i hi).keep hc (by omega),fun i hi=>(h.stk i hi).keep hc (by omega),fun j hj=>(h.arr j hj).keep hc (by omega)⟩,hc⟩
 ·rw[AM h.run];rfl
 ·obtain⟨g1,g2,g3⟩:=h.fb i hi;obtain⟨g4,g5⟩:=Bq g1 hc (by rw[g3];omega);exact⟨g4,g2,g5.trans g3⟩
theorem Bb.next{m:Nat}{MV:Nat->Value}{L:Bxs}{E:List Ev}(h:Bb w B mb m F MV A s en L E)(v:Value){E':List Ev}(hv:Bs w B v E') :
  ∃ A':Af,Bb (w.setCell ⟨mb,1,none⟩ v) B mb m F MV A' s en L E'/\Ed A A'/\Ch B Dk A.tag A'.tag w (w.setCell ⟨mb,1,none⟩ v)/\∀ i,A'.FB i=A.FB i:=by
 obtain⟨l1,c1⟩:=h.st.lay.evset v;have hN:Ch B N5 A.tag A.tag w (w.setCell ⟨mb,1,none⟩ v):=c1.mono (fun d hd=>by unfold N5;omega);have hbl:=hN.below h.st.le;refine⟨_,⟨⟨l1,h.st.hl,h.st.cod,h.st.cnt,h.st.made.keep hN Kx,h.st.mds,h.st.pg.below hbl,by have:=hN.size;have:=h.st.le;omega⟩,h.bx.keep hN Db,h.md,h.fc,hv.below hbl,h.cp.below hbl⟩,⟨rfl,rfl⟩,hN.mono (fun _=>Hh),fun _=>rfl⟩
def DI(s:Mc)(E:List Ev):Prop:=s.cD+100 * E.length<=900000/\s.cU+E.length<=900000
theorem DI.come{e:Ev}{r:List Ev}(h:DI s (e::r))(hl:s.high.length=s.fr.length)(h24:s.fr.length<=24):DI (Bu F e.k e.n s) r:=by
 obtain⟨h1,h2⟩:=h;simp only[Tn] at h1 h2;have hc:∀ (all:Bool) (n:Int),(D2 all n s.fr s.high).2<=24:=fun all n=>by
  rw[GI all n s.fr s.high hl];exact Nat.le_trans (I0 _ _ _ _ _) h24
 have hc2:=hc (decide (e.k=4)) e.n;unfold Bu;split
 ·exact⟨by show s.cD+_<=_;omega,by show s.cU+_<=_;omega⟩
 ·split
  ·split
   ·exact⟨by omega,by omega⟩
   ·split
    ·exact⟨by show s.cD+_<=_;omega,by show s.cU+1+_<=_;omega⟩
    ·exact⟨by omega,by omega⟩
  ·exact⟨by show s.cD+_+_<=_;omega,by show s.cU+_<=_;omega⟩
def GZ(w:World)(B mb m:Nat)(F:Nat->PF)(K:Nat->Nat->Bool)(H:Nat->Nat->Int)(A:Af)(L:Bxs)(en:Int)(x:Mc × List Ev)(n:Nat)(wr:World)(gk:Nat):Prop :=
 ∃ (A':Af) (MV':Nat->Value) (L':Bxs) (s':Mc) (E':List Ev),Bb wr B mb m F MV' A' s' en L' E'/\E'.length=gk/\Ed A A'/\Ch B Dk A.tag A'.tag w wr/\(∀ t,t∈L->t∈L')/\(∀ i,A'.FB i=A.FB i)/\BN F E' s'=x/\BS m F K H s'/\Cv n E'/\(∀ e,e∈E'->CY m e)/\DI s' E'/\s'.steps=n
def Fa(w:World)(B mb m:Nat)(F:Nat->PF)(A:Af)(L:Bxs)(en:Int)(x:Mc × List Ev)(w':World):Prop :=
 ∃ (A':Af) (MV':Nat->Value) (L':Bxs),Bb w' B mb m F MV' A' x.1 en L' x.2/\Ed A A'/\Ch B Dk A.tag A'.tag w w'/\(∀ t,t∈L->t∈L')/\(∀ i,A'.FB i=A.FB i)/\DI x.1 x.2
theorem Kj{m:Nat}{K:Nat->Nat->Bool}{H:Nat->Nat->Int}{MV:Nat->Value}{L:Bxs}{E:List Ev}(h:Bb w B mb m F MV A s en L E)(hF:AP m F K H)(hI:BS m F K H s)(hr:Cv s.steps E)(hok:∀ e,e∈E->CY m e)(hro:DI s E) :
  Calls prog 90 #[ptr mb] w fun e w'=>e=.returned (.tuple #[])/\Fa w B mb m F A L en (BN F E s) w':=by
 have HST:=Aa (show GZ w B mb m F K H A L en (BN F E s) s.steps w E.length from ⟨A,MV,L,s,E,h,rfl,Ed.refl _,Ch.refl _ _ _ _,fun t ht=>ht,fun _=>rfl,rfl,hI,hr,hok,hro,rfl⟩);have HF:=Aa hF;generalize BN F E s=x at *;generalize hsn:s.steps=sn at *;generalize E.length=g0 at *;clear h hI hr hok hro hsn hF;go_enter func90,ntmps90
 go_wp2;go_loopg [] g0 (fun gk wr=>GZ w B mb m F K H A L en x sn wr gk)
 case atStart=>exact HST.out
 case round =>
  obtain⟨A1,MV1,L1,s1,E1,h1,hg1,hp1,hc1,hl1,hf1,hx1,hI1,hr1,hok1,hro1,hs1⟩:=hrel;clear HST;have hmz:mb<wr.heap.size:=Ah h1.st.lay.run;have x7:wr.cell? ⟨mb,7,none⟩=some (.int .i64 sn):=by rw[Ab h1.st.lay.run,<-hs1];rfl
  have x1:wr.cell? ⟨mb,1,none⟩=some A1.g.ev:=(Ab h1.st.lay.run).trans rfl;have z1:wr.frozen? ⟨mb,1,none⟩=false:=Ax h1.st.lay.run;obtain⟨p,c,hev,hec,hee⟩:=h1.ev;rw[hev] at x1;cases E1 with
  |nil =>
   have HQ:=Aa (show ∀ X,Below wr.heap.size wr X->Fa w B mb m F A L en x X from fun X hX=>by
    have:BN F [] s1=(s1,[]):=rfl;rw[<-hx1,this];exact⟨A1,MV1,L1,h1.below hX,hp1,hc1.trans' hX,hl1,hf1,hro1⟩)
   have HC:=Aa (fun (w':World) (hb:Below wr.heap.size wr w')=>(show w'.cell? ⟨mb,1,none⟩=some (.slice p 0 c) from (hb.cell (p:=⟨mb,1,none⟩) hmz).trans x1));clear h1 hp1 hc1 hl1 hf1 hx1 hI1 hr1 hok1 hro1 hs1 hee hev hec hg1;go_wp2_with fail
   refine AG (Below wr.heap.size wr) TE (by kernel_rfl) (by kernel_rfl) (fun c0 a0 d0 v0 x0 h0=>A8 (P:=prog) f90 (fun e w'=>e=.returned (.tuple #[])/\Fa w B mb m F A L en x w') c0 a0 d0 v0 x0 h0) (Tu _ _).drew ?_;simp only[TE,lexL,Tl,Tm];iterate 7 (refine Aw (by rfl) (by intro w' hS';have q1:=HC.out w' hS';clear hS';go_simp;exact rfl) ?_;simp only[Act.put,Td,Th,Tg])
   iterate 12 (refine Cj (by rfl) ?_;simp only[Act.put,Td,Th,Tg])
   refine Aw (by rfl) (by intro w' hS';clear hS';go_simp;exact rfl) ?_;simp only[Act.put,Td,Th,Tg];refine AF ?_;have HR:=Aa (HQ.out wr.drew (Tu _ _).drew);clear HQ HC;go_wp2;go_end0;exact⟨rfl,HR.out⟩
  |cons ev r =>
   obtain⟨eb,eo,rfl,hebB,hcells⟩:=hee (by simp);obtain⟨k0,k1,k2⟩:=hcells 0 (by simp);simp only[Nat.zero_mul,Nat.add_zero,List.getD_cons_zero] at k0 k1 k2;have hebz:eb<wr.heap.size:=by have:=h1.st.le;omega
   have hok0:=hok1 ev Ti;have HC:=Aa (fun (w':World) (hb:Below wr.heap.size wr w')=>(show w'.cell? ⟨mb,1,none⟩=some (.slice (some ⟨eb,eo,none⟩) (r.length+1) c)/\w'.cell? ⟨mb,7,none⟩=some (.int .i64 sn)/\w'.cell? ⟨eb,eo,none⟩=some (.int .i64 ev.st)/\w'.cell? ⟨eb,eo+1,none⟩=some (.int .i64 ev.k)/\w'.cell? ⟨eb,eo+2,none⟩=some (.int .i64 ev.n) from ⟨(hb.cell (p:=⟨mb,1,none⟩) hmz).trans x1,(hb.cell (p:=⟨mb,7,none⟩) hmz).trans x7,(hb.cell (p:=⟨eb,eo,none⟩) hebz).trans k0,(hb.cell (p:=⟨eb,eo+1,none⟩) hebz).trans k1,(hb.cell (p:=⟨eb,eo+2,none⟩) hebz).trans k2⟩));have i1:(0:Int)<(r.length:Int)+1:=by omega
   by_cases hst0:ev.st=sn
   ·have e1:(ev.st==(sn:Int))=true:=by simpa using hst0
    obtain⟨f,rest,hsf,_,_,h24⟩:=hI1.top;have hl24:s1.fr.length<=24:=by rw[hsf];simpa using h24
    have hcm:=G5 (F:=F) ev.k ev.n s1 hI1.highs;have hmet:BN F r (Bu F ev.k ev.n s1)=x:=by
     rw[<-hx1];conv=>rhs;unfold BN
     rw[if_pos (by rw[hs1];omega)]
    have hro2:=hro1.come (F:=F) hI1.highs hl24;have hD:s1.cD<=900000/\s1.cU<=900000:=⟨by have:=hro1.1;omega,by have:=hro1.2;omega⟩
    have HT:=Aa (fun (w':World) (hb:Below wr.heap.size wr w')=>RZ (h1.below hb) HF.out hI1 hD.1 hD.2 ev hok0);have HX:=Aa (Tc hp1 (Tc hc1 (Tc hl1 (Tc hf1 (Tc hmet (Tc (hcm.inv hI1) (Tc (hr1.2.mono (show (sn:Int)<=ev.st by omega)) (Tc (fun e he=>hok1 e (Tf _ he)) (Tc hro2 (hcm.steps.trans hs1))))))))));have HEv:=Aa (show ∀ c',(c'=c)->2<=r.length+1->∀ w',Below B wr w'->Bs w' B (.slice (some ⟨eb,eo+3,none⟩) r.length (c'-1)) r from fun c' hc' h2 w' hb=>by
     subst hc';have hec':r.length+1<=c':=hec;refine⟨some ⟨eb,eo+3,none⟩,c'-1,rfl,by omega,fun _=>⟨eb,eo+3,rfl,hebB,fun i hi=>?_⟩⟩;obtain⟨a0,a1,a2⟩:=hcells (i+1) (by simp;omega);simp only[List.getD_cons_succ] at a0 a1 a2;refine⟨?_,?_,?_⟩
     ·rw[show eo+3+i * 3=eo+(i+1) * 3 by omega];exact(hb.cell (p:=⟨eb,eo+(i+1) * 3,none⟩) hebB).trans a0
     ·rw[show eo+3+i * 3+1=eo+(i+1) * 3+1 by omega];exact(hb.cell (p:=⟨eb,eo+(i+1) * 3+1,none⟩) hebB).trans a1
     ·rw[show eo+3+i * 3+2=eo+(i+1) * 3+2 by omega];exact(hb.cell (p:=⟨eb,eo+(i+1) * 3+2,none⟩) hebB).trans a2)
    have hgk:gk=r.length+1:=by rw[<-hg1];rfl
    have hec2:r.length+1<=c:=hec;have HLE:=Aa h1.st.le;have evEq:=h1.ev;have HEVV:=Aa hev;clear h1 hp1 hc1 hl1 hf1 hx1 hI1 hr1 hok1 hro1 hs1 hee hev hec hg1 hcells hcm hmet hro2 hD hok0 k0 k1 k2 x1 x7 z1 hst0 hsf h24 hl24 evEq;go_wp2_with fail
    refine AG (Below wr.heap.size wr) TE (by kernel_rfl) (by kernel_rfl) (fun c0 a0 d0 v0 x0 h0=>A8 (P:=prog) f90 (fun e w'=>e=.returned (.tuple #[])/\Fa w B mb m F A L en x w') c0 a0 d0 v0 x0 h0) (Tu _ _).drew ?_;simp only[TE,lexL,Tl,Tm];iterate 20 (refine Aw (by rfl) (by intro w' hS';obtain⟨q1,q2,q3,_,_⟩:=HC.out w' hS';clear hS';go_simp;exact rfl) ?_;simp only[Act.put,Td,Th,Tg])
    refine AF ?_;have HB1:=Aa (show Below wr.heap.size wr wr.drew from (Tu _ _).drew);generalize wr.drew=w1 at *;obtain⟨q1,_,q3,q4,q5⟩:=HC.out w1 HB1.out;go_wp2_with fail
    refine(HT.out w1 HB1.out).mono ?_;rintro e w2 ⟨rfl,A2,MV2,L2,r2,s2,c2,l2,f2⟩;clear q1 q3 q4 q5 HT;have x1':w2.cell? ⟨mb,1,none⟩=some (.slice (some ⟨eb,eo,none⟩) (r.length+1) c):=by
     rw[Ab r2.st.lay.run];show some A2.g.ev=_;rw[s2.ev,HEVV.out];rfl
    have z1':w2.frozen? ⟨mb,1,none⟩=false:=Ax r2.st.lay.run;have hbw2:Below B wr w2:=(HB1.out.mono HLE.out).trans (c2.below (by have:=HB1.out.size;have:=HLE.out;omega));obtain⟨hp1,hc1,hl1,hf1,hmet,hI2,hr2,hok2,hro2,hs2⟩:=HX.out;have HN:=Aa (show ∀ v,Bs w2 B v r->GZ w B mb m F K H A L en x sn (w2.setCell ⟨mb,1,none⟩ v) (gk-1) from fun v hv=>by
     obtain⟨A3,r3,p3,c3,f3⟩:=r2.next v hv;exact⟨A3,MV2,L2,_,r,r3,by omega,(hp1.trans s2.p).trans p3,(hc1.trans ((Ch.of_below HB1.out).trans c2)).trans c3,fun t ht=>l2 t (hl1 t ht),fun i=>((f3 i).trans (f2 i)).trans (hf1 i),hmet,hI2,hr2,hok2,hro2,hs2⟩)
    have HEv2:=Aa (fun (h2:2<=r.length+1)=>HEv.out c rfl h2 w2 hbw2);have j0:(1:Int)<=(r.length:Int)+1:=by omega
    have hlt:gk-1<gk:=by omega
    clear r2 s2 c2 l2 f2 hbw2 hp1 hc1 hl1 hf1 hmet hI2 hr2 hok2 hro2 hs2 HX HEv HC;by_cases hrn:r=[]
    ·have HN2:=Aa (show ∀ p' c',GZ w B mb m F K H A L en x sn (w2.setCell ⟨mb,1,none⟩ (.slice p' 0 c')) (gk-1) from fun p' c'=>HN.out _ (by rw[hrn];exact⟨p',c',rfl,Tt _,fun h=>absurd rfl h⟩));have hr0:r.length=0:=by rw[hrn];rfl
     rw[hr0] at x1';clear HN HEv2 hrn;by_cases hc1:c=1
     ·subst hc1;go_wp2;go_roundg (gk-1)
      case measure=>exact hlt
      case rel=>exact HN2.out _ _
     ·go_wp2;go_roundg (gk-1)
      case measure=>exact hlt
      case rel=>exact HN2.out _ _
    ·have hr1:1<=r.length:=by
      cases hc:r with
      |nil=>exact absurd hc hrn
      |cons a b=>simp
     have HR:=Aa (HN.out _ (HEv2.out (by omega)));have hc1:¬c=1:=by omega
     have hc2:¬c<=1:=by omega
     clear HN HEv2 hrn;generalize r.length=rl at *;go_wp2;go_roundg (gk-1)
     case measure=>exact hlt
     case rel=>exact HR.out
   ·have e1:(ev.st==(sn:Int))=false:=by simpa using hst0
    have hge:(sn:Int)<=ev.st:=hr1.1;have HQ:=Aa (show ∀ X,Below wr.heap.size wr X->Fa w B mb m F A L en x X from fun X hX=>by
     have:BN F (ev::r) s1=(s1,ev::r):=by
      unfold BN;rw[if_neg (by rw[hs1];omega)]
     rw[<-hx1,this];exact⟨A1,MV1,L1,h1.below hX,hp1,hc1.trans' hX,hl1,hf1,hro1⟩)
    clear h1 hp1 hc1 hl1 hf1 hx1 hI1 hr1 hok1 hro1 hs1 hee hev hec hg1 hcells hok0 k0 k1 k2 x1 x7 z1 hst0 hge;go_wp2_with fail
    refine AG (Below wr.heap.size wr) TE (by kernel_rfl) (by kernel_rfl) (fun c0 a0 d0 v0 x0 h0=>A8 (P:=prog) f90 (fun e w'=>e=.returned (.tuple #[])/\Fa w B mb m F A L en x w') c0 a0 d0 v0 x0 h0) (Tu _ _).drew ?_;simp only[TE,lexL,Tl,Tm];iterate 20 (refine Aw (by rfl) (by intro w' hS';obtain⟨q1,q2,q3,_,_⟩:=HC.out w' hS';clear hS';go_simp;exact rfl) ?_;simp only[Act.put,Td,Th,Tg])
    refine AF ?_;have HR:=Aa (HQ.out wr.drew (Tu _ _).drew);clear HQ HC;go_wp2;go_end0;exact⟨rfl,HR.out⟩
end
end Go.Proofs.YtkafkipjedpohaaGreatDoor

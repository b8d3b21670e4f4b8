import Derived.Test.YtkafkipjedpohaaGreatDoorPureM
namespace Go.Proofs.YtkafkipjedpohaaGreatDoor
set_option maxRecDepth 100000
set_option maxHeartbeats 16000000
open Go.RowKit _root_.Go.Proofs.Tryz
theorem KY(p q:Addr)(w:World) :
  CallsD prog 87 #[.pointer (some p),.pointer (some q)] .returning w fun e u' w'=>e=.returned (.tuple #[])/\u'=.returning/\w'=w:=by
 have hnil:∀ w:World,(binOp BinOp.eql 20 .nilIface .nilIface).run prog w=.ok (.bool true) w:=fun _=>by kernel_rfl
 refine callsD_of_wpS func87 rfl fun c₀ cs hu=>?_
 apply wpS_seq;apply wpS_region;simp[wpOpsS,go_sem,recoverD,hu,ntmps87,Exit.thenS];refine wpS_of_wp ?_;have etm:(#[Value.pointer (some p),Value.pointer (some q)]++(Array.replicate 16 undef).setIfInBounds 3 Value.nilIface:Array Value)=#[.pointer (some p),.pointer (some q),undef,undef,undef,.nilIface,undef,undef,undef,undef,undef,undef,undef,undef,undef,undef,undef,undef]:=rfl;rw[etm];clear etm;go_wp2;cases c₀
 simp_all [bodyPostS,results,Tryz.results87]
theorem NQ(n:Int)(w:World):(Instr.typeAssert (.iface 163 (.int .i64 n)) 20 163 true).run prog w=.ok (.tuple #[.int .i64 n,.bool true]) w:=by
 simp[Instr.typeAssert,run_underlying underlying163,go_sem,Result.andThen]
theorem PK{w:World}{B mb m:Nat}{F:Nat->PF}{MV:Nat->Value}{A:Af}{s:Mc}{en:Int}(hM:AH w B mb m F MV A s en){f:Fr}{rest:List Fr}(hs:s.fr=f::rest)(hr:rest.length<=60)(hst:s.steps<=100000)(hch:s.cH<=100000)(pb qb:Nat)(n x:Int)(hp:w.heap[pb]?=some (.cells #[.int .i64 x] 3 (0,0)))(hq:w.heap[qb]?=some (.cells #[.pointer (some ⟨mb,0,none⟩)] 103 (0,0)))(hpq:qb≠pb)(hpB:B<=pb)(hpt:A.tag pb=5)(hqt:A.tag qb=5) :
  CallsD prog 87 #[.pointer (some ⟨pb,0,none⟩),.pointer (some ⟨qb,0,none⟩)] (.panicking [{v:=.iface 163 (.int .i64 n),recovered:=false}]) w fun e u' w' =>
   e=.returned (.tuple #[])/\u'=.panicking [{v:=.iface 163 (.int .i64 n),recovered:=true}]/\(∃ A':Af,AH w' B mb m F MV A' {s with steps:=s.steps+1,cH:=s.cH+if s.high.headD false=true then 1 else 0} en/\Bw A A'/\Ch B (fun _=>True) A.tag A'.tag w w')/\w'.cell? ⟨pb,0,none⟩=some (.int .i64 n):=by
 obtain⟨s9,hs9⟩:∃ s9:Mc,s9={s with steps:=s.steps+1,cH:=s.cH+if s.high.headD false=true then 1 else 0}:=⟨_,rfl⟩
 rw[<-hs9];have HS9:=Aa hs9;clear hs9;have hnil:∀ w:World,(binOp BinOp.eql 20 (.iface 163 (.int .i64 n)) .nilIface).run prog w=.ok (.bool false) w:=fun w=>run_eql_held_nil w 20 163 (.int .i64 n) (by kernel_rfl)
 have hta:=fun wx=>NQ n wx
 have y0:w.cell? ⟨pb,0,none⟩=some (.int .i64 x):=(Ab hp).trans rfl;have z0:w.frozen? ⟨pb,0,none⟩=false:=Ax hp;have c5:Ch B (fun d=>d=5) A.tag A.tag w (w.setCell ⟨pb,0,none⟩ (.int .i64 n)):=Ch.set w _ _ _ hpB hpt;have hp1:=AM (o:=0) hp (.int .i64 n);have hq1:(w.setCell ⟨pb,0,none⟩ (.int .i64 n)).heap[qb]?=some (.cells #[.pointer (some ⟨mb,0,none⟩)] 103 (0,0)):=(Tx _ _ _ _ hpq).trans hq;have hMd:=hM.made;have m1:AH (w.setCell ⟨pb,0,none⟩ (.int .i64 n)) B mb m F MV A s en:=⟨hM.lay.keep5 c5,hM.hl,hM.cod,hM.cnt,hM.made.keep c5 (by omega),hM.mds,hM.pg.below (c5.below hM.le),by simp[World.setCell];exact hM.le⟩
 obtain⟨t4,tne,_,_,_,_,_⟩:=m1.top hs;have hgear:=m1.gear hs;have hlen:s.fr.length=rest.length+1:=by rw[hs];rfl
 have hfrow:=m1.lay.fr;rw[hlen] at hfrow;obtain⟨gb,gcap,hgv,_,_,_,_⟩:=hfrow.form (by omega);rw[hgv] at hfrow;have x3:(w.setCell ⟨pb,0,none⟩ (.int .i64 n)).cell? ⟨mb,3,none⟩=some (.slice (some ⟨gb,0,none⟩) (rest.length+1) gcap):=by rw[Ab m1.lay.run,<-hgv];rfl
 have q0:(w.setCell ⟨pb,0,none⟩ (.int .i64 n)).cell? ⟨gb,rest.length,none⟩=some (.pointer (some ⟨A.FB rest.length,0,none⟩)):=hfrow.cell (i:=rest.length) (by omega);have HM:=Aa (Tc m1 (Tc (Tc t4 tne) (Tc (Tc x3 q0) (Tc (Tc hp1 hq1) (Tc c5 (Tc hpt (Tc hqt hgear)))))));clear hM hMd m1 t4 tne hgear hfrow hgv x3 q0 c5 hp hq;generalize hfb:A.FB rest.length=fb at *;have HFB:=Aa hfb;clear hfb;refine callsD_of_wpS func87 rfl fun c₀ cs hu=>?_
 apply wpS_seq;apply wpS_region;simp[wpOpsS,go_sem,recoverD,hu,ntmps87,Exit.thenS];refine wpS_of_wp ?_;have etm:(#[Value.pointer (some ⟨pb,0,none⟩),Value.pointer (some ⟨qb,0,none⟩)]++(Array.replicate 16 undef).setIfInBounds 3 (Value.iface 163 (.int .i64 n)):Array Value)=#[.pointer (some ⟨pb,0,none⟩),.pointer (some ⟨qb,0,none⟩),undef,undef,undef,.iface 163 (.int .i64 n),undef,undef,undef,undef,undef,undef,undef,undef,undef,undef,undef,undef]:=rfl;rw[etm];clear etm;go_wp2_with fail
 clear y0 z0 hnil hta hp1 hq1;obtain⟨m1,⟨t4,tne⟩,⟨x3,q0⟩,⟨hp1,hq1⟩,c5,hpt,hqt,hgear⟩:=HM.out;clear HM;generalize w.setCell ⟨pb,0,none⟩ (.int .i64 n)=W at *;have hS0:Hb [(qb,#[Value.pointer (some ⟨mb,0,none⟩)],103)] W.drew:=fun t ht=>by
  obtain rfl:t=(qb,#[Value.pointer (some ⟨mb,0,none⟩)],103):=by simpa using ht
  exact hq1
 have HW:=Aa (Tc m1 (Tc (Tc t4 tne) (Tc (Tc x3 q0) (Tc (Tc hp1 hq1) (Tc c5 (Tc hpt (Tc hqt hgear)))))));clear m1 t4 tne x3 q0 hp1 hq1 c5 hgear;refine wp_region_noPanic ?_;refine AG (Hb [(qb,#[Value.pointer (some ⟨mb,0,none⟩)],103)]) [(false,0),(false,1),(false,2),(false,3),(true,4),(true,5)] (by kernel_rfl) (by kernel_rfl) (fun _ _ _ _ _ h=>h.elim) hS0 ?_;have S0:=Aa hS0;clear hS0;simp only[lexL,Tl,Tm];iterate 4 (refine Aw (by rfl) (by intro w' hS';have y0:w'.cell? ⟨qb,0,none⟩=some (.pointer (some ⟨mb,0,none⟩)):=(hS'.cell Ti 0).trans rfl;clear hS';go_simp;exact rfl) ?_;simp only[Act.put,Td,Th,Tg])
 refine Az (fun K hK=>?_);go_simp;refine(Ha W.drew mb 3 rest.length gb gcap _ HW.out.2.2.1.1 HW.out.2.2.1.2 (by omega)).mono ?_;rintro e w6 ⟨rfl,k6,hw6⟩;have hB6:Below W.heap.size W w6:=by rw[hw6];exact below_drewN (Tu _ _).drew _
 have HB6:=Aa hB6;refine hK.out _ _ ((show Hb [(qb,#[Value.pointer (some ⟨mb,0,none⟩)],103)] W from S0.out).below hB6) ?_;clear hK K hw6 hB6;refine Az (fun K hK=>?_);go_simp;have hm6:=HW.out.1.below HB6.out;have t6:w6.cell? ⟨fb,4,none⟩=some (A.g.CV rest.length):=(HB6.out.cell (p:=⟨fb,4,none⟩) (Tr W _ HW.out.2.1.1)).trans HW.out.2.1.1;refine(hm6.count fb _ _ t6 HW.out.2.2.2.2.2.2.2 HW.out.2.1.2 (by omega) (by omega) 1 (by omega)).mono ?_;rintro e w7 ⟨rfl,hw7,A7,m7,s7,c7,f7,_⟩;have hc7:Ch B N5 A.tag A7.tag W w7:=(Ch.of_below HB6.out).trans c7;have p7:w7.heap[pb]?=some (.cells #[.int .i64 n] 3 (0,0)):=(Bq HW.out.2.2.2.1.1 hc7 (by rw[HW.out.2.2.2.2.2.1];exact Db)).1;have q7:w7.heap[qb]?=some (.cells #[.pointer (some ⟨mb,0,none⟩)] 103 (0,0)):=(Bq HW.out.2.2.2.1.2 hc7 (by rw[HW.out.2.2.2.2.2.2.1];exact Db)).1;have HQ:=Aa (Tc (show ∃ A':Af,AH w7 B mb m F MV A' s9 en/\Bw A A'/\Ch B (fun _=>True) A.tag A'.tag w w7 from ⟨A7,by rw[HS9.out];exact m7,s7,(HW.out.2.2.2.2.1.mono (fun _ _=>trivial)).trans (hc7.mono (fun _ _=>trivial))⟩) (show w7.cell? ⟨pb,0,none⟩=some (.int .i64 n) from (Ab p7).trans rfl));refine hK.out _ _ (fun t ht=>by
  obtain rfl:t=(qb,#[Value.pointer (some ⟨mb,0,none⟩)],103):=by simpa using ht
  exact q7) ?_
 clear hw7 hs hlen;clear hK K m7 s7 c7 f7 hc7 p7 q7 hm6 t6 S0 HB6 HW;refine AF ?_;refine NoPanic.normal ?_;go_wp2;have hq:=HQ.out;clear HQ;cases c₀
 simp[bodyPostS,results,Tryz.results87,go_sem];exact hq
variable {m:Nat} {F:Nat->PF} {K:Nat->Nat->Bool} {H:Nat->Nat->Int}
theorem ON(A:Nat)(f:Fr)(rest:List Fr)(s:Mc):(AJ F A f rest s).cU=s.cU/\(AJ F A f rest s).cD=s.cD:=by
 unfold AJ;repeat' split
 all_goals exact⟨rfl,rfl⟩
theorem Oj(f:Fr)(rest:List Fr)(s:Mc):(AT f rest s).cU=s.cU/\(AT f rest s).cD=s.cD:=by
 unfold AT;repeat' split
 all_goals exact⟨rfl,rfl⟩
theorem Mt{l:Mc}{f:Fr}{rest:List Fr}(hs:l.fr=f::rest):(AA F l).cU=l.cU/\(AA F l).cD=l.cD:=by
 rw[Dw hs];unfold CG;dsimp only;generalize (if l.high.headD false=true then 1 else 0)=c;split
 ·exact⟨rfl,rfl⟩
 ·split
  ·split<;>exact⟨rfl,rfl⟩
  ·split
   ·exact ON _ _ _ _
   ·split
    ·exact Oj _ _ _
    ·exact⟨rfl,rfl⟩
theorem QZ(hF:AP m F K H){n:Nat}{s t:Mc}(h:Ew F n s t):BS m F K H s->Cw H s->Bd s->Bd t/\t.cU=s.cU/\t.cD=s.cD/\t.steps=s.steps+n:=by
 induction h with
 |none s=>exact fun _ _ h3=>⟨h3,rfl,rfl,rfl⟩
 |more h0 hst ih =>
  intro h1 h2 h3;rename_i n s t;obtain⟨f,rest,hs,_⟩:=h1.top;have hb:=Bd.step (F:=F) h3 h0 hs;obtain⟨hu,hd⟩:=Mt (F:=F) hs;have hsf:=Fb (F:=F) h0 h1.some;cases hst with
  |none=>exact⟨hb,hu,hd,hsf.steps⟩
  |more hz hst2 =>
   obtain⟨k1,k2,k3,k4⟩:=ih (EH hF h1 hz) (FP hF h1 h2 hz) hb;exact⟨k1,k2.trans hu,k3.trans hd,by rw[k4,hsf.steps];omega⟩
theorem JM:Bd (AC F):=⟨Tt _,Tt _,Tt _⟩
theorem Gl(hF:AP m F K H){E:List Ev}(hr:Cv 0 E)(hok:∀ e,e∈E->CY m e):∀ n,Gh m F K H n (AO F (AC F) E n):=by
 obtain⟨hI,h16⟩:=Fj hF;exact LA hF hI h16 JM rfl rfl hr hok
end Go.Proofs.YtkafkipjedpohaaGreatDoor
namespace Go.Proofs.YtkafkipjedpohaaGreatDoor
set_option maxRecDepth 100000
set_option maxHeartbeats 16000000
open Go.RowKit _root_.Go.Proofs.Tryz
def Ca(s:Mc):Int:=if s.fin=0 then 2 else s.fin
def Ib(w:World)(B mb m:Nat)(F:Nat->PF)(A:Af)(S:Nat->Mc × List Ev)(fuel gk:Nat)(wr:World):Prop :=
 ∃ j,j+gk=fuel/\(S j).1.fin=0/\∃ (A1:Af) (MV:Nat->Value) (L:Bxs),Bb wr B mb m F MV A1 (S j).1 0 L (S j).2/\DI (S j).1 (S j).2/\A1.tag w.heap.size=5/\A1.tag (w.heap.size+1)=5/\Ch B Dk A.tag A1.tag w wr/\wr.heap[w.heap.size]?=some (.cells #[.pointer (some ⟨mb,0,none⟩)] 103 (0,0))/\wr.heap[w.heap.size+1]?=some (.cells #[.int .i64 0] 3 (0,0))
section
variable {w:World}{B mb m:Nat}{F:Nat->PF}{A:Af}{MV:Nat->Value}{L:Bxs}
theorem Bb.box{s:Mc}{en:Int}{E:List Ev}(h:Bb w B mb m F MV A s en L E)(c:Array Value)(t:TypeId):∃ A1:Af,Bb (w.alloc (.cells c t)) B mb m F MV A1 s en L E/\A1.tag w.heap.size=5/\Ch B (fun _=>False) A.tag A1.tag w (w.alloc (.cells c t)):=by
 have hk:Ch B (fun _=>False) A.tag (Ac A.tag w.heap.size 5) w (w.alloc (.cells c t)):=Ch.of_tags ((Tu _ _).alloc (Te _) _) (fun b hb=>Ao _ _ _ _ (by omega));exact⟨_,h.keep hk,by show Ac A.tag w.heap.size 5 w.heap.size=5;rw[Au],hk⟩
theorem AH.set5{s:Mc}{en:Int}(h:AH w B mb m F MV A s en){b:Nat}(hb:B<=b)(ht:A.tag b=5)(v:Value):AH (w.setCell ⟨b,0,none⟩ v) B mb m F MV A s en/\Ch B (fun d=>d=5) A.tag A.tag w (w.setCell ⟨b,0,none⟩ v):=by
 have c5:Ch B (fun d=>d=5) A.tag A.tag w (w.setCell ⟨b,0,none⟩ v):=Ch.set w _ _ _ hb ht;exact⟨⟨h.lay.keep5 c5,h.hl,h.cod,h.cnt,h.made.keep c5 (by omega),h.mds,h.pg.below (c5.below h.le),by simp[World.setCell];exact h.le⟩,c5⟩
theorem Fa.run{W w1:World}{A1:Af}{S:Nat->Mc × List Ev}{fuel j:Nat}(h:Fa W B mb m F A1 L 0 (S j) w1)(hj:j<=fuel)(hz:(S j).1.fin=0)(t1:A1.tag w.heap.size=5)(t2:A1.tag (w.heap.size+1)=5)(c:Ch B Dk A.tag A1.tag w W)(b1:W.heap[w.heap.size]?=some (.cells #[.pointer (some ⟨mb,0,none⟩)] 103 (0,0)))(b2:W.heap[w.heap.size+1]?=some (.cells #[.int .i64 0] 3 (0,0))):Ib w B mb m F A S fuel (fuel-j) w1:=by
 obtain⟨A',MV',L',r1,_,c1,_,_,ro⟩:=h;obtain⟨p1,q1⟩:=Bq b1 c1 (by rw[t1];exact Mb);obtain⟨p2,q2⟩:=Bq b2 c1 (by rw[t2];exact Mb);exact⟨j,by omega,hz,A',MV',L',r1,ro,q1.trans t1,q2.trans t2,c.trans c1,p1,p2⟩
structure N9 (m:Nat) (F:Nat->PF) (K:Nat->Nat->Bool) (H:Nat->Nat->Int) (S:Nat->Mc × List Ev):Prop where
 at_:∀ n,Gh m F K H n (S n)
 stay:∀ n k,(S n).1.fin≠0->n<=k->S k=S n
 steps:∀ (n j:Nat) (t:Mc),(S j).1.fin=0->Ew F n (S j).1 t->1<=n->((S j).2≠[]->(j:Int)+n<=((S j).2.headD ⟨0,0,0⟩).st)->S (j+n)=if t.fin=0 then BN F (S j).2 t else (t,(S j).2)
theorem Ov{K:Nat->Nat->Bool}{H:Nat->Nat->Int}{E0:List Ev}(h:Bb w B mb m F MV A (AC F) 0 L E0)(hF:AP m F K H)(hr0:Cv 0 E0)(hok0:∀ e,e∈E0->CY m e)(hro0:DI (AC F) E0)(fuel:Nat)(hfu:fuel<=100000) :
  Calls prog 68 #[.pointer (some ⟨mb,0,none⟩),.int .i64 fuel] w fun e w'=>e=.returned (.int .i64 (Ca (AO F (AC F) E0 fuel).1)) /\
   ∃ (A':Af) (MV':Nat->Value),AH w' B mb m F MV' A' (AO F (AC F) E0 fuel).1 0/\Ch B (fun _=>True) A.tag A'.tag w w':=by
 have hmf:=A__mkf
 have hRd:N9 m F K H (AO F (AC F) E0):=⟨Gl hF hr0 hok0,fun n k hz hk=>IQ hz k hk,fun n j t hz hst h1 hE=>Lb hF (Gl hF hr0 hok0) n j _ t _ rfl hz hst h1 hE⟩
 have hS0:AO F (AC F) E0 0=BN F E0 (AC F):=rfl;generalize AO F (AC F) E0=S at *;have hB:=h.st.le;obtain⟨A1,m1,t1,c1⟩:=h.box #[.pointer (some ⟨mb,0,none⟩)] 103;obtain⟨A2,m2,t2,c2⟩:=m1.box #[.int .i64 0] 3;have hz1:(w.alloc (.cells #[.pointer (some ⟨mb,0,none⟩)] 103)).heap.size=w.heap.size+1:=by simp
 rw[hz1] at t2;have b1:((w.alloc (.cells #[.pointer (some ⟨mb,0,none⟩)] 103)).alloc (.cells #[.int .i64 0] 3)).heap[w.heap.size]?=some (.cells #[.pointer (some ⟨mb,0,none⟩)] 103 (0,0)):=(Ty _ _ _ (by simp)).trans (Tv _ _);have b2:((w.alloc (.cells #[.pointer (some ⟨mb,0,none⟩)] 103)).alloc (.cells #[.int .i64 0] 3)).heap[w.heap.size+1]?=some (.cells #[.int .i64 0] 3 (0,0)):=by
  have:=Tv (w.alloc (.cells #[.pointer (some ⟨mb,0,none⟩)] 103)) (.cells #[.int .i64 0] 3);rw[hz1] at this;exact this
 have t1':A2.tag w.heap.size=5:=(c2.tags _ (by omega)).trans t1;have c12:Ch B Dk A.tag A2.tag w ((w.alloc (.cells #[.pointer (some ⟨mb,0,none⟩)] 103)).alloc (.cells #[.int .i64 0] 3)):=(c1.mono (fun _ h=>h.elim)).trans (c2.mono (fun _ h=>h.elim));have HI:=Aa (Tc m2 (Tc t1' (Tc t2 (Tc c12 (Tc b1 b2)))));have HG:=Aa (Tc hF (Tc hRd (Tc hB (Tc hS0 (Tc hr0 (Tc hok0 hro0))))));clear h m1 t1 c1 m2 t2 c2 c12 b1 b2 t1' hz1 hF hRd hB hS0 hr0 hok0 hro0;go_enter_defers func68,ntmps68
 go_wp2_with fail
 obtain⟨m2,t1,t2,c2,b1,b2⟩:=HI.out;clear HI;generalize (w.alloc (.cells #[.pointer (some ⟨mb,0,none⟩)] 103)).alloc (.cells #[.int .i64 0] 3)=W at *;have HX:=Aa (Tc m2 (Tc t1 (Tc t2 (Tc c2 (Tc b1 b2)))));clear m2 t1 t2 c2 b1 b2;refine(show Calls prog 90 #[ptr mb] W fun e w'=>e=.returned (.tuple #[])/\Ib w B mb m F A S fuel fuel w' from ?_).mono ?_
 ·obtain⟨m2,t1,t2,c2,b1,b2⟩:=HX.out;obtain⟨hF,hRd,hB,hS0,hr0,hok0,hro0⟩:=HG.out;refine(Kj m2 hF (Fj hF).1 hr0 hok0 hro0).mono ?_;rintro e w' ⟨rfl,hm⟩;rw[<-hS0] at hm;have hz:(S 0).1.fin=0:=by rw[hS0];exact(Fe (F:=F) E0 (AC F) (Fj hF).1.highs).fin
  exact⟨rfl,hm.run (Tt _) hz t1 t2 c2 b1 b2⟩
 rintro e w1 ⟨rfl,h1⟩;have H1:=Aa h1;clear h1 HX;go_wp2;go_loopg [] fuel (fun gk wr=>Ib w B mb m F A S fuel gk wr)
 case atStart=>exact H1.out
 case round =>
  clear H1;obtain⟨j,hj,hz,A1,MV1,L1,m1,ro1,t1,t2,c1,b1,b2⟩:=hrel;obtain⟨hF,hRd,hB,_⟩:=HG.out;have hAt:=hRd.at_ j;obtain⟨hI,h16,hbd,hsj,hri⟩:=hAt.go hz;have x7:wr.cell? ⟨mb,7,none⟩=some (.int .i64 j):=by rw[Ab m1.st.lay.run];show some (Value.int .i64 ((S j).1.steps:Int))=_;rw[hsj]
  have y0:wr.cell? ⟨w.heap.size,0,none⟩=some (.pointer (some ⟨mb,0,none⟩)):=(Ab b1).trans rfl;by_cases hjf:j<fuel
  ·have hd:decide ((j:Int)<(fuel:Int))=true:=by simp;omega
   have HGo:=Aa (SO m1 hF fuel ⟨hI,h16,hbd,hz,by omega,hfu,by rw[hsj];exact hri,hAt.ok⟩);have HX:=Aa (Tc ro1 (Tc t1 (Tc t2 (Tc c1 (Tc b1 (Tc b2 (Tc hsj (Tc hz hj))))))));have HY:=Aa (Tc hI (Tc h16 (Tc hbd (Tc hri hAt.ok))));clear m1 t1 t2 c1 b1 b2 hF hRd hI h16 hbd hsj hz hj hri hAt ro1;go_wp2_with fail
   refine HGo.out.mono ?_;rintro e w2 ⟨n,t,n1,hst,hf1,hE1,hend⟩;obtain⟨ro1,t1,t2,c1,b1,b2,hsj,hz,hj⟩:=HX.out;obtain⟨hI,h16,hbd,hri,hok⟩:=HY.out;obtain⟨hF,hRd,_⟩:=HG.out;rw[hsj] at hf1 hE1;have hSn:=hRd.steps n j t hz hst n1 hE1;obtain⟨hbt,htu,htd,htst⟩:=QZ hF hst hI h16 hbd;rcases hend with⟨k1,rfl,A2',m2,s2,c2⟩|⟨k1,rfl,u,⟨A2',m2,s2,c2⟩,hut,f',r',hf',h24⟩
   ·obtain⟨b1',t1'⟩:=Bq b1 c2 (by rw[t1];exact Db);obtain⟨b2',t2'⟩:=Bq b2 c2 (by rw[t2];exact Db);obtain⟨fp,fcap,hfv,_⟩:=m2.st.lay.fr.any;have x3:w2.cell? ⟨mb,3,none⟩=some (.slice fp t.fr.length fcap):=by rw[Ab m2.st.lay.run,<-hfv];rfl
    have y0':w2.cell? ⟨w.heap.size,0,none⟩=some (.pointer (some ⟨mb,0,none⟩)):=(Ab b1').trans rfl;have hcN:Ch B Dk A.tag A2'.tag w w2:=c1.trans (c2.mono (fun _=>Hh));by_cases hz1:t.fin=0
    ·obtain⟨hIt,h16t⟩:=J4 hF hst hI h16 hz1;have hfr1:t.fr.length≠0:=fun e=>hIt.some (List.length_eq_zero_iff.1 e)
     rw[if_pos hz1] at hSn;have hrt:Cv t.steps (S j).2:=by
      rw[htst,hsj];cases hc:(S j).2 with
      |nil=>trivial
      |cons e r =>
       have h1:=hE1 (by rw[hc];simp);rw[hc] at h1 hri;simp only[List.headD_cons] at h1;exact⟨by omega,hri.2⟩
     have hrot:DI t (S j).2:=by unfold DI at ro1 ⊢;rw[htu,htd];exact ro1
     have HM:Hid (Calls prog 90 #[ptr mb] w2 fun e w'=>e=.returned (.tuple #[])/\Ib w B mb m F A S fuel (fuel-(j+n)) w'):=by
      refine(Kj m2 hF hIt hrt hok hrot).mono ?_;rintro e w' ⟨rfl,hm⟩;rw[<-hSn] at hm;have hzn:(S (j+n)).1.fin=0:=by rw[hSn];exact(Fe (F:=F) (S j).2 t hIt.highs).fin.trans hz1
      exact⟨rfl,hm.run hf1 hzn (t1'.trans t1) (t2'.trans t2) hcN b1' b2'⟩
     have hgk:fuel-(j+n)<gk:=by omega
     generalize t.fr.length=fl at *;have hne2:((fl:Int)==0)=false:=by simp;omega
     clear m2 s2 c2 t1 t2 c1 b1 b2 hsj hz hj b1' t1' b2' t2' hfv hcN k1 hz1 HGo HX HY hIt h16t hrt hrot hSn hI h16 hbd hri hok hF hRd hst hE1 ro1 hbt htu htd htst;go_wp2_with fail
     refine(FX w2 mb 3 fl fcap fp x3).mono ?_;rintro e w6 ⟨rfl,hw6⟩;rw[hw6];clear hw6 w6;go_wp2_with fail
     refine HM.out.mono ?_;rintro e w3 ⟨rfl,k3⟩;have HY3:=Aa k3;clear k3 HM;go_wp2;go_roundg (fuel-(j+n))
     case measure=>exact hgk
     case rel=>exact HY3.out
    ·rw[if_neg hz1] at hSn;have hatn:=hRd.at_ (j+n);rw[hSn] at hatn;have hf1':t.fin=1:=by have:=hatn.fin;dsimp only at this;omega
     have hfr0:t.fr.length=0:=by rw[show t.fr=[] from hatn.fr.2 hf1'];rfl
     rw[hfr0] at x3;have hlast:S fuel=(t,(S j).2):=(hRd.stay (j+n) fuel (by rw[hSn];exact hz1) hf1).trans hSn;have hend:Ca (S fuel).1=1:=by unfold Ca;rw[hlast,if_neg hz1];exact hf1'
     have y2:w2.cell? ⟨w.heap.size+1,0,none⟩=some (.int .i64 0):=(Ab b2').trans rfl;have z2:w2.frozen? ⟨w.heap.size+1,0,none⟩=false:=Ax b2';obtain⟨m5,c5⟩:=m2.st.set5 (b:=w.heap.size+1) (by omega) (t2'.trans t2) (.int .i64 1);have m5':AH (w2.setCell ⟨w.heap.size+1,0,none⟩ (.int .i64 1)) B mb m F MV1 A2' (S fuel).1 0:=by rw[hlast];exact m5
     have yr:(w2.setCell ⟨w.heap.size+1,0,none⟩ (.int .i64 1)).cell? ⟨w.heap.size+1,0,none⟩=some (.int .i64 1):=by rw[Ab (AM b2' _)];rfl
     have HQ:=Aa (Tc m5' (Tc ((hcN.mono (fun _ _=>trivial)).trans (c5.mono (q:=fun _=>True) (fun _ _=>trivial))) hend));have YR:=Aa yr;clear m2 s2 c2 t1 t2 c1 b1 b2 hsj hz hj b1' t1' b2' t2' hfv hcN k1 hz1 HGo HX HY m5 m5' c5 yr hend hlast hf1' hfr0 hatn hSn hI h16 hbd hri hok hF hRd hst hE1 ro1 hbt htu htd htst;go_wp2_with fail
     refine(FX w2 mb 3 0 fcap fp x3).mono ?_;rintro e w6 ⟨rfl,hw6⟩;rw[hw6];clear hw6 w6;go_wp2;refine leaves_cons (f:=87) (args:=#[.pointer (some ⟨w.heap.size+1,0,none⟩),.pointer (some ⟨w.heap.size,0,none⟩)]) (by simp) (by simp[go_sem]) ?_;refine(KY ⟨w.heap.size+1,0,none⟩ ⟨w.heap.size,0,none⟩ _).mono ?_;rintro e u' w'' ⟨rfl,rfl,rfl⟩;have yr:=YR.out;have hend:=HQ.out.2.2;simp[Leaves,settle,results,Tryz.results68,go_sem,yr,hend];exact⟨_,⟨_,HQ.out.1⟩,HQ.out.2.1⟩
   ·obtain⟨b1',t1'⟩:=Bq b1 c2 (by rw[t1];exact Db);obtain⟨b2',t2'⟩:=Bq b2 c2 (by rw[t2];exact Db);have hust:u.steps+1=t.steps:=by rw[hut]
    have hucH:u.cH<=t.cH:=by rw[hut];exact Nat.le_add_right _ _
    have hct:=PK m2.st hf' (by omega) (by omega) (by have:=hbt.cH;omega) (w.heap.size+1) w.heap.size t.fin 0 b2' b1' (by omega) (by omega) (t2'.trans t2) (t1'.trans t1);rw[<-hut] at hct;have hzt:¬t.fin=0:=by omega
    rw[if_neg hzt] at hSn;have hlast:S fuel=(t,(S j).2):=(hRd.stay (j+n) fuel (by rw[hSn];exact hzt) hf1).trans hSn;have hend:Ca (S fuel).1=t.fin:=by unfold Ca;rw[hlast,if_neg hzt]
    have hcw:Ch B (fun _=>True) A.tag A2'.tag w w2:=(c1.mono (fun _ _=>trivial)).trans (c2.mono (fun _ _=>trivial));have hl1:(S fuel).1=t:=by rw[hlast]
    have HQ:=Aa (Tc hct (Tc hend (Tc hcw hl1)));clear HGo HX HY t1 t2 c1 b1 b2 hsj hz hj b1' t1' b2' t2' hct hlast hend hcw hl1 m2 s2 c2 hSn hI h16 hbd hri hok hF hRd hst hE1 ro1 hbt htu htd htst hust hucH hut hf' h24 hzt;generalize t.fin=tf at *;refine leaves_cons (f:=87) (args:=#[.pointer (some ⟨w.heap.size+1,0,none⟩),.pointer (some ⟨w.heap.size,0,none⟩)]) (by simp) (by simp[go_sem]) ?_;refine HQ.out.1.mono ?_;rintro e u' w'' ⟨rfl,rfl,⟨A9,m9,s9,c9⟩,yr⟩;obtain⟨_,hend,hcw,hl1⟩:=HQ.out;have hfinal:∃ (A':Af) (MV':Nat->Value),AH w'' B mb m F MV' A' (S fuel).1 0/\Ch B (fun _=>True) A.tag A'.tag w w'':=by
     rw[hl1];exact⟨A9,_,m9,hcw.trans c9⟩
    clear m9 s9 c9 hcw hl1 HQ;simp[Leaves,settle,results,Tryz.results68,go_sem,yr,hend];obtain⟨A',MV',k1,k2⟩:=hfinal;exact⟨A',⟨MV',k1⟩,k2⟩
  ·obtain rfl:j=fuel:=by omega
   have hd:decide ((j:Int)<(j:Int))=false:=by simp
   have y2:wr.cell? ⟨w.heap.size+1,0,none⟩=some (.int .i64 0):=(Ab b2).trans rfl;have z2:wr.frozen? ⟨w.heap.size+1,0,none⟩=false:=Ax b2;obtain⟨m5,c5⟩:=m1.st.set5 (b:=w.heap.size+1) (by omega) t2 (.int .i64 2);have yr:(wr.setCell ⟨w.heap.size+1,0,none⟩ (.int .i64 2)).cell? ⟨w.heap.size+1,0,none⟩=some (.int .i64 2):=by rw[Ab (AM b2 _)];rfl
   have hend:Ca (S j).1=2:=by unfold Ca;rw[if_pos hz]
   have HQ:=Aa (Tc m5 (Tc ((c1.mono (fun _ _=>trivial)).trans (c5.mono (q:=fun _=>True) (fun _ _=>trivial))) hend));have YR:=Aa yr;clear m1 t1 t2 c1 b1 b2 hF hRd hI h16 hbd hsj hri hAt ro1 hz hj m5 c5 yr hend;go_wp2;refine leaves_cons (f:=87) (args:=#[.pointer (some ⟨w.heap.size+1,0,none⟩),.pointer (some ⟨w.heap.size,0,none⟩)]) (by simp) (by simp[go_sem]) ?_;refine(KY ⟨w.heap.size+1,0,none⟩ ⟨w.heap.size,0,none⟩ _).mono ?_;rintro e u' w'' ⟨rfl,rfl,rfl⟩;have yr:=YR.out;have hend:=HQ.out.2.2;simp[Leaves,settle,results,Tryz.results68,go_sem,yr,hend];exact⟨_,⟨_,HQ.out.1⟩,HQ.out.2.1⟩
end
def D7:Mc:=⟨[],[],[],As,0,0,[],fun _=>false,0,0,0⟩
theorem Tryz.infoStretches:(prog.info? 136).map (fun i=>(i.zero,i.size,i.bytes))=some (some (.slice none 0 0),1,24):=by kernel_rfl
def Ee(n:Nat):Array Value:=madeCells #[.slice none 0 0] (n * 1)
theorem OM(n:Nat)(hn:n<=1000)(wx:World):(Instr.makeSlice 125 (.int .i64 n) (.int .i64 n)).run prog wx=.ok (.slice (some ⟨wx.heap.size,0,none⟩) n n) (wx.alloc (.cells (Ee n) 136)) :=
 Fo (P:=prog) 125 136 _ _ 1 24 underlying125 Tryz.infoStretches rfl .i64 .i64 n (by omega) (by omega) wx
theorem AH.fresh(w:World)(m:Nat)(F:Nat->PF)(pv ev:Value)(hm:m<=1000)(hPg:Pg w w.heap.size pv m F) :
  ∃ A:Af,AH ((w.alloc (.cells (Ee m) 136)).alloc (.cells #[pv,ev,.slice (some ⟨w.heap.size,0,none⟩) m m,.slice none 0 0,.slice none 0 0,.int .i64 0,.slice none 0 0,.int .i64 0,.int .i64 0,.int .i64 0,.int .i64 0,.int .i64 0,.int .i64 0,.int .i64 0] 130)) w.heap.size (w.heap.size+1) m F (fun _=>.slice none 0 0) A D7 0/\A.g.ev=ev/\A.g.pv=pv:=by
 have hbl:Below w.heap.size w ((w.alloc (.cells (Ee m) 136)).alloc (.cells #[pv,ev,.slice (some ⟨w.heap.size,0,none⟩) m m,.slice none 0 0,.slice none 0 0,.int .i64 0,.slice none 0 0,.int .i64 0,.int .i64 0,.int .i64 0,.int .i64 0,.int .i64 0,.int .i64 0,.int .i64 0] 130)):=((Tu _ _).alloc (Te _) _).alloc (by simp) _;have hrun:((w.alloc (.cells (Ee m) 136)).alloc (.cells #[pv,ev,.slice (some ⟨w.heap.size,0,none⟩) m m,.slice none 0 0,.slice none 0 0,.int .i64 0,.slice none 0 0,.int .i64 0,.int .i64 0,.int .i64 0,.int .i64 0,.int .i64 0,.int .i64 0,.int .i64 0] 130)).heap[w.heap.size+1]?=some (.cells #[pv,ev,.slice (some ⟨w.heap.size,0,none⟩) m m,.slice none 0 0,.slice none 0 0,.int .i64 0,.slice none 0 0,.int .i64 0,.int .i64 0,.int .i64 0,.int .i64 0,.int .i64 0,.int .i64 0,.int .i64 0] 130 (0,0)):=by
  have:=Tv (w.alloc (.cells (Ee m) 136)) (.cells #[pv,ev,.slice (some ⟨w.heap.size,0,none⟩) m m,.slice none 0 0,.slice none 0 0,.int .i64 0,.slice none 0 0,.int .i64 0,.int .i64 0,.int .i64 0,.int .i64 0,.int .i64 0,.int .i64 0,.int .i64 0] 130);simpa using this
 have hmade:((w.alloc (.cells (Ee m) 136)).alloc (.cells #[pv,ev,.slice (some ⟨w.heap.size,0,none⟩) m m,.slice none 0 0,.slice none 0 0,.int .i64 0,.slice none 0 0,.int .i64 0,.int .i64 0,.int .i64 0,.int .i64 0,.int .i64 0,.int .i64 0,.int .i64 0] 130)).heap[w.heap.size]?=some (.cells (Ee m) 136 (0,0)):=(Ty _ _ _ (by simp)).trans (Tv _ _);refine⟨⟨fun b=>if b=w.heap.size+1 then 0 else if b=w.heap.size then 6 else 99,⟨pv,ev,.slice (some ⟨w.heap.size,0,none⟩) m m,fun _=>0,fun _=>.slice none 0 0,0,0,0⟩,.slice none 0 0,.slice none 0 0,.slice none 0 0,fun _=>.slice none 0 0,fun _=>.slice none 0 0,fun _=>.slice none 0 0⟩,⟨⟨hrun,⟨Nat.le_succ _,by simp⟩,Ae.nil _ _ _ _ _ _ _,fun i hi=>?_,Ae.nil _ _ _ _ _ _ _,Ae.nil _ _ _ _ _ _ _,fun i hi=>?_,fun i hi=>?_,fun i hi=>?_⟩,rfl,fun i hi=>?_,⟨rfl,rfl,rfl⟩,?_,fun k _=>Or.inl ⟨rfl,rfl⟩,hPg.below hbl,hbl.size⟩,rfl,rfl⟩
 ·exact absurd hi (by simp[D7])
 ·exact absurd hi (by simp[D7])
 ·exact absurd hi (by simp[D7])
 ·exact absurd hi (by simp[D7])
 ·exact absurd hi (by simp[D7])
 ·refine Or.inr ⟨w.heap.size,m,Ee m,rfl,Te _,by simp,hmade,Te _,by unfold maxLen;omega,by simp[Ee,size_madeCells],fun i hi=>?_⟩;have hi':i<m:=by omega
  simp[Ee,madeCells,hi',Nat.mod_one]
theorem AB.ended{w:World}{B mb:Nat}{A:Af}{s:Mc}{en:Int}(h:AB w B mb A s en)(e':Int) :
  AB (w.setCell ⟨mb,11,none⟩ (.int .i64 e')) B mb A s e'/\Ch B (fun d=>d=0) A.tag A.tag w (w.setCell ⟨mb,11,none⟩ (.int .i64 e')):=by
 have hc:Ch B (fun d=>d=0) A.tag A.tag w (w.setCell ⟨mb,11,none⟩ (.int .i64 e')):=Ch.set w _ _ _ h.own.1 h.own.2;refine⟨⟨AM h.run _,h.own,h.fr.keep hc (by omega),fun i hi=>?_,h.ar.keep hc (by omega),h.out.keep hc (by omega),fun i hi=>(h.loc i hi).keep hc (by omega),fun i hi=>(h.stk i hi).keep hc (by omega),fun j hj=>(h.arr j hj).keep hc (by omega)⟩,hc⟩;obtain⟨g1,g2,g3⟩:=h.fb i hi;obtain⟨g4,g5⟩:=Bq g1 hc (by rw[g3];omega);exact⟨g4,g2,g5.trans g3⟩
def AX(n:Int):Nat:=(min (max n 0) 100000).toNat
theorem Rr(n:Int):min (max n 0) 100000=(AX n:Int):=by unfold AX;omega
theorem EI(n:Int):AX n<=100000:=by unfold AX;omega
def Bl(F:Nat->PF)(fuel:Int):Mc:=AY F (AC F) (AX fuel)
def Bk(F:Nat->PF)(E:List Ev)(fuel:Int):Mc:=(AO F (AC F) E (AX fuel)).1
theorem LU(F:Nat->PF)(s:Mc):∀ n,AO F s [] n=(AY F s n,[])
 |0=>rfl
 |n+1=>by
  show (if (AO F s [] n).1.fin=0 then (if (AA F (AO F s [] n).1).fin=0 then BN F (AO F s [] n).2 (AA F (AO F s [] n).1) else (AA F (AO F s [] n).1,(AO F s [] n).2)) else AO F s [] n)=(if (AY F s n).fin=0 then AA F (AY F s n) else AY F s n,[]);rw[LU F s n];dsimp only;by_cases h:(AY F s n).fin=0
  ·rw[if_pos h,if_pos h];split<;>rfl
  ·rw[if_neg h,if_neg h]
theorem KO(F:Nat->PF)(fuel:Int):Bk F [] fuel=Bl F fuel:=by unfold Bk Bl;rw[LU]
structure Ec (m:Nat) (E:List Ev):Prop where
 rise:Cv 0 E
 ok:∀ e,e∈E->CY m e
 few:E.length<=1000
theorem Ec.nil(m:Nat):Ec m []:=⟨trivial,fun e he=>(by cases he),Tt _⟩
theorem I8(w:World)(m:Nat)(pv:Value)(F:Nat->PF)(K:Nat->Nat->Bool)(H:Nat->Nat->Int)(fuel:Int)(ev:Value)(E:List Ev)(hE:Ec m E)(hEv:Bs w w.heap.size ev E)(hCp:DR w w.heap.size pv m F)(hPg:Pg w w.heap.size pv m F)(hF:AP m F K H) :
  Calls prog 45 #[pv,ev,.int .i64 fuel] w fun e w'=>∃ mb,e=.returned (.pointer (some ⟨mb,0,none⟩))/\Below w.heap.size w w'/\∃ (A':Af) (MV':Nat->Value),AH w' w.heap.size mb m F MV' A' (Bk F E fuel) (Ca (Bk F E fuel)):=by
 obtain⟨A0,m0,ev0,pv0⟩:=AH.fresh w m F pv ev (by have:=hF.size;omega) hPg;have hl:=(hF.fn 0 hF.size.1).locals;have hnf:=LY _ w.heap.size (w.heap.size+1) m A0 D7 0 F _ 0 [] (.slice none 0 0) m0 hF.size.1 (Or.inl ⟨rfl,none,0,rfl⟩) hl.1 hl.2 (by simpa using hl.1) (by simp[D7]);have hbl:Below w.heap.size w ((w.alloc (.cells (Ee m) 136)).alloc (.cells #[pv,ev,.slice (some ⟨w.heap.size,0,none⟩) m m,.slice none 0 0,.slice none 0 0,.int .i64 0,.slice none 0 0,.int .i64 0,.int .i64 0,.int .i64 0,.int .i64 0,.int .i64 0,.int .i64 0,.int .i64 0] 130)):=((Tu _ _).alloc (Te _) _).alloc (by simp) _;have hmk:=OM m (by have:=hF.size;omega);have hpvf:∃ p c,pv=.slice p m c:=by obtain⟨pb,po,pc,CA,CC,h,_⟩:=hPg.at_;exact⟨_,_,h⟩
 obtain⟨pp,pcp,rfl⟩:=hpvf;have hevf:∃ p n c,ev=.slice p n c:=by obtain⟨p,c,h,_⟩:=hEv;exact⟨_,_,_,h⟩
 obtain⟨ep,en0,ec,rfl⟩:=hevf;have HN:=Aa (Tc hnf (Tc hbl (Tc (Tc ev0 pv0) (Tc hF (Tc hE (Tc hEv hCp))))));have e1:=Rr fuel;have hfl:=EI fuel;generalize hfu:AX fuel=fu at *;have HFU:=Aa hfu;clear hnf hbl ev0 pv0 hF m0 hPg hl hfu hE hEv hCp;obtain⟨sN,hsN⟩:∃ sN,sN=Bk F E fuel:=⟨_,rfl⟩
 rw[<-hsN];have hat:sN=(AO F (AC F) E fu).1:=by rw[hsN];unfold Bk;rw[HFU.out]
 have HAT:=Aa hat;clear hat hsN;generalize hen:Ca sN=en at *;generalize hmx:max fuel 0=mx at *;go_enter func45,ntmps45
 go_wp2_with fail
 refine HN.out.1.mono ?_;rintro e w2 ⟨rfl,A2,m2,s2,c2,_,_⟩;obtain⟨_,hbl,⟨ev0,pv0⟩,hF,hE,hEv,hCp⟩:=HN.out;have hst:({D7 with fr:=⟨0,0,[]++List.replicate ((F 0).locals.toNat-([]:List V).length) As,[]⟩::D7.fr}:Mc).fr=(AC F).fr:=by simp[AC,D7]
 have m2':AH w2 w.heap.size (w.heap.size+1) m F (fun _=>.slice none 0 0) A2 (AC F) 0:=m2.like hst.symm rfl rfl rfl rfl rfl rfl rfl rfl rfl;have hbE:Below w.heap.size w w2:=hbl.trans (c2.below hbl.size);have hR2:Bb w2 w.heap.size (w.heap.size+1) m F (fun _=>.slice none 0 0) A2 (AC F) 0 [] E:=⟨m2',fun t ht=>(by cases ht),fun k _ hk=>(by cases hk),fun i hi h2=>(by
  obtain rfl:i=0:=by have:i<1:=hi;omega
  exact absurd (show AU [false] 0=true from h2) (by decide)),by rw[s2.ev,ev0];exact hEv.below hbE,by rw[s2.pv,pv0];exact hCp.below hbE⟩
 have hfew:=hE.few;have hrun:=Ov hR2 hF hE.rise hE.ok ⟨by show 0+100 * E.length<=900000;omega,by show 0+E.length<=900000;omega⟩ fu hfl;have hB2:Below w.heap.size w w2:=hbl.trans (c2.below hbl.size);rw[<-HAT.out] at hrun;rw[hen] at hrun;have hrun2:∀ x:Int,(fu:Int)=x->Calls prog 68 #[.pointer (some ⟨w.heap.size+1,0,none⟩),.int .i64 x] w2 fun e w'=>e=.returned (.int .i64 en)/\∃ (A':Af) (MV':Nat->Value),AH w' w.heap.size (w.heap.size+1) m F MV' A' sN 0/\Ch w.heap.size (fun _=>True) A2.tag A'.tag w2 w':=fun x hx=>by rw[<-hx];exact hrun
 have HR:=Aa (Tc hrun2 (Tc hB2 m2.le));have HE:=Aa (Tc e1 hmx);clear hrun hrun2 m2 m2' s2 c2 hbl ev0 pv0 hF hst hB2 hmk HN hen e1 hmx HAT hE hEv hCp hbE hR2 hfew;go_wp2_with fail
 all_goals
  refine(HR.out.1 _ (by have h1:=HE.out.1;have h2:=HE.out.2;omega)).mono ?_;rintro e w3 ⟨rfl,A3,MV3,m3,c3⟩;obtain⟨_,hB2,hle2⟩:=HR.out;have y6:w3.cell? ⟨w.heap.size+1,11,none⟩=some (.int .i64 0):=by rw[Ab m3.lay.run];rfl
  have z6:w3.frozen? ⟨w.heap.size+1,11,none⟩=false:=Ax m3.lay.run;obtain⟨l4,c4⟩:=m3.lay.ended en;have cN:=c4.mono (q:=N5) (fun d hd=>by unfold N5;omega);have m4:=m3.ch l4 m3.hl m3.cod m3.cnt rfl (Bw.refl _) cN;have hB3:Below w.heap.size w2 w3:=c3.below hle2;have hB4:=cN.below (B:=w.heap.size) (by have:=hB3.size;omega);have HQ:=Aa (Tc ((hB2.trans hB3).trans hB4) m4);clear m3 c3 l4 c4 cN m4 hB3 hB4 hB2 hle2 HR;go_wp2;go_ret;exact⟨_,rfl,HQ.out.1,A3,MV3,HQ.out.2⟩
theorem Lj(w:World)(m:Nat)(pv:Value)(F:Nat->PF)(K:Nat->Nat->Bool)(H:Nat->Nat->Int)(fuel:Int)(hCp:DR w w.heap.size pv m F)(hPg:Pg w w.heap.size pv m F)(hF:AP m F K H) :
  Calls prog 40 #[pv,.int .i64 fuel] w fun e w'=>∃ mb,e=.returned (.pointer (some ⟨mb,0,none⟩))/\Below w.heap.size w w'/\∃ (A':Af) (MV':Nat->Value),AH w' w.heap.size mb m F MV' A' (Bl F fuel) (Ca (Bl F fuel)):=by
 have hsh:=I8 w m pv F K H fuel (.slice none 0 0) [] (Ec.nil m) ⟨none,0,rfl,Te _,fun h=>absurd rfl h⟩ hCp hPg hF;rw[KO] at hsh;have HS:=Aa hsh;clear hPg hF hCp hsh;go_enter func40,ntmps40
 go_wp2_with fail
 refine HS.out.mono ?_;rintro e w2 ⟨mb,rfl,h⟩;have HQ:=Aa h;clear h;go_wp2;go_ret;exact⟨_,rfl,HQ.out⟩
end Go.Proofs.YtkafkipjedpohaaGreatDoor

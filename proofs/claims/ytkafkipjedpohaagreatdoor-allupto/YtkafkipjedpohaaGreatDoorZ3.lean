import Derived.Test.YtkafkipjedpohaaGreatDoorY8
namespace Go.Proofs.YtkafkipjedpohaaGreatDoor
set_option maxRecDepth 100000
set_option maxHeartbeats 16000000
open Go.RowKit _root_.Go.Proofs.Tryz
section
variable {w:World}{B kb:Nat}{L:Bxs}{k:Mk}
theorem AK.of{w1 w':World}{L1:Bxs}{k':Mk}(hl:∀ t,t∈L->t∈L1)(hb:Below B w w1)(h:Ay w' B kb L1 k')(hb2:Below B w1 w'):AK w B kb L k' (.returned (.tuple #[])) w':=⟨rfl,L1,hl,h,hb.trans hb2⟩
theorem Bt(h:B<=w.heap.size)(o:Obj):Below B w (w.alloc o):=((Tu w.heap.size w).alloc (Te _) o).mono h
theorem Da(t:Nat × Array Value × TypeId):∀ u,u∈L->u∈t::L:=fun _ h=>Tf _ h
theorem IM(h:Ay w B kb L k)(x:V)(hn:k.ws.length<=2000) :
  Calls prog 166 #[ptr kb,.agg #[.int .i64 x.k,.int .i64 x.n]] w (AK w B kb L (k.wait (.con x))):=by
 have hmf:=A__mkf
 have hA:=h.box #[.int .i64 x.k,.int .i64 x.n] 43;have HW:=Aa (Js hA (.con x) 180 #[ptr w.heap.size] ⟨w.heap.size,rfl,Ti⟩ hn);have HB:=Aa (Bt h.le.1 (.cells #[.int .i64 x.k,.int .i64 x.n] 43));clear h hA;go_enter func166,ntmps166
 go_wp2_with fail
 refine HW.out.mono ?_;rintro e w1 ⟨rfl,h1,h2⟩;have HQ:=Aa (AK.of (Da _) HB.out h1 h2);clear h1 h2 HW;go_wp2;go_end0;exact HQ.out
theorem F0(h:Ay w B kb L k)(op a:Int)(os:List An)(g:Nat)(cp:Array Value)(hv:Ds L op os (.func (.func g) #[] cp))(hn:k.ds.length<=2000) :
  Calls prog 183 #[ptr kb,.func (.func g) #[] cp] w (AK w B kb L (k.then_ (.ins op a os))):=by
 have hmf:=A__mkf
 have hA:=h.box #[.func (.func g) #[] cp] 229;have HW:=Aa (Dg hA (.ins op a os) 193 #[ptr w.heap.size] (Or.inl ⟨w.heap.size,_,rfl,Ti,hv.mono (Da _)⟩) hn);have HB:=Aa (Bt h.le.1 (.cells #[.func (.func g) #[] cp] 229));clear h hA hv;go_enter func183,ntmps183
 go_wp2_with fail
 refine HW.out.mono ?_;rintro e w1 ⟨rfl,h1,h2⟩;have HQ:=Aa (AK.of (Da _) HB.out h1 h2);clear h1 h2 HW;go_wp2;go_end0;exact HQ.out
def Bp(k:Mk):An:=(AI 1 k.ws).headD .pop
theorem Lm(ws:List An):AI 2 ws=[(AI 1 ws).headD .pop,(AI 1 (ws.drop 1)).headD .pop]:=by
 cases ws with
 |nil=>rfl
 |cons o r =>
  cases r with
  |nil=>rfl
  |cons q r=>simp[AI]
theorem OE(ws:List An):AI 3 ws=[(AI 1 ws).headD .pop,(AI 1 (ws.drop 1)).headD .pop,(AI 1 (ws.drop 2)).headD .pop]:=by
 cases ws with
 |nil=>rfl
 |cons o r =>
  cases r with
  |nil=>rfl
  |cons q r =>
   cases r with
   |nil=>simp[AI]
   |cons p r=>simp[AI]
def J0(w:World)(B kb:Nat)(L:Bxs)(k:Mk)(e:Ending)(w':World):Prop :=
 ∃ v L',e=.returned v/\(∀ t,t∈L->t∈L')/\Dp L' (Bp k) (Bp (k.pops 1)) v/\Ay w' B kb L' ((k.pops 1).pops 1)/\Below B w w'
theorem Ay.two(h:Ay w B kb L k)(c d:Array Value)(t u:TypeId):Ay ((w.alloc (.cells c t)).alloc (.cells d u)) B kb ((w.heap.size+1,d,u)::(w.heap.size,c,t)::L) k:=by
 have:=(h.box c t).box d u;simpa using this
theorem It(h:Ay w B kb L k)(hn:k.ws.length<=2000) :
  Calls prog 185 #[ptr kb] w (J0 w B kb L k):=by
 have hmf:=A__mkf
 have HP:=Aa (En h hn);have HN:=Aa (show (k.pops 1).ws.length<=2000 from by show (k.ws.drop 1).length<=2000;simp;omega);clear h hn;go_enter func185,ntmps185
 go_wp2_with fail
 refine HP.out.mono ?_;rintro e w1 ⟨v1,rfl,o1,h1,b1⟩;have HP2:=Aa (En h1 HN.out);have H1:=Aa (Tc o1 b1);clear h1 o1 b1 HP;go_wp2_with fail
 refine HP2.out.mono ?_;rintro e w2 ⟨v2,rfl,o2,h2,b2⟩;obtain⟨o1,b1⟩:=H1.out;obtain⟨g1,c1,e1,_⟩:=o1.fn;obtain⟨g2,c2,e2,_⟩:=o2.fn;subst e1 e2;have h3:=h2.two #[.func (.func g1) #[] c1] #[.func (.func g2) #[] c2] 224 224;have hb3:=((Bt h2.le.1 (.cells #[.func (.func g1) #[] c1] 224)).trans (Bt (w:=w2.alloc (.cells #[.func (.func g1) #[] c1] 224)) (by have:=h2.le.1;simp;omega) (.cells #[.func (.func g2) #[] c2] 224)))
 have HQ:=Aa (show J0 w B kb L k (.returned (.func (.func 194) #[] #[ptr w2.heap.size,ptr (w2.heap.size+1)])) ((w2.alloc (.cells #[.func (.func g1) #[] c1] 224)).alloc (.cells #[.func (.func g2) #[] c2] 224)) from
  ⟨_,_,rfl,fun t ht=>Tf _ (Tf _ ht),⟨_,_,_,_,rfl,Tf _ Ti,Ti,o1.mono (fun t ht=>Tf _ (Tf _ ht)),o2.mono (fun t ht=>Tf _ (Tf _ ht))⟩,h3,(b1.trans b2).trans hb3⟩)
 clear h2 h3 hb3 b1 b2 o1 o2 H1 HP2;go_wp2;go_ret;exact HQ.out
end
theorem Ae.tags{w:World}{B:Nat}{tag tag':Nat->Nat}{c:Nat}{e:TypeId}{sz:Nat}{v:Value}{n:Nat}{f:Nat->Value}(h:Ae w B tag c e sz v n f)(ht:∀ b,tag b=c->tag' b=c):Ae w B tag' c e sz v n f:=by
 rcases h with h|⟨b,cap,cur,hv,hb,htg,hh,hc⟩
 ·exact Or.inl h
 ·exact Or.inr ⟨b,cap,cur,hv,hb,ht b htg,hh,hc⟩
theorem Ay.settled{w:World}{B kb:Nat}{L:Bxs}{k:Mk}(h:Ay w B kb L k)(hne:k.ws≠[]) :
  ∃ wb cap,w.cell? ⟨kb,1,none⟩=some (.slice (some ⟨wb,0,none⟩) k.ws.length cap)/\w.frozen? ⟨kb,1,none⟩=false /\
   ∃ L',(∀ t,t∈L->t∈L')/\Ay ((w.setCell ⟨kb,1,none⟩ (.slice none 0 0)).alloc (.cells #[.slice (some ⟨wb,0,none⟩) k.ws.length cap] 217)) B kb L' {k with ws:=[]} /\
    CR L' (.settle k.ws.reverse) (.func (.func 192) #[] #[ptr w.heap.size])/\Below B w ((w.setCell ⟨kb,1,none⟩ (.slice none 0 0)).alloc (.cells #[.slice (some ⟨wb,0,none⟩) k.ws.length cap] 217)):=by
 obtain⟨tg,dv,wv,D,W,h⟩:=h;have hz:=Ah h.blk;rcases h.ws with⟨_,h0⟩|⟨wb,cap,cur,hv,hwB,hwt,hwh,hwc,_,_,hwe⟩
 ·exact absurd (List.eq_nil_of_length_eq_zero h0) hne
 have hwz:=Ah hwh;refine⟨wb,cap,by rw[<-hv];exact(Ab h.blk).trans rfl,Ax h.blk,?_⟩;have hc:Ch B (fun c=>c=0) tg tg w (w.setCell ⟨kb,1,none⟩ (.slice none 0 0)):=Ch.set w kb _ _ h.own.1 h.own.2;have Av:(w.setCell ⟨kb,1,none⟩ (.slice none 0 0)).heap.size=w.heap.size:=by simp[World.setCell]
 have hbl:Below (w.setCell ⟨kb,1,none⟩ (.slice none 0 0)).heap.size (w.setCell ⟨kb,1,none⟩ (.slice none 0 0)) ((w.setCell ⟨kb,1,none⟩ (.slice none 0 0)).alloc (.cells #[.slice (some ⟨wb,0,none⟩) k.ws.length cap] 217)):=(Tu _ _).alloc (Te _) _;have hnew:((w.setCell ⟨kb,1,none⟩ (.slice none 0 0)).alloc (.cells #[.slice (some ⟨wb,0,none⟩) k.ws.length cap] 217)).heap[w.heap.size]?=some (.cells #[.slice (some ⟨wb,0,none⟩) k.ws.length cap] 217 (0,0)):=by
  rw[<-Av];exact Tv _ _
 have hblk2:((w.setCell ⟨kb,1,none⟩ (.slice none 0 0)).alloc (.cells #[.slice (some ⟨wb,0,none⟩) k.ws.length cap] 217)).heap[kb]?=some (.cells #[dv,.slice none 0 0,.int .i64 k.seen,.int .i64 k.passed] 219 (0,0)):=by
  rw[hbl.block kb (by rw[Av];exact hz)];exact AM h.blk _
 generalize (w.setCell ⟨kb,1,none⟩ (.slice none 0 0)).alloc (.cells #[.slice (some ⟨wb,0,none⟩) k.ws.length cap] 217)=V at *;have hcV:Ch B (fun c=>c=0) tg (Ac tg w.heap.size 5) w V:=hc.trans (Ch.of_tags hbl (fun b hb=>Ao _ _ _ _ (by rw[Av] at hb;omega)));have htw:∀ b,b≠wb->Ac (Ac tg w.heap.size 5) wb 5 b=Ac tg w.heap.size 5 b:=fun b hb=>Ao _ _ _ _ hb
 have hw2:V.heap[wb]?=some (.cells cur 224 (0,0)):=(hcV.block wb hwz (Or.inr (by rw[hwt];omega))).trans hwh;have hkw:kb≠wb:=fun e=>by have:=h.own.2;rw[e,hwt] at this;omega
 have hsub:∀ t,t∈L->t∈(w.heap.size,#[Value.slice (some ⟨wb,0,none⟩) k.ws.length cap],217)::(wb,cur,224)::L:=fun t ht=>Tf _ (Tf _ ht)
 refine⟨(w.heap.size,#[.slice (some ⟨wb,0,none⟩) k.ws.length cap],217)::(wb,cur,224)::L,hsub,⟨Ac (Ac tg w.heap.size 5) wb 5,dv,.slice none 0 0,D,W,by have:=hcV.size;have:=h.le;omega,hblk2,⟨h.own.1,?_⟩,(h.ds.keep hcV (by omega)).tags (fun b hb=>?_),fun i hi=>(h.dsv i hi).mono hsub,Ae.nil _ _ _ _ _ _ _,fun i hi=>absurd hi (Nat.not_lt_zero _),fun t ht=>?_,fun t ht=>?_⟩,?_,hcV.below h.le⟩
 ·rw[htw kb hkw,Ao _ _ _ _ (by omega)];exact h.own.2
 ·rw[htw b (fun e=>?_)]
  ·exact hb
  ·rw[e,Ao _ _ _ _ (by omega),hwt] at hb;omega
 ·rcases List.mem_cons.1 ht with rfl|ht
  ·exact⟨hnew,by rw[htw _ (by show w.heap.size≠wb;omega)];exact Au _ _ _⟩
  ·rcases List.mem_cons.1 ht with rfl|ht
   ·exact⟨hw2,Au _ _ _⟩
   ·obtain⟨j1,j2⟩:=h.bx.keep hcV (by omega) t ht;refine⟨j1,?_⟩;by_cases e:t.1=wb
    ·rw[e];exact Au _ _ _
    ·rw[htw _ e];exact j2
 ·rcases List.mem_cons.1 ht with rfl|ht
  ·exact h.le
  ·rcases List.mem_cons.1 ht with rfl|ht
   ·exact hwB
   ·exact h.bB t ht
 ·refine⟨w.heap.size,wb,cap,cur,rfl,?_,Tf _ Ti,fun i hi=>?_⟩
  ·rw[List.length_reverse];exact Ti
  ·rw[List.length_reverse] at hi;exact⟨W i,hwe i (by omega),(h.wsv i hi).mono hsub⟩
theorem IY{w:World}{B kb:Nat}{L:Bxs}{k:Mk}(h:Ay w B kb L k)(hn:k.ds.length<=2000)(hw:k.ws.length<=2000) :
  Calls prog 177 #[ptr kb] w (AK w B kb L k.settle):=by
 have hmf:=A__mkf
 by_cases hne:k.ws=[]
 ·obtain⟨p,c,d3⟩:∃ p c,w.cell? ⟨kb,1,none⟩=some (.slice p 0 c):=by
   obtain⟨tg,dv,wv,D,W,h⟩:=h;have:=h.ws;rw[hne] at this;rcases this with⟨h1,_⟩|⟨b,cap,cur,h1,_⟩
   ·exact⟨_,_,by rw[Ab h.blk,h1];rfl⟩
   ·exact⟨_,_,by rw[Ab h.blk,h1];rfl⟩
  have hk:k.settle=k:=by unfold Mk.settle;rw[if_pos hne]
  have HQ:=Aa (show AK w B kb L k.settle (.returned (.tuple #[])) w from ⟨rfl,L,fun t ht=>ht,by rw[hk];exact h,Tu _ _⟩);generalize k.settle=k' at *;clear h;go_enter func177,ntmps177
  go_wp2;refine bodyPost_ret (results_none rfl _ _ _) rfl ?_;exact HQ.out
 ·obtain⟨wb,cap,d3,y3,L',hl,h2,hd,hbl⟩:=h.settled hne;have hk:k.settle=({k with ws:=[]}:Mk).then_ (.settle k.ws.reverse):=by unfold Mk.settle;rw[if_neg hne];rfl
  have HT:=Aa (Dg h2 (.settle k.ws.reverse) _ _ hd hn);have HL:=Aa (Tc hl (Tc hbl hk));have hkz:=h.le.2.1;generalize k.settle=k' at *;have hpos:1<=k.ws.length:=by
   cases hc:k.ws with
   |nil=>exact absurd hc hne
   |cons o r=>simp
  generalize k.ws.length=wn at *;have e1:((wn:Int)==0)=false:=by simp;omega
  clear h h2 hd hl hbl hk hne;go_enter func177,ntmps177
  go_wp2_with fail
  refine HT.out.mono ?_;rintro e w1 ⟨rfl,h1,b1⟩;have HQ:=Aa (show AK w B kb L k' (.returned (.tuple #[])) w1 from by rw[HL.out.2.2];exact AK.of HL.out.1 HL.out.2.1 h1 b1);clear h1 b1 HT;go_wp2;go_end0;exact HQ.out
section
variable {k:Mk}{w:World}{B kb:Nat}{L:Bxs}
theorem Ay.counts(h:Ay w B kb L k):w.cell? ⟨kb,2,none⟩=some (.int .i64 k.seen)/\w.cell? ⟨kb,3,none⟩=some (.int .i64 k.passed)/\w.frozen? ⟨kb,2,none⟩=false/\w.frozen? ⟨kb,3,none⟩=false:=by
 obtain⟨tg,dv,wv,D,W,h⟩:=h;exact⟨(Ab h.blk).trans rfl,(Ab h.blk).trans rfl,Ax h.blk,Ax h.blk⟩
theorem Ay.count(h:Ay w B kb L k)(i v:Nat)(hi:i=2\/i=3):Ay (w.setCell ⟨kb,i,none⟩ (.int .i64 v)) B kb L {k with seen:=if i=2 then v else k.seen,passed:=if i=3 then v else k.passed}/\Below B w (w.setCell ⟨kb,i,none⟩ (.int .i64 v)):=by
 obtain⟨tg,dv,wv,D,W,h⟩:=h;have hc:Ch B (fun c=>c=0) tg tg w (w.setCell ⟨kb,i,none⟩ (.int .i64 v)):=Ch.set w kb _ _ h.own.1 h.own.2;refine⟨⟨tg,dv,wv,D,W,by have:=hc.size;have:=h.le;omega,?_,h.own,h.ds.keep hc (by omega),h.dsv,h.ws.keep hc (by omega),h.wsv,h.bx.keep hc (by omega),h.bB⟩,hc.below h.le⟩;rw[AM h.blk];rcases hi with rfl|rfl<;>rfl
theorem SH(h:k.seen-k.passed=0):k.level=k.settle:=by unfold Mk.level;rw[if_pos h]
theorem Oq(h:k.seen-k.passed≠0):k.level=({k.settle with passed:=k.seen}:Mk).then_ (.pass (k.seen-k.passed)):=by unfold Mk.level;rw[if_neg h];rfl
theorem IC(k:Mk):k.settle.passed=k.passed:=by unfold Mk.settle;split<;>rfl
theorem Gg(k:Mk):k.settle.ds.length<=k.ds.length+1:=by unfold Mk.settle;split;omega;simp
theorem EM(h:Ay w B kb L k)(hn:k.ds.length<=1990)(hw:k.ws.length<=2000)(hle:k.passed<=k.seen)(hs:k.seen<=1000) :
  Calls prog 158 #[ptr kb] w (AK w B kb L k.level):=by
 have hmf:=A__mkf
 have HS:=Aa (IY h (by omega) hw);obtain⟨se,hse⟩:∃ se:Nat,se=k.seen:=⟨_,rfl⟩
 obtain⟨pa,hpa⟩:∃ pa:Nat,pa=k.passed:=⟨_,rfl⟩
 have h1:k.settle.seen=se:=by rw[Jg,hse]
 have h2:k.settle.passed=pa:=by rw[IC,hpa]
 have h3:=Gg k;have HK:=Aa (Tc h1 (Tc h2 h3));have HL0:=Aa (fun (e:se-pa=0)=>SH (k:=k) (by rw[<-hse,<-hpa];exact e));have HL1:=Aa (fun (e:se-pa≠0)=>(show k.level=({k.settle with passed:=se}:Mk).then_ (.pass (se-pa)) from by rw[hse,hpa];exact Oq (by rw[<-hse,<-hpa];exact e)));rw[<-hse,<-hpa] at hle;rw[<-hse] at hs;generalize k.level=k' at *;obtain⟨ah,hah⟩:∃ ah:Nat,ah=se-pa:=⟨_,rfl⟩
 rw[<-hah] at HL0 HL1;have e1:wrap64 ((se:Int)-(pa:Int))=(ah:Int):=by unfold wrap64;omega
 have e2:((se:Int)-(pa:Int))=(ah:Int):=by omega
 have e3:IntKind.i64.wrap (ah:Int)=(ah:Int):=by rw[IntKind.wrap_i64];omega
 clear hah;clear h hw h1 h2 h3 hse hpa;go_enter func158,ntmps158
 go_wp2_with fail
 refine HS.out.mono ?_;rintro e w1 ⟨rfl,L1,hl1,a1,b1⟩;have H1:=Aa (Tc hl1 (Tc a1 b1));obtain⟨c2,c3,z2,z3⟩:=a1.counts;rw[HK.out.1] at c2;rw[HK.out.2.1] at c3;have HC:=Aa (Tc c2 c3);have hkz:=a1.le.2.1;clear hl1 a1 b1 HS z2 z3 c2 c3;go_wp2_with fail
 refine AG (fun w'=>w'.cell? ⟨kb,2,none⟩=some (.int .i64 se)/\w'.cell? ⟨kb,3,none⟩=some (.int .i64 pa)) [(false,0),(false,1),(false,2),(false,3),(false,4),(false,5),(false,6),(false,7),(false,8),(true,9),(true,10)] (by kernel_rfl) (by kernel_rfl) (Co _ _ _) HC.out ?_;simp only[lexL,Tl,Tm];iterate 9 (refine Aw (by rfl) (by intro w' hS';obtain⟨y0,y1⟩:=hS';go_simp;exact rfl) ?_;simp only[Act.put,Td,Th,Tg])
 have hA:=(H1.out.2.1.below (w':=w1.drew) (Tu _ _).drew)
 have HA:=Aa hA;have HB:=Aa (H1.out.2.2.drew);have C1:=Aa (Tc (show w1.drew.cell? ⟨kb,2,none⟩=some (.int .i64 se) from HC.out.1) (show w1.drew.cell? ⟨kb,3,none⟩=some (.int .i64 pa) from HC.out.2));have hkz1:kb<w1.drew.heap.size:=hkz;clear hA HC hkz;generalize w1.drew=w2 at *;refine Az (fun K hK=>?_);go_simp;refine hK.out _ _ ⟨BH C1.out.1 hkz1,BH C1.out.2 hkz1⟩ ?_;clear hK K;refine Az (fun K hK=>?_);go_simp;have hA3:=HA.out.box #[.int .i64 ah] 3;have hB3:=HB.out.trans (Bt HA.out.le.1 (.cells #[.int .i64 ah] 3));have C3:=Aa (Tc (BH (o:=.cells #[.int .i64 ah] 3) C1.out.1 hkz1) (BH (o:=.cells #[.int .i64 ah] 3) C1.out.2 hkz1));have H3:=Aa (Tc hA3 hB3);refine hK.out _ _ C3.out ?_;clear hK K HA HB C1 hA3 hB3;refine AF ?_;have x0:=H3.out.1.hb.one Ti;obtain⟨c2,c3,z2,z3⟩:=H3.out.1.counts;rw[HK.out.1] at c2;rw[HK.out.2.1] at c3;by_cases hz:ah=0
 ·have e4:((ah:Int)==0)=true:=by simp[hz]
  have HQ:=Aa (show AK w B kb L k' (.returned (.tuple #[])) (w2.alloc (.cells #[.int .i64 ah] 3)) from by
   rw[HL0.out hz];exact⟨rfl,_,fun t ht=>Tf _ (H1.out.1 t ht),H3.out.1,H3.out.2⟩)
  clear H1 H3 HK C3 c2 c3 z2 z3 hz;go_wp2;refine bodyPost_ret (results_none rfl _ _ _) rfl ?_;exact HQ.out
 ·have e4:((ah:Int)==0)=false:=by simp;omega
  obtain⟨hA4,hB4⟩:=H3.out.1.count 3 se (by omega);have hk4:({k.settle with seen:=if 3=2 then se else k.settle.seen,passed:=if 3=3 then se else k.settle.passed}:Mk)={k.settle with passed:=se}:=rfl;rw[hk4] at hA4;have HT:=Aa (Dg hA4 (.pass ah) 178 #[ptr w2.heap.size] ⟨w2.heap.size,rfl,Ti⟩ (by show k.settle.ds.length<=2000;have:=HK.out.2.2;omega));have HE:=Aa (Tc (HL1.out hz) (H3.out.2.trans hB4));clear H3 C3 hA4 hB4 hk4 hz HK HL0 HL1;generalize w2.alloc (.cells #[.int .i64 ah] 3)=W at *;go_wp2_with fail
  refine HT.out.mono ?_;rintro e w5 ⟨rfl,h5,b5⟩;have HQ:=Aa (show AK w B kb L k' (.returned (.tuple #[])) w5 from by
   rw[HE.out.1];exact AK.of (fun t ht=>Tf _ (H1.out.1 t ht)) HE.out.2 h5 b5)
  clear h5 b5 HT HE H1;go_wp2;go_end0;exact HQ.out
end
structure BE (k:Mk):Prop where
 ds:k.ds.length<=1900
 ws:k.ws.length<=1900
 seen:k.seen<=1000
 le:k.passed<=k.seen
section
variable {k:Mk}{w:World}{B kb:Nat}{L:Bxs}
theorem BE.pops(h:BE k)(n:Nat):BE (k.pops n):=⟨h.ds,by show (k.ws.drop n).length<=_;have:=h.ws;simp;omega,h.seen,h.le⟩
theorem GT(k:Mk):(k.pops 1).pops 1=k.pops 2:=by unfold Mk.pops;simp
theorem P3(k:Mk):((k.pops 1).pops 1).pops 1=k.pops 3:=by unfold Mk.pops;simp[List.drop_drop]
theorem PE(a:Int)(k:Mk):k.str 20 a=if k.ws=[] then k.then_ (.ins 20 a [.pop]) else k.pops 1:=by
 unfold Mk.str Mk.pops;cases h:k.ws<;>simp
theorem MX(a:Int)(k:Mk):k.str 21 a=if k.ws=[] then k.then_ (.ins 21 a []) else k.wait (Bp k):=by
 unfold Mk.str Mk.wait Bp;cases h:k.ws<;>simp[AI]
theorem Rp(a:Int)(k:Mk):k.str 3 a=(k.pops 1).settle.then_ (.ins 3 a [Bp k]):=by
 have:AI 1 k.ws=[Bp k]:=GN k.ws;simp[Mk.str,BK,this]
theorem So(a:Int)(k:Mk):k.str 9 a=(k.pops 2).settle.then_ (.ins 9 a [Bp k,Bp (k.pops 1)]):=by
 have:AI 2 k.ws=[Bp k,Bp (k.pops 1)]:=Lm k.ws;simp[Mk.str,BK,this]
theorem OQ(a:Int)(k:Mk):k.str 19 a=(k.pops 1).then_ (.ins 19 a [Bp k]):=by
 have:AI 1 k.ws=[Bp k]:=GN k.ws;simp[Mk.str,this]
theorem L9{op:Int}(h:op=4\/op=5\/op=6\/op=7\/op=8\/op=16)(a:Int)(k:Mk):k.str op a=(k.pops 2).level.then_ (.ins op a [Bp k,Bp (k.pops 1)]):=by
 have:AI 2 k.ws=[Bp k,Bp (k.pops 1)]:=Lm k.ws;rcases h with rfl|rfl|rfl|rfl|rfl|rfl<;>simp[Mk.str,BK,this]
theorem L7{op:Int}(h:op=15\/op=18)(a:Int)(k:Mk):k.str op a=(k.pops 1).level.then_ (.ins op a [Bp k]):=by
 have:AI 1 k.ws=[Bp k]:=GN k.ws;rcases h with rfl|rfl<;>simp[Mk.str,BK,this]
theorem SI(a:Int)(k:Mk):k.str 17 a=(k.pops 3).level.then_ (.ins 17 a [Bp k,Bp (k.pops 1),Bp (k.pops 2)]):=by
 have:AI 3 k.ws=[Bp k,Bp (k.pops 1),Bp (k.pops 2)]:=OE k.ws;simp[Mk.str,BK,this]
theorem DS(k:Mk):k.level.ds.length<=k.ds.length+2:=by
 have:=Gg k;unfold Mk.level;split
 ·omega
 ·show (k.settle.ds++_).length<=_;simp;omega
theorem Ay.wait(h:Ay w B kb L k):∃ p c,w.cell? ⟨kb,1,none⟩=some (.slice p k.ws.length c)/\(∀ o r,k.ws=o::r->∃ wb v,p=some ⟨wb,0,none⟩/\w.cell? ⟨wb,r.length,none⟩=some v/\BZ L o v):=by
 obtain⟨tg,dv,wv,D,W,h⟩:=h;have hw:=h.ws;rcases hw with⟨h1,h2⟩|⟨b,cap,cur,h1,h2,h3,h4,h5,_,_,h6⟩
 ·exact⟨none,0,by rw[Ab h.blk,h1,h2];rfl,fun o r hr=>by rw[hr] at h2;simp at h2⟩
 ·refine⟨some ⟨b,0,none⟩,cap,by rw[Ab h.blk,h1];rfl,fun o r hr=>⟨b,W r.length,rfl,(Ab h4).trans (h6 _ (by rw[hr];simp)),?_⟩⟩;have:=h.wsv r.length (by rw[hr];simp);rw[hr,List.reverse_cons,GE _ _ _ (by simp),if_neg (by simp)] at this;exact this
theorem Qj(h:Ay w B kb L k)(hs:BE k)(a:Int) :
  Calls prog 171 #[ptr kb] w (AK w B kb L (k.str 20 a)):=by
 obtain⟨p,c,d1,_⟩:=h.wait;have hwl:=hs.ws;rw[PE];by_cases hne:k.ws=[]
 ·rw[if_pos hne];have HT:=Aa (Dg h (.ins 20 a [.pop]) 182 #[] (Or.inr (Or.inl ⟨rfl,rfl,rfl⟩)) (by have:=hs.ds;omega));have hz:k.ws.length=0:=by rw[hne];rfl
  rw[hz] at d1;clear h hs hwl hz hne;go_enter func171,ntmps171
  go_wp2_with fail
  refine HT.out.mono ?_;rintro e w1 ⟨rfl,h1,b1⟩;have HQ:=Aa (AK.of (fun t ht=>ht) (Tu B w) h1 b1);clear h1 b1 HT;go_wp2;go_end0;exact HQ.out
 ·rw[if_neg hne];have HT:=Aa (En h (by omega));have hpos:1<=k.ws.length:=by
   cases hc:k.ws with
   |nil=>exact absurd hc hne
   |cons o r=>simp
  generalize k.ws.length=wn at *;have e1:decide ((0:Int)<(wn:Int))=true:=by simp;omega
  clear h hs hne;go_enter func171,ntmps171
  go_wp2_with fail
  refine HT.out.mono ?_;rintro e w1 ⟨v,rfl,_,h1,b1⟩;have HQ:=Aa (AK.of (fun t ht=>ht) (Tu B w) h1 b1);clear h1 b1 HT;go_wp2;refine bodyPost_ret (results_none rfl _ _ _) rfl ?_;exact HQ.out
theorem Ql(h:Ay w B kb L k)(hs:BE k)(a:Int) :
  Calls prog 172 #[ptr kb] w (AK w B kb L (k.str 21 a)):=by
 obtain⟨p,c,d1,d2⟩:=h.wait;have hwl:=hs.ws;rw[MX];by_cases hne:k.ws=[]
 ·rw[if_pos hne];have HT:=Aa (F0 h 21 a [] 184 #[] (Or.inl ⟨rfl,rfl,rfl⟩) (by have:=hs.ds;omega));have hz:k.ws.length=0:=by rw[hne];rfl
  rw[hz] at d1;clear h hs hwl hz hne d2;go_enter func172,ntmps172
  go_wp2_with fail
  refine HT.out.mono ?_;rintro e w1 ⟨rfl,hrest⟩;have HQ:=Aa (show AK w B kb L (k.then_ (.ins 21 a [])) (.returned (.tuple #[])) w1 from ⟨rfl,hrest⟩);clear hrest HT;go_wp2;go_end0;exact HQ.out
 ·rw[if_neg hne];cases hc:k.ws with
  |nil=>exact absurd hc hne
  |cons o r =>
   obtain⟨wb,v,rfl,x0,ho⟩:=d2 o r hc;have hpo:Bp k=o:=by unfold Bp;rw[hc];simp[AI]
   obtain⟨g,cp,e1,_⟩:=ho.fn;subst e1;have HT:=Aa (Js h (Bp k) g cp (by rw[hpo];exact ho) (by omega));rw[hc,Tn] at d1 hwl;generalize hrn:r.length=rn at *;have e5:wrap64 ((rn:Int)+1-1)=(rn:Int):=by unfold wrap64;omega
   have e6:((rn:Int)+1-1)=(rn:Int):=by omega
   have e7:decide ((0:Int)<=(rn:Int))=true:=by simp
   have i0:(0:Int)<=(rn:Int):=by omega
   have i1:(rn:Int)<(rn:Int)+1:=by omega
   clear h hs hne d2 ho hc hrn;go_enter func172,ntmps172
   go_wp2_with fail
   refine HT.out.mono ?_;rintro e w1 ⟨rfl,h1,b1⟩;have HQ:=Aa (AK.of (fun t ht=>ht) (Tu B w) h1 b1);clear h1 b1 HT;go_wp2;refine bodyPost_ret (results_none rfl _ _ _) rfl ?_;exact HQ.out
theorem Ru(h:Ay w B kb L k)(hs:BE k)(a:Int) :
  Calls prog 169 #[ptr kb,.int .i64 a] w (AK w B kb L (k.str 3 a)):=by
 have hmf:=A__mkf
 rw[Rp];have hA:=h.box #[.int .i64 a] 3;have HP:=Aa (En hA (by have:=hs.ws;omega));have HB:=Aa (Bt h.le.1 (.cells #[.int .i64 a] 3));have HS:=Aa hs;clear h hA hs;go_enter func169,ntmps169
 go_wp2_with fail
 generalize w.alloc (.cells #[.int .i64 a] 3)=W at *;refine HP.out.mono ?_;rintro e w1 ⟨v,rfl,o1,h1,b1⟩;obtain⟨g,cp,e1,_⟩:=o1.fn;subst e1;have h2:=h1.box #[.func (.func g) #[] cp] 224;have b2:=Bt h1.le.1 (.cells #[.func (.func g) #[] cp] 224);have HT:=Aa (IY h2 (by have:=(HS.out.pops 1).ds;omega) (by have:=(HS.out.pops 1).ws;omega));have H1:=Aa (Tc o1 (HB.out.trans (b1.trans b2)));clear h1 h2 b1 b2 o1 HP HB;go_wp2_with fail
 generalize w1.alloc (.cells #[.func (.func g) #[] cp] 224)=W1 at *;refine HT.out.mono ?_;rintro e w2 ⟨rfl,L2,hl2,h2,b2⟩;have hd:CR L2 (.ins 3 a [Bp k]) (.func (.func 181) #[] #[ptr w1.heap.size,ptr w.heap.size]) :=
  Or.inr (Or.inr (Or.inr (Or.inl ⟨rfl,Bp k,w1.heap.size,w.heap.size,_,rfl,rfl,hl2 _ Ti,hl2 _ (Tf _ Ti),H1.out.1.mono (fun t ht=>hl2 _ (Tf _ ht))⟩)))
 have HT2:=Aa (Dg h2 _ _ _ hd (by have:=Gg (k.pops 1);have:=(HS.out.pops 1).ds;omega));have H2:=Aa (Tc (fun t (ht:t∈L)=>hl2 t (Tf _ (Tf _ ht))) (H1.out.2.trans b2));clear h2 b2 hl2 hd HT H1;go_wp2_with fail
 refine HT2.out.mono ?_;rintro e w3 ⟨rfl,h3,b3⟩;have HQ:=Aa (AK.of H2.out.1 H2.out.2 h3 b3);clear h3 b3 HT2 H2;go_wp2;go_end0;exact HQ.out
theorem No(h:Ay w B kb L k)(hs:BE k)(a:Int) :
  Calls prog 173 #[ptr kb] w (AK w B kb L (k.str 9 a)):=by
 have hmf:=A__mkf
 rw[So];have HP:=Aa (It h (by have:=hs.ws;omega));have HS:=Aa hs;clear h hs;go_enter func173,ntmps173
 go_wp2_with fail
 refine HP.out.mono ?_;rintro e w1 ⟨v,L1,rfl,hl1,o1,h1,b1⟩;rw[GT] at h1;obtain⟨g,cp,e1,_⟩:=o1.fn;subst e1;have h2:=h1.box #[.func (.func g) #[] cp] 230;have b2:=Bt h1.le.1 (.cells #[.func (.func g) #[] cp] 230);have HT:=Aa (IY h2 (by have:=(HS.out.pops 2).ds;omega) (by have:=(HS.out.pops 2).ws;omega));have H1:=Aa (Tc o1 (Tc hl1 (b1.trans b2)));clear h1 h2 b1 b2 o1 hl1 HP;go_wp2_with fail
 generalize w1.alloc (.cells #[.func (.func g) #[] cp] 230)=W1 at *;refine HT.out.mono ?_;rintro e w2 ⟨rfl,L2,hl2,h2,b2⟩;have hd:Ds L2 9 [Bp k,Bp (k.pops 1)] (.func (.func 186) #[] #[ptr w1.heap.size]) :=
  Or.inr (Or.inl ⟨rfl,_,_,w1.heap.size,_,rfl,rfl,hl2 _ Ti,H1.out.1.mono (fun t ht=>hl2 _ (Tf _ ht))⟩)
 have HT2:=Aa (F0 h2 9 a _ _ _ hd (by have:=Gg (k.pops 2);have:=(HS.out.pops 2).ds;omega));have H2:=Aa (Tc (fun t (ht:t∈L)=>hl2 t (Tf _ (H1.out.2.1 t ht))) (H1.out.2.2.trans b2));clear h2 b2 hl2 hd HT H1;go_wp2_with fail
 refine HT2.out.mono ?_;rintro e w3 ⟨rfl,L3,hl3,h3,b3⟩;have HQ:=Aa (AK.of (fun t ht=>hl3 t (H2.out.1 t ht)) H2.out.2 h3 b3);clear h3 b3 HT2 H2 hl3;go_wp2;go_end0;exact HQ.out
theorem RQ(h:Ay w B kb L k)(hs:BE k)(op a:Int)(hop:op=4\/op=5\/op=6\/op=7\/op=8) :
  Calls prog 174 #[ptr kb,.func (.func (Dd op)) #[] #[]] w (AK w B kb L (k.str op a)):=by
 have hmf:=A__mkf
 rw[L9 (by omega)];have HO:=Aa hop;have hA:=h.box #[.func (.func (Dd op)) #[] #[]] 204;have HP:=Aa (It hA (by have:=hs.ws;omega));have HB:=Aa (Bt h.le.1 (.cells #[.func (.func (Dd op)) #[] #[]] 204));have HS:=Aa hs;have HR:Hid (Dd op=Dd op):=rfl;clear h hs hA hop;generalize hrf:Dd op=rf at *;have HRF:=Aa hrf;clear hrf HR;go_enter func174,ntmps174
 go_wp2_with fail
 generalize w.alloc (.cells #[.func (.func rf) #[] #[]] 204)=W at *;refine HP.out.mono ?_;rintro e w1 ⟨v,L1,rfl,hl1,o1,h1,b1⟩;rw[GT] at h1;obtain⟨g,cp,e1,_⟩:=o1.fn;subst e1;have h2:=h1.box #[.func (.func g) #[] cp] 230;have b2:=Bt h1.le.1 (.cells #[.func (.func g) #[] cp] 230);have HT:=Aa (EM h2 (by have:=(HS.out.pops 2).ds;omega) (by have:=(HS.out.pops 2).ws;omega) (HS.out.pops 2).le (HS.out.pops 2).seen);have H1:=Aa (Tc o1 (Tc hl1 (HB.out.trans (b1.trans b2))));clear h1 h2 b1 b2 o1 hl1 HP HB;go_wp2_with fail
 generalize w1.alloc (.cells #[.func (.func g) #[] cp] 230)=W1 at *;refine HT.out.mono ?_;rintro e w2 ⟨rfl,L2,hl2,h2,b2⟩;have hd:Ds L2 op [Bp k,Bp (k.pops 1)] (.func (.func 187) #[] #[ptr w1.heap.size,ptr w.heap.size]) :=
  Or.inr (Or.inr (Or.inl ⟨HO.out,_,_,w1.heap.size,_,w.heap.size,rfl,rfl,hl2 _ Ti,by rw[HRF.out];exact hl2 _ (Tf _ (H1.out.2.1 _ Ti)),H1.out.1.mono (fun t ht=>hl2 _ (Tf _ ht))⟩))
 have HT2:=Aa (F0 h2 op a _ _ _ hd (by have:=DS (k.pops 2);have:=(HS.out.pops 2).ds;omega));have H2:=Aa (Tc (fun t (ht:t∈L)=>hl2 t (Tf _ (H1.out.2.1 t (Tf _ ht)))) (H1.out.2.2.trans b2));clear h2 b2 hl2 hd HT H1;go_wp2_with fail
 refine HT2.out.mono ?_;rintro e w3 ⟨rfl,L3,hl3,h3,b3⟩;have HQ:=Aa (AK.of (fun t ht=>hl3 t (H2.out.1 t ht)) H2.out.2 h3 b3);clear h3 b3 HT2 H2 hl3;go_wp2;go_end0;exact HQ.out
end
section
variable {w:World}{B kb:Nat}{L:Bxs}{k:Mk}
theorem PJ(h:Ay w B kb L k)(hs:BE k)(a:Int) :
  Calls prog 175 #[ptr kb,.int .i64 15] w (AK w B kb L (k.str 15 a)):=by
 have hmf:=A__mkf
 rw[L7 (by omega)];have HP:=Aa (En h (by have:=hs.ws;omega));have HS:=Aa hs;clear h hs;go_enter func175,ntmps175
 go_wp2_with fail
 refine HP.out.mono ?_;rintro e w1 ⟨v,rfl,o1,h1,b1⟩;obtain⟨g,cp,e1,_⟩:=o1.fn;subst e1;have h2:=h1.box #[.func (.func g) #[] cp] 224;have b2:=Bt h1.le.1 (.cells #[.func (.func g) #[] cp] 224);have HT:=Aa (EM h2 (by have:=(HS.out.pops 1).ds;omega) (by have:=(HS.out.pops 1).ws;omega) (HS.out.pops 1).le (HS.out.pops 1).seen);have H1:=Aa (Tc o1 (b1.trans b2));clear h1 h2 b1 b2 o1 HP;go_wp2_with fail
 generalize w1.alloc (.cells #[.func (.func g) #[] cp] 224)=W1 at *;refine HT.out.mono ?_;rintro e w2 ⟨rfl,L2,hl2,h2,b2⟩;have hd:Ds L2 15 [Bp k] (.func (.func 188) #[] #[ptr w1.heap.size]) :=
  Or.inr (Or.inr (Or.inr (Or.inl ⟨rfl,_,w1.heap.size,_,rfl,rfl,hl2 _ Ti,H1.out.1.mono (fun t ht=>hl2 _ (Tf _ ht))⟩)))
 have HT2:=Aa (F0 h2 15 a _ _ _ hd (by have:=DS (k.pops 1);have:=(HS.out.pops 1).ds;omega));have H2:=Aa (Tc (fun t (ht:t∈L)=>hl2 t (Tf _ ht)) (H1.out.2.trans b2));clear h2 b2 hl2 hd HT H1;go_wp2_with fail
 refine HT2.out.mono ?_;rintro e w3 ⟨rfl,L3,hl3,h3,b3⟩;have HQ:=Aa (AK.of (fun t ht=>hl3 t (H2.out.1 t ht)) H2.out.2 h3 b3);clear h3 b3 HT2 H2 hl3;go_wp2;go_end0;exact HQ.out
theorem Ri(h:Ay w B kb L k)(hs:BE k)(a:Int) :
  Calls prog 175 #[ptr kb,.int .i64 18] w (AK w B kb L (k.str 18 a)):=by
 have hmf:=A__mkf
 rw[L7 (by omega)];have HP:=Aa (En h (by have:=hs.ws;omega));have HS:=Aa hs;clear h hs;go_enter func175,ntmps175
 go_wp2_with fail
 refine HP.out.mono ?_;rintro e w1 ⟨v,rfl,o1,h1,b1⟩;obtain⟨g,cp,e1,_⟩:=o1.fn;subst e1;have h2:=h1.box #[.func (.func g) #[] cp] 224;have b2:=Bt h1.le.1 (.cells #[.func (.func g) #[] cp] 224);have HT:=Aa (EM h2 (by have:=(HS.out.pops 1).ds;omega) (by have:=(HS.out.pops 1).ws;omega) (HS.out.pops 1).le (HS.out.pops 1).seen);have H1:=Aa (Tc o1 (b1.trans b2));clear h1 h2 b1 b2 o1 HP;go_wp2_with fail
 generalize w1.alloc (.cells #[.func (.func g) #[] cp] 224)=W1 at *;refine HT.out.mono ?_;rintro e w2 ⟨rfl,L2,hl2,h2,b2⟩;have hd:Ds L2 18 [Bp k] (.func (.func 189) #[] #[ptr w1.heap.size]) :=
  Or.inr (Or.inr (Or.inr (Or.inr (Or.inl ⟨rfl,_,w1.heap.size,_,rfl,rfl,hl2 _ Ti,H1.out.1.mono (fun t ht=>hl2 _ (Tf _ ht))⟩))))
 have HT2:=Aa (F0 h2 18 a _ _ _ hd (by have:=DS (k.pops 1);have:=(HS.out.pops 1).ds;omega));have H2:=Aa (Tc (fun t (ht:t∈L)=>hl2 t (Tf _ ht)) (H1.out.2.trans b2));clear h2 b2 hl2 hd HT H1;go_wp2_with fail
 refine HT2.out.mono ?_;rintro e w3 ⟨rfl,L3,hl3,h3,b3⟩;have HQ:=Aa (AK.of (fun t ht=>hl3 t (H2.out.1 t ht)) H2.out.2 h3 b3);clear h3 b3 HT2 H2 hl3;go_wp2;go_end0;exact HQ.out
theorem SJ(h:Ay w B kb L k)(hs:BE k)(a:Int) :
  Calls prog 175 #[ptr kb,.int .i64 16] w (AK w B kb L (k.str 16 a)):=by
 have hmf:=A__mkf
 rw[L9 (by omega)];have HP:=Aa (It h (by have:=hs.ws;omega));have HS:=Aa hs;clear h hs;go_enter func175,ntmps175
 go_wp2_with fail
 refine HP.out.mono ?_;rintro e w1 ⟨v,L1,rfl,hl1,o1,h1,b1⟩;rw[GT] at h1;obtain⟨g,cp,e1,_⟩:=o1.fn;subst e1;have h2:=h1.box #[.func (.func g) #[] cp] 230;have b2:=Bt h1.le.1 (.cells #[.func (.func g) #[] cp] 230);have HT:=Aa (EM h2 (by have:=(HS.out.pops 2).ds;omega) (by have:=(HS.out.pops 2).ws;omega) (HS.out.pops 2).le (HS.out.pops 2).seen);have H1:=Aa (Tc o1 (Tc hl1 (b1.trans b2)));clear h1 h2 b1 b2 o1 hl1 HP;go_wp2_with fail
 generalize w1.alloc (.cells #[.func (.func g) #[] cp] 230)=W1 at *;refine HT.out.mono ?_;rintro e w2 ⟨rfl,L2,hl2,h2,b2⟩;have hd:Ds L2 16 [Bp k,Bp (k.pops 1)] (.func (.func 190) #[] #[ptr w1.heap.size]) :=
  Or.inr (Or.inr (Or.inr (Or.inr (Or.inr ⟨rfl,_,_,w1.heap.size,_,rfl,rfl,hl2 _ Ti,H1.out.1.mono (fun t ht=>hl2 _ (Tf _ ht))⟩))))
 have HT2:=Aa (F0 h2 16 a _ _ _ hd (by have:=DS (k.pops 2);have:=(HS.out.pops 2).ds;omega));have H2:=Aa (Tc (fun t (ht:t∈L)=>hl2 t (Tf _ (H1.out.2.1 t ht))) (H1.out.2.2.trans b2));clear h2 b2 hl2 hd HT H1;go_wp2_with fail
 refine HT2.out.mono ?_;rintro e w3 ⟨rfl,L3,hl3,h3,b3⟩;have HQ:=Aa (AK.of (fun t ht=>hl3 t (H2.out.1 t ht)) H2.out.2 h3 b3);clear h3 b3 HT2 H2 hl3;go_wp2;go_end0;exact HQ.out
theorem Sp(h:Ay w B kb L k)(hs:BE k)(a:Int) :
  Calls prog 175 #[ptr kb,.int .i64 17] w (AK w B kb L (k.str 17 a)):=by
 have hmf:=A__mkf
 rw[SI];have HP:=Aa (En h (by have:=hs.ws;omega));have HS:=Aa hs;clear h hs;go_enter func175,ntmps175
 go_wp2_with fail
 refine HP.out.mono ?_;rintro e w1 ⟨v,rfl,o1,h1,b1⟩;obtain⟨g,cp,e1,_⟩:=o1.fn;subst e1;have HP2:=Aa (It h1 (by have:=(HS.out.pops 1).ws;omega));have H1:=Aa (Tc o1 b1);clear h1 b1 o1 HP;go_wp2_with fail
 refine HP2.out.mono ?_;rintro e w2 ⟨v2,L2,rfl,hl2,o2,h2,b2⟩;rw[P3] at h2;rw[GT] at o2;obtain⟨g2,cp2,e2,_⟩:=o2.fn;subst e2;have h3:=h2.two #[.func (.func g) #[] cp] #[.func (.func g2) #[] cp2] 224 230;have b3:=((Bt h2.le.1 (.cells #[.func (.func g) #[] cp] 224)).trans (Bt (w:=w2.alloc (.cells #[.func (.func g) #[] cp] 224)) (by have:=h2.le.1;simp;omega) (.cells #[.func (.func g2) #[] cp2] 230)))
 have HT:=Aa (EM h3 (by have:=(HS.out.pops 3).ds;omega) (by have:=(HS.out.pops 3).ws;omega) (HS.out.pops 3).le (HS.out.pops 3).seen);have H2:=Aa (Tc o2 (Tc hl2 ((H1.out.2.trans b2).trans b3)));clear h2 h3 b2 b3 o2 hl2 HP2;go_wp2_with fail
 generalize (w2.alloc (.cells #[.func (.func g) #[] cp] 224)).alloc (.cells #[.func (.func g2) #[] cp2] 230)=W2 at *;refine HT.out.mono ?_;rintro e w3 ⟨rfl,L3,hl3,h3,b3⟩;have hd:CR L3 (.ins 17 a [Bp k,Bp (k.pops 1),Bp (k.pops 2)]) (.func (.func 191) #[] #[ptr w2.heap.size,ptr (w2.heap.size+1)]) :=
  Or.inr (Or.inr (Or.inr (Or.inr ⟨rfl,_,_,_,w2.heap.size,w2.heap.size+1,_,_,rfl,rfl,hl3 _ (Tf _ Ti),hl3 _ Ti,H1.out.1.mono (fun t ht=>hl3 _ (Tf _ (Tf _ (H2.out.2.1 t ht)))),H2.out.1.mono (fun t ht=>hl3 _ (Tf _ (Tf _ ht)))⟩)))
 have HT2:=Aa (Dg h3 _ _ _ hd (by have:=DS (k.pops 3);have:=(HS.out.pops 3).ds;omega));have H3:=Aa (Tc (fun t (ht:t∈L)=>hl3 t (Tf _ (Tf _ (H2.out.2.1 t ht)))) (H2.out.2.2.trans b3));clear h3 b3 hl3 hd HT H1 H2;go_wp2_with fail
 refine HT2.out.mono ?_;rintro e w4 ⟨rfl,h4,b4⟩;have HQ:=Aa (AK.of H3.out.1 H3.out.2 h4 b4);clear h4 b4 HT2 H3;go_wp2;go_end0;exact HQ.out
end
end Go.Proofs.YtkafkipjedpohaaGreatDoor

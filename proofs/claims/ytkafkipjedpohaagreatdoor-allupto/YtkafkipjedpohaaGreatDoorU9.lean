import Derived.Test.YtkafkipjedpohaaGreatDoorS14
namespace Go.Proofs.YtkafkipjedpohaaGreatDoor
set_option maxRecDepth 100000
set_option maxHeartbeats 16000000
open Go.RowKit _root_.Go.Proofs.Tryz
theorem Mv(w:World)(B rb:Nat)(A:Ad)(s:Mc)(p1 p2:Option Addr)(c1 c2:Nat)(hL:Al w B rb A s)(hf:F6 w p1 (Am s.fr) s.fr.length)(ha:F3 w p2 s.arr s.arr.length)(hn:s.fr.length<=1000)(har:s.arr.length<=200000)(hls:∀ i,i<s.fr.length->(Am s.fr i).loc.length<=200000/\(Am s.fr i).stk.length<=200000)(hal:∀ j,j<s.arr.length->(s.arr.getD j []).length<=200000) :
  Calls prog 59 #[.agg #[.slice p1 s.fr.length c1,.slice p2 s.arr.length c2],.pointer (some ⟨rb,0,none⟩)] w fun e w'=>e=.returned (.bool true)/\Below w.heap.size w w':=by
 obtain⟨q1,d1,hfv,hf2⟩:=hL.frin;obtain⟨q2,d2,hav,ha2⟩:=hL.arin;have k1:w.cell? ⟨rb,1,none⟩=some (.slice q1 s.fr.length d1):=by rw[Ag.cell hL 1,<-hfv];rfl
 have k2:w.cell? ⟨rb,2,none⟩=some (.slice q2 s.arr.length d2):=by rw[Ag.cell hL 2,<-hav];rfl
 have hrz:=Ag.lt hL;generalize hfr:Am s.fr=fr at *;generalize harr:s.arr=arr at *;generalize hnf:s.fr.length=nf at *;generalize hna:arr.length=na at *;have hW:Below w.heap.size w (w.alloc (.cells #[.slice p1 nf c1,.slice p2 na c2] 53)):=(Tu _ _).alloc (Te _) _;have r1:(w.alloc (.cells #[.slice p1 nf c1,.slice p2 na c2] 53)).heap[w.heap.size]?=some (.cells #[.slice p1 nf c1,.slice p2 na c2] 53 (0,0)):=Tv _ _;have HF:=Aa (Tc hf (Tc hf2 (Tc ha (Tc ha2 (Tc hls hal)))));have a0:(w.alloc (.cells #[.slice p1 nf c1,.slice p2 na c2] 53)).cell? ⟨w.heap.size,0,none⟩=some (.slice p1 nf c1):=(Ab r1).trans rfl;have a1:(w.alloc (.cells #[.slice p1 nf c1,.slice p2 na c2] 53)).cell? ⟨w.heap.size,1,none⟩=some (.slice p2 na c2):=(Ab r1).trans rfl;have b1:=(hW.cell (p:=⟨rb,1,none⟩) hrz).trans k1;have b2:=(hW.cell (p:=⟨rb,2,none⟩) hrz).trans k2;have HW:=Aa (Tc hW (Tc r1 (Tc b1 b2)));have e1:(nf != nf)=false:=by simp
 have e2:(na != na)=false:=by simp
 clear hf hf2 ha ha2 hls hal hL hfv hav k1 k2 hfr harr hnf hna hW r1;go_enter func59,ntmps59
 go_wp2_with fail
 have hoz:w.heap.size<(w.alloc (.cells #[.slice p1 nf c1,.slice p2 na c2] 53)).heap.size:=by simp
 have hrz2:rb<(w.alloc (.cells #[.slice p1 nf c1,.slice p2 na c2] 53)).heap.size:=by simp;omega
 generalize w.alloc (.cells #[.slice p1 nf c1,.slice p2 na c2] 53)=W at *;go_quiet (fail)
 go_wp2;go_loopw [5] (fun v wr=>∃ j:Nat,j<=nf/\v=.int .i64 j/\Below W.heap.size W wr) (fun v _=>nf-(intOf v).toNat)
 case atStart=>exact⟨0,by omega,rfl,below_drewN (Tu _ _) _⟩
 case round =>
  clear a0 a1 b1 b2;obtain⟨j,hj,rfl,hBr⟩:=hrel;obtain⟨hW,r1,b1,b2⟩:=HW.out;have s0:=(hBr.block _ (Ah r1)).trans r1;have a0:wr.cell? ⟨w.heap.size,0,none⟩=some (.slice p1 nf c1):=(Ab s0).trans rfl;have a1:wr.cell? ⟨w.heap.size,1,none⟩=some (.slice p2 na c2):=(Ab s0).trans rfl;have x1:=(hBr.cell (p:=⟨rb,1,none⟩) hrz2).trans b1;have x2:=(hBr.cell (p:=⟨rb,2,none⟩) hrz2).trans b2;have hWr:Below w.heap.size w wr:=hW.trans (hBr.mono hW.size);have hz0:=Ah s0;have hzr:rb<wr.heap.size:=by have:=hBr.size;omega
  by_cases hlt:j<nf
  ·have hdec:decide ((j:Int)<(nf:Int))=true:=by simp;omega
   obtain⟨LV1,SV1,hf1⟩:=HF.out.1.below hWr;obtain⟨LV2,SV2,hf2⟩:=HF.out.2.1.below hWr;obtain⟨f1,e1',fz1,m0,m1,m2,m3,g1,g3⟩:=hf1 j hlt;obtain⟨f2,e2',fz2,n0,n1,n2,n3,g2,g4⟩:=hf2 j hlt;subst e1' e2';obtain⟨hl1,hl2⟩:=HF.out.2.2.2.2.1 j hlt;obtain⟨lp1,lc1,el1⟩:=g1.any;obtain⟨lp2,lc2,el2⟩:=g2.any;obtain⟨sp1,sc1,es1⟩:=g3.any;obtain⟨sp2,sc2,es2⟩:=g4.any;rw[el1] at m2 g1;rw[el2] at n2 g2;rw[es1] at m3 g3;rw[es2] at n3 g4;generalize fr j=f at *;generalize hfn:(f.fn:Int)=ffn at *;generalize hpc:(f.pc:Int)=fpc at *;generalize hsl:f.stk.reverse.length=sl at *;obtain⟨X,hXd⟩:∃ X,X=(wr.alloc (.cells #[.int .i64 ffn,.int .i64 fpc,.slice lp1 f.loc.length lc1,.slice sp1 sl sc1] 73)).alloc (.cells #[.int .i64 ffn,.int .i64 fpc,.slice lp2 f.loc.length lc2,.slice sp2 sl sc2] 73):=⟨_,rfl⟩
   have hX:Below wr.heap.size wr X:=by rw[hXd];exact((Tu _ _).alloc (Te _) _).alloc (by simp) _
   have y1:X.heap[wr.heap.size]?=some (.cells #[.int .i64 ffn,.int .i64 fpc,.slice lp1 f.loc.length lc1,.slice sp1 sl sc1] 73 (0,0)):=by
    rw[hXd];exact(Ty _ _ _ (by simp)).trans (Tv _ _)
   have y2:X.heap[wr.heap.size+1]?=some (.cells #[.int .i64 ffn,.int .i64 fpc,.slice lp2 f.loc.length lc2,.slice sp2 sl sc2] 73 (0,0)):=by
    rw[hXd];have:=Tv (wr.alloc (.cells #[.int .i64 ffn,.int .i64 fpc,.slice lp1 f.loc.length lc1,.slice sp1 sl sc1] 73)) (.cells #[.int .i64 ffn,.int .i64 fpc,.slice lp2 f.loc.length lc2,.slice sp2 sl sc2] 73);simpa using this
   have HG:=Aa (Tc (g1.below hX) (Tc (g2.below hX) (Tc (g3.below hX) (g4.below hX))));have HY:=Aa (Tc hX (Tc y1 (Tc y2 hBr)));have HD:=Aa (Tc hXd hsl);have i0:(0:Int)<=(j:Int):=by omega
   have i1:(j:Int)<(nf:Int):=by omega
   have e0:(ffn != ffn)=false:=by simp
   have e0':(fpc != fpc)=false:=by simp
   clear hf1 hf2 g1 g2 g3 g4 el1 el2 es1 es2 hfn hpc hsl hXd hX y1 y2 hBr hWr hW r1 b1 b2 s0 a1 x2;go_wp2_with fail
   rw[<-HD.out.1];refine(Is X _ _ f.loc HG.out.1 HG.out.2.1 hl1).mono ?_;rintro e w3 ⟨rfl,hB3⟩;obtain⟨hX,y1,y2,hBr⟩:=HY.out;have z1:=(hB3.block _ (Ah y1)).trans y1;have z2:=(hB3.block _ (Ah y2)).trans y2;have u3:w3.cell? ⟨wr.heap.size,3,none⟩=some (.slice sp1 sl sc1):=(Ab z1).trans rfl;have v3:w3.cell? ⟨wr.heap.size+1,3,none⟩=some (.slice sp2 sl sc2):=(Ab z2).trans rfl;have hv:=Is w3 _ _ f.stk.reverse (HG.out.2.2.1.below hB3) (HG.out.2.2.2.below hB3) (by rw[List.length_reverse];exact hl2);have HV:=Aa hv;have HZ:=Aa (Tc z1 (Tc z2 (hBr.trans ((hX.trans (hB3.mono hX.size)).mono hBr.size))));clear hX y1 y2 hBr z1 z2 hB3 HY HG HD hv m0 m1 m2 m3 n0 n1 n2 n3;go_wp2_with fail
   refine HV.out.mono ?_;rintro e w4 ⟨rfl,hB4⟩;obtain⟨z1,z2,hBr⟩:=HZ.out;have z3:=(hB4.block _ (Ah z1)).trans z1;have z4:=(hB4.block _ (Ah z2)).trans z2;have u0:w4.cell? ⟨wr.heap.size,0,none⟩=some (.int .i64 ffn):=(Ab z3).trans rfl;have u1:w4.cell? ⟨wr.heap.size,1,none⟩=some (.int .i64 fpc):=(Ab z3).trans rfl;have v0:w4.cell? ⟨wr.heap.size+1,0,none⟩=some (.int .i64 ffn):=(Ab z4).trans rfl;have v1:w4.cell? ⟨wr.heap.size+1,1,none⟩=some (.int .i64 fpc):=(Ab z4).trans rfl;have HB:=Aa (hBr.trans (hB4.mono hBr.size));clear z1 z2 z3 z4 hBr hB4 HZ HV u3 v3;go_wp2;exact⟨⟨j+1,by omega,by go_num,HB.out⟩,by simp[intOf];omega⟩
  ·have hdec:decide ((j:Int)<(nf:Int))=false:=by simp;omega
   have HB0:=Aa hBr;clear hBr hW r1 b1 b2 s0 hWr x1 x2;go_wp2;clear a0 a1;go_loopw [10] (fun v wr=>∃ i:Nat,i<=na/\v=.int .i64 i/\Below W.heap.size W wr) (fun v _=>na-(intOf v).toNat)
   case atStart=>exact⟨0,by omega,rfl,HB0.out⟩
   case round =>
    clear HB0;obtain⟨i,hi,rfl,hBr⟩:=hrel;obtain⟨hW,r1,b1,b2⟩:=HW.out;have s0:=(hBr.block _ (Ah r1)).trans r1;have a1:wr.cell? ⟨w.heap.size,1,none⟩=some (.slice p2 na c2):=(Ab s0).trans rfl;have x2:=(hBr.cell (p:=⟨rb,2,none⟩) hrz2).trans b2;have hWr:Below w.heap.size w wr:=hW.trans (hBr.mono hW.size);have hz0:=Ah s0;have hzr:rb<wr.heap.size:=by have:=hBr.size;omega
    by_cases hlt:i<na
    ·have hdec:decide ((i:Int)<(na:Int))=true:=by simp;omega
     obtain⟨AV1,hf1⟩:=HF.out.2.2.1.below hWr;obtain⟨AV2,hf2⟩:=HF.out.2.2.2.1.below hWr;obtain⟨f1,e1',fz1,m0,g1⟩:=hf1 i hlt;obtain⟨f2,e2',fz2,n0,g2⟩:=hf2 i hlt;subst e1' e2';have hl1:=HF.out.2.2.2.2.2 i hlt;obtain⟨lp1,lc1,el1⟩:=g1.any;obtain⟨lp2,lc2,el2⟩:=g2.any;rw[el1] at m0 g1;rw[el2] at n0 g2;generalize arr.getD i []=l at *;have i0:(0:Int)<=(i:Int):=by omega
     have i1:(i:Int)<(na:Int):=by omega
     have HG:=Aa (Tc g1 (Tc g2 hBr));clear hf1 hf2 g1 g2 el1 el2 hBr hWr hW r1 b1 b2 s0;go_wp2_with fail
     refine AG (fun w'=>w'.cell? ⟨w.heap.size,1,none⟩=some (.slice (some ⟨f1,0,none⟩) na c2)/\w'.cell? ⟨rb,2,none⟩=some (.slice (some ⟨f2,0,none⟩) na d2)/\w'.cell? ⟨f1,i,none⟩=some (.slice lp1 l.length lc1)/\w'.cell? ⟨f2,i,none⟩=some (.slice lp2 l.length lc2)) [(false,0),(false,1),(false,2),(false,3),(false,4),(false,5),(false,6),(false,7),(false,8),(false,9),(false,10),(false,11),(false,12),(true,13),(false,14)] (by kernel_rfl) (by kernel_rfl) (fun c0 a0 d0 v0 x0 h0=>A8 (P:=prog) f59 (fun e w'=>e=.returned (.bool true)/\Below w.heap.size w w') c0 a0 d0 v0 x0 h0) ⟨a1,x2,m0,n0⟩ ?_;simp only[lexL,Tl,Tm];iterate 13 (refine Aw (by rfl) (by intro w' hS';obtain⟨o0,o1,o2,o3⟩:=hS';go_simp;exact rfl) ?_;simp only[Act.put,Td,Th,Tg])
     refine Az (fun K hK=>?_);go_simp;refine(Is wr.drew _ _ l (HG.out.1.below (Tu _ _).drew) (HG.out.2.1.below (Tu _ _).drew) hl1).mono ?_;rintro e w3 ⟨rfl,hB3⟩;have cc:∀ a:Addr,a.block<wr.heap.size->w3.cell? a=wr.cell? a:=fun a ha=>hB3.cell (p:=a) ha
     refine hK.out _ _ ⟨(cc ⟨w.heap.size,_,none⟩ hz0).trans a1,(cc ⟨rb,_,none⟩ hzr).trans x2,(cc ⟨f1,_,none⟩ fz1).trans m0,(cc ⟨f2,_,none⟩ fz2).trans n0⟩ ?_;clear hK K cc;have HB:=Aa (HG.out.2.2.drew.trans (hB3.mono (by exact HG.out.2.2.size)));clear hB3 HG a1 x2 m0 n0;refine Aw (by rfl) (by intro w' hS';go_simp;exact rfl) ?_;simp only[Act.put,Td,Th,Tg];refine AF ?_;go_wp2;exact⟨⟨i+1,by omega,by go_num,HB.out⟩,by simp[intOf];omega⟩
    ·have hdec:decide ((i:Int)<(na:Int))=false:=by simp;omega
     have HB:=Aa hWr;clear hBr hW r1 b1 b2 s0 hWr x2;go_wp2;go_ret;exact⟨rfl,HB.out⟩
theorem Ci.below{w w':World}{B b m k:Nat}{F:Nat->PF}(h:Ci w b m k F)(hb:Below B w w')(hB:b+1+m<=B):Ci w' b m k F :=
 ⟨h.row.of_block (hb.block _ (by omega)),fun i hi hik=>(h.code i hi hik).of_block (hb.block _ (by omega))⟩
theorem Ci.cells{w:World}{b m k:Nat}{F:Nat->PF}(h:Ci w b m k F){i:Nat}(hi:i<m)(hik:i<k) :
  w.cell? ⟨b,i * 3,none⟩=some (.int .i64 (F i).args)/\w.cell? ⟨b,i * 3+1,none⟩=some (.int .i64 (F i).locals)/\w.cell? ⟨b,i * 3+2,none⟩=some (.slice (some ⟨b+1+i,0,none⟩) (F i).cn ((F i).cn+2)):=by
 have h0:=h.row.cell (i:=i * 3) (by omega);have h1:=h.row.cell (i:=i * 3+1) (by omega);have h2:=h.row.cell (i:=i * 3+2) (by omega);unfold B4 Eg at h0 h1 h2;rw[if_pos (by omega),if_pos (by omega),if_pos (by omega),show i * 3 / 3=i by omega] at h0;rw[if_pos (by omega),if_pos (by omega),if_neg (by omega),if_pos (by omega),show (i * 3+1) / 3=i by omega] at h1;rw[if_pos (by omega),if_pos (by omega),if_neg (by omega),if_neg (by omega),show (i * 3+2) / 3=i by omega] at h2;exact⟨h0,h1,h2⟩
theorem Ci.marks{w:World}{b m:Nat}{F:Nat->PF}(h:Ci w b m (m+2) F){i:Nat}(hi:m<=i)(hik:i<m+2) :
  w.cell? ⟨b,i * 3,none⟩=some (.int .i64 (-77))/\w.cell? ⟨b,i * 3+1,none⟩=some (.int .i64 0)/\w.cell? ⟨b,i * 3+2,none⟩=some (.slice none 0 0):=by
 have h0:=h.row.cell (i:=i * 3) (by omega);have h1:=h.row.cell (i:=i * 3+1) (by omega);have h2:=h.row.cell (i:=i * 3+2) (by omega);unfold B4 Eg at h0 h1 h2;rw[if_pos (by omega),if_neg (by omega),if_pos (by omega)] at h0;rw[if_pos (by omega),if_neg (by omega),if_neg (by omega),if_pos (by omega)] at h1;rw[if_pos (by omega),if_neg (by omega),if_neg (by omega),if_neg (by omega)] at h2;exact⟨h0,h1,h2⟩
theorem Ki(f:PF)(j:Nat)(hj:j<f.cn):DY f (j * 2)=.int .i64 (f.op j)/\DY f (j * 2+1)=.int .i64 (f.ar j):=by
 unfold DY;rw[if_pos (by omega),if_pos (by omega),if_pos (by omega),if_neg (by omega),show j * 2 / 2=j by omega,show (j * 2+1) / 2=j by omega];exact⟨rfl,rfl⟩
theorem Sf(f:PF)(j:Nat)(hj:f.cn<=j):DY f (j * 2)=.int .i64 0/\DY f (j * 2+1)=.int .i64 0:=by
 unfold DY;rw[if_neg (by omega),if_neg (by omega)];exact⟨rfl,rfl⟩
theorem Qi(b:Nat)(p:Option Addr)(pc m:Nat)(F:Nat->PF)(CA:Nat->Option Addr)(CC:Nat->Nat)(w:World)(hG:Df w p m F CA CC)(hL:Ci w b m (m+2) F)(hb:b+1+m<=w.heap.size)(hm:40 * m<=140737488355328)(hcn:∀ k,k<m->16 * (F k).cn<=140737488355328) :
  Calls prog 76 #[.slice (some ⟨b,0,none⟩) (m+2) (m+2),.slice p m pc] w fun e w'=>e=.returned (.bool true)/\Below w.heap.size w w':=by
 have HG:=Aa (Tc hG (Tc hL hcn));clear hG hL hcn;have hlen:((m:Int)+2 != (m:Int)+2)=false:=by simp
 go_enter func76,ntmps76
 go_wp2;go_loopw [5] (fun v wr=>∃ k:Nat,k<=m/\v=.int .i64 k/\Below w.heap.size w wr) (fun v _=>m-(intOf v).toNat)
 case atStart=>exact⟨0,Tt _,rfl,Tu _ _⟩
 case round =>
  obtain⟨k,hk,rfl,hB⟩:=hrel;by_cases hlt:k<m
  ·obtain⟨pb,po,rfl,hPw⟩:=HG.out.1 (by omega);have hpb:pb<w.heap.size:=hPw.lt;have hP:=hPw.below hB (Te _);obtain⟨c0,c1,c2,hcode⟩:=hP.fn k hlt;have hLr:=HG.out.2.1.below hB hb;obtain⟨l0,l1,l2⟩:=hLr.cells hlt (by omega);have hcb:=HG.out.2.2 k hlt;have HK:=Aa (Tc hB (Tc hPw (HG.out.2.1.code k hlt (by omega))));clear hB hPw hP hcode hLr;generalize hcn:(F k).cn=cn at *;have Hcn:=Aa hcn;clear hcn;generalize (F k).args=ag at *;generalize (F k).locals=lc at *;have e1:(ag != ag)=false:=by simp
   have e2:(lc != lc)=false:=by simp
   have e3:((cn:Int) != (cn:Int))=false:=by simp
   have i0:(0:Int)<=(k:Int):=by omega
   have i1:(k:Int)<(m:Int):=by omega
   have i2:(k:Int)<(m:Int)+2:=by omega
   go_wp2;go_quiet (fail)
   go_wp2;have HB:Hid (Below w.heap.size w (wr.drewN nq)):=⟨HK.out.1.os,HK.out.1.tape,HK.out.1.output,HK.out.1.size,HK.out.1.block⟩
   have HP:Hid (BD w pb po m F CA CC/\w.rowIs (b+1+k) 33 (((F k).cn+2) * 2) (DY (F k))):=⟨HK.out.2.1,by rw[Hcn.out];exact HK.out.2.2⟩
   clear HK c0 c1 c2 l0 l1 l2 e1 e2 e3;generalize wr.drewN nq=W at *;go_loopw [8] (fun v wz=>∃ j:Nat,j<=cn+2/\v=.int .i64 j/\Below w.heap.size w wz) (fun v _=>cn+2-(intOf v).toNat)
   case atStart=>exact⟨0,Tt _,rfl,HB.out⟩
   case round =>
    clear HB;obtain⟨j,hj,rfl,hB⟩:=hrel;by_cases hlj:j<cn
    ·obtain⟨c0,c1,c2,hcode⟩:=(HP.out.1.below hB (Te _)).fn k hlt;obtain⟨cb,co,ec,hcbl,hcc⟩:=hcode (by rw[Hcn.out];omega);rw[ec,Hcn.out] at c2;obtain⟨x0,x1⟩:=hcc j (by rw[Hcn.out];exact hlj);have hrow:=HP.out.2.of_block (hB.block (b+1+k) (by omega));have y0:=hrow.cell (i:=j * 2) (by rw[Hcn.out];omega);have y1:=hrow.cell (i:=j * 2+1) (by rw[Hcn.out];omega);obtain⟨z0,z1⟩:=Ki (F k) j (by rw[Hcn.out];exact hlj);rw[z0] at y0;rw[z1] at y1;generalize (F k).op j=oj at *;generalize (F k).ar j=aj at *;have HBr:=Aa hB;have Av:=hB.size;have hbz:b+1+k<wr.heap.size:=by omega
     have hpz:pb<wr.heap.size:=by omega
     clear hB hcode hcc hrow z0 z1 c0 c1;have j0:(0:Int)<=(j:Int):=by omega
     have j1:(j:Int)<(cn:Int):=by omega
     have j2:(j:Int)<(cn:Int)+2:=by omega
     go_wp2;go_quiet (fail)
     go_wp2;go_roundw
     case rel=>exact⟨j+1,by omega,by go_num,below_drewN (HBr.out.alloc (by omega) _) _⟩
     case measure=>simp[intOf];omega
    ·by_cases hl2:j<cn+2
     ·have hrow:=HP.out.2.of_block (hB.block (b+1+k) (by omega));have y0:=hrow.cell (i:=j * 2) (by rw[Hcn.out];omega);have y1:=hrow.cell (i:=j * 2+1) (by rw[Hcn.out];omega);obtain⟨z0,z1⟩:=Sf (F k) j (by rw[Hcn.out];omega);rw[z0] at y0;rw[z1] at y1;have HBr:=Aa hB;have Av:=hB.size;have hbz:b+1+k<wr.heap.size:=by omega
      clear hB hrow z0 z1;have j0:(0:Int)<=(j:Int):=by omega
      have j2:(j:Int)<(cn:Int)+2:=by omega
      go_wp2;go_quiet (fail)
      go_wp2;go_roundw
      case rel=>exact⟨j+1,by omega,by go_num,below_drewN (HBr.out.alloc (by omega) _) _⟩
      case measure=>simp[intOf];omega
     ·have HBr:=Aa hB;clear hB;go_wp2;go_roundw
      case rel=>exact⟨k+1,by omega,by go_num,HBr.out⟩
      case measure=>simp[intOf];omega
  ·obtain rfl:k=m:=by omega
   have hLr:=HG.out.2.1.below hB hb;have g0:=(hLr.marks (i:=k) (Te _) (by omega)).1;have g1:=(hLr.marks (i:=k+1) (by omega) (by omega)).1;have HBr:=Aa hB;clear hB hLr;go_wp2;go_ret;exact⟨rfl,HBr.out⟩
structure DJ (w:World) (b m:Nat) (F:Nat->PF):Prop where
 row:∃ f,w.rowIs b 31 ((m+2) * 3) f/\(∀ i,i<m->f (i * 3+2)=.slice (some ⟨b+1+i,0,none⟩) (F i).cn ((F i).cn+2))/\(∀ i,m<=i->i<m+2->f (i * 3+2)=.slice none 0 0)
 code:∀ i,i<m->∃ g,w.rowIs (b+1+i) 33 (((F i).cn+2) * 2) g
section
variable {w:World}{b m:Nat}{F:Nat->PF}
theorem Ci.spl(h:Ci w b m (m+2) F):DJ w b m F:=by
 refine⟨⟨_,h.row,fun i hi=>?_,fun i hi hi2=>?_⟩,fun i hi=>⟨_,h.code i hi (by omega)⟩⟩
 ·unfold B4 Eg;rw[if_pos (by omega),if_pos (by omega),if_neg (by omega),if_neg (by omega),show (i * 3+2) / 3=i by omega]
 ·unfold B4 Eg;rw[if_pos (by omega),if_neg (by omega),if_neg (by omega),if_neg (by omega)]
theorem DJ.local(h:DJ w b m F)(k:Nat)(v:Value):DJ (w.setCell ⟨b,k * 3+1,none⟩ v) b m F:=by
 obtain⟨⟨f,hr,h1,h2⟩,hc⟩:=h;refine⟨⟨_,hr.set (k * 3+1) v,fun i hi=>?_,fun i hi hi2=>?_⟩,fun i hi=>?_⟩
 ·show (if i * 3+2=k * 3+1 then v else f (i * 3+2))=_;rw[if_neg (by omega)];exact h1 i hi
 ·show (if i * 3+2=k * 3+1 then v else f (i * 3+2))=_;rw[if_neg (by omega)];exact h2 i hi hi2
 ·obtain⟨g,hg⟩:=hc i hi;exact⟨g,hg.setOther (by simp<;>omega) _⟩
theorem DJ.ins(h:DJ w b m F)(k j:Nat)(u v:Value):DJ ((w.setCell ⟨b+1+k,j,none⟩ u).setCell ⟨b+1+k,j+1,none⟩ v) b m F:=by
 obtain⟨⟨f,hr,h1,h2⟩,hc⟩:=h;refine⟨⟨f,(hr.setOther (by simp<;>omega) _).setOther (by simp<;>omega) _,h1,h2⟩,fun i hi=>?_⟩;obtain⟨g,hg⟩:=hc i hi;by_cases e:i=k
 ·subst e;exact⟨_,(hg.set j u).set (j+1) v⟩
 ·exact⟨g,(hg.setOther (by simp<;>omega) _).setOther (by simp<;>omega) _⟩
structure DH (b c:Nat) (w w':World):Prop where
 low:Below b w w'
 high:∀ k,c<=k->w'.heap[k]?=w.heap[k]?
theorem DH.refl(b c:Nat)(w:World):DH b c w w:=⟨Tu _ _,fun _ _=>rfl⟩
theorem DH.setCell{c:Nat}{w':World}(h:DH b c w w'){a:Addr}(hb:b<=a.block)(hc:a.block<c)(v:Value):DH b c w (w'.setCell a v) :=
 ⟨h.low.setCell hb v,fun k hk=>(Tx _ _ _ _ (by omega)).trans (h.high k hk)⟩
theorem Ou(b m:Nat)(F:Nat->PF)(w:World)(hL:Ci w b m (m+2) F)(hm:40 * m<=140737488355328)(hcn:∀ k,k<m->16 * (F k).cn<=140737488355328) :
  Calls prog 77 #[.slice (some ⟨b,0,none⟩) (m+2) (m+2)] w fun e w'=>e=.returned (.tuple #[])/\DH b (b+1+m) w w':=by
 have HL:=Aa (Tc hL.spl hcn);clear hL hcn;go_enter func77,ntmps77
 go_wp2;go_loopw [2] (fun v wr=>∃ k:Nat,k<=m+2/\v=.int .i64 k/\DH b (b+1+m) w wr/\DJ wr b m F) (fun v _=>m+2-(intOf v).toNat)
 case atStart=>exact⟨0,Tt _,rfl,DH.refl _ _ _,HL.out.1⟩
 case round =>
  obtain⟨k,hk,rfl,hB,hS⟩:=hrel;by_cases hlt:k<m
  ·have hcb:=HL.out.2 k hlt;have HS:=Aa (Tc hB hS);clear hB hS;go_wp2;go_loopw [3] (fun v wz=>∃ j:Nat,j<=(F k).cn/\v=.int .i64 j/\DH b (b+1+m) w wz/\DJ wz b m F) (fun v _=>(F k).cn-(intOf v).toNat)
   case atStart=>exact⟨0,Tt _,rfl,HS.out⟩
   case round =>
    clear HS;obtain⟨j,hj,rfl,hB,hS⟩:=hrel;have hS':=hS;obtain⟨⟨f,hr,h1,h2⟩,hc⟩:=hS';obtain⟨g,hg⟩:=hc k hlt;have c2:=hr.cell (i:=k * 3+2) (by omega);rw[h1 k hlt] at c2;have c1:=hr.cell (i:=k * 3+1) (by omega);have f1:=hr.frozen (k * 3+1);generalize f (k * 3+1)=v1 at c1;by_cases hlj:j<(F k).cn
    ·have x0:=hg.cell (i:=j * 2) (by omega);have x1:=hg.cell (i:=j * 2+1) (by omega);have y0:=hg.frozen (j * 2);have y1:=hg.frozen (j * 2+1);generalize g (j * 2)=u0 at x0;generalize g (j * 2+1)=u1 at x1;have HS:Hid (DJ ((wr.setCell ⟨b+1+k,j * 2,none⟩ (.int .i64 (-9))).setCell ⟨b+1+k,j * 2+1,none⟩ (.int .i64 0)) b m F/\DH b (b+1+m) w ((wr.setCell ⟨b+1+k,j * 2,none⟩ (.int .i64 (-9))).setCell ⟨b+1+k,j * 2+1,none⟩ (.int .i64 0))) :=
      ⟨hS.ins k (j * 2) _ _,(hB.setCell (by dsimp only;omega) (by dsimp only;omega) _).setCell (by dsimp only;omega) (by dsimp only;omega) _⟩
     clear hS hB hr hg h1 h2 hc c1 f1;generalize (F k).cn=cn at *;go_wp2;go_roundw
     case rel=>exact⟨j+1,by omega,by go_num,HS.out.2,HS.out.1⟩
     case measure=>simp[intOf];omega
    ·have HS:Hid (DJ (wr.setCell ⟨b,k * 3+1,none⟩ (.int .i64 (-9))) b m F/\DH b (b+1+m) w (wr.setCell ⟨b,k * 3+1,none⟩ (.int .i64 (-9)))):=⟨hS.local k _,hB.setCell (Te _) (by dsimp only;omega) _⟩
     clear hS hB hr hg h1 h2 hc;generalize (F k).cn=cn at *;go_wp2;go_roundw
     case rel=>exact⟨k+1,by omega,by go_num,HS.out.2,HS.out.1⟩
     case measure=>simp[intOf];omega
  ·by_cases hl2:k<m+2
   ·have HS:=Aa (Tc hB hS);clear hB hS;go_wp2;go_loopw [3] (fun v wz=>v=.int .i64 0/\DH b (b+1+m) w wz/\DJ wz b m F) (fun _ _=>0)
    case atStart=>exact⟨rfl,HS.out⟩
    case round =>
     clear HS;obtain⟨rfl,hB,hS⟩:=hrel;have hS':=hS;obtain⟨⟨f,hr,h1,h2⟩,hc⟩:=hS';have c2:=hr.cell (i:=k * 3+2) (by omega);rw[h2 k (by omega) hl2] at c2;have c1:=hr.cell (i:=k * 3+1) (by omega);have f1:=hr.frozen (k * 3+1);generalize f (k * 3+1)=v1 at c1;have HS:Hid (DJ (wr.setCell ⟨b,k * 3+1,none⟩ (.int .i64 (-9))) b m F/\DH b (b+1+m) w (wr.setCell ⟨b,k * 3+1,none⟩ (.int .i64 (-9)))):=⟨hS.local k _,hB.setCell (Te _) (by dsimp only;omega) _⟩
     clear hS hB hr h1 h2 hc;go_wp2;go_roundw
     case rel=>exact⟨k+1,by omega,by go_num,HS.out.2,HS.out.1⟩
     case measure=>simp[intOf];omega
   ·have HS:=Aa hB;clear hB hS;go_wp2;go_end0;exact⟨rfl,HS.out⟩
end
theorem FQ(n:Int)(w:World):Calls prog 78 #[.int .i64 n] w fun e w'=>e=.returned (.int .i64 n)/\w'=w:=by
 go_enter func78,ntmps78
 go_wp2;go_ret;exact⟨rfl,rfl⟩
theorem Ci.prog{w:World}{b m:Nat}{F:Nat->PF}(h:Ci w b m (m+2) F)(hb:b+1+m<=w.heap.size):BD w b 0 m F (fun i=>some ⟨b+1+i,0,none⟩) (fun i=>(F i).cn+2):=by
 refine⟨by omega,fun k hk=>?_⟩;obtain⟨h0,h1,h2⟩:=h.cells hk (by omega);refine⟨by rw[Nat.zero_add];exact h0,by rw[Nat.zero_add];exact h1,by rw[Nat.zero_add];exact h2,fun _=>⟨b+1+k,0,rfl,by omega,fun i hi=>?_⟩⟩;have hr:=h.code k hk (by omega);have x0:=hr.cell (i:=i * 2) (by omega);have x1:=hr.cell (i:=i * 2+1) (by omega);obtain⟨z0,z1⟩:=Ki (F k) i hi;rw[z0] at x0;rw[z1] at x1;rw[Nat.zero_add];exact⟨x0,x1⟩
theorem QH(p:Option Addr)(pc m:Nat)(F:Nat->PF)(CA:Nat->Option Addr)(CC:Nat->Nat)(w:World)(hG:Df w p m F CA CC) :
  Calls prog 75 #[.slice p m pc] w fun e w' =>
   e=.returned (.tuple #[.int .i64 (AW m F).1,.int .i64 (AW m F).2.1,.int .i64 (AW m F).2.2])/\Below w.heap.size w w':=by
 by_cases h:m<1\/8<m
 ·exact RL p pc m F w h
 ·obtain⟨pb,po,rfl,hP⟩:=hG (by omega);exact O8 pb po pc m F CA CC w hP h
theorem Qq(b m:Nat)(F:Nat->PF)(w:World)(hL:Ci w b m (m+2) F)(hb:b+1+m<=w.heap.size)(ht:Cb w) :
  Calls prog 17 #[.slice (some ⟨b,0,none⟩) m (m+2)] w fun e w' =>
   ∃ v,e=.returned (.tuple #[v,.int .i64 (AW m F).1,.int .i64 (AW m F).2.1,.int .i64 (AW m F).2.2])/\Below w.heap.size w w'/\(((AW m F).1=0/\Eh w w' v m F)\/((AW m F).1≠0/\v=.pointer none)):=by
 by_cases h0:(AW m F).1=0
 ·obtain⟨_,_,hR,_⟩:=JO h0;refine(M6 b 0 (m+2) m F _ _ w (hL.prog hb) ht h0).mono ?_;rintro e w' ⟨v,rfl,hB,hC⟩;refine⟨v,?_,hB,Or.inl ⟨h0,hC⟩⟩;rw[hR]
 ·have hcon:Calls prog 34 #[.slice (some ⟨b,0,none⟩) m (m+2)] w fun e w'=>e=.returned (.tuple #[.int .i64 (AW m F).1,.int .i64 (AW m F).2.1,.int .i64 (AW m F).2.2])/\Below w.heap.size w w':=by
   by_cases h:m<1\/8<m
   ·exact OB _ _ m F w h
   ·exact KD b 0 (m+2) m F _ _ w (hL.prog hb) h ht
  refine(Se _ _ m F w h0 hcon).mono ?_;rintro e w' ⟨rfl,hB⟩;exact⟨_,rfl,hB,Or.inr ⟨h0,rfl⟩⟩
theorem Eh.stays{w w' w5:World}{v:Value}{m:Nat}{F:Nat->PF}(h:Eh w w' v m F)(hz:w'.heap.size<=w5.heap.size)(hk:∀ k,w.heap.size<=k->k<w'.heap.size->w5.heap[k]?=w'.heap[k]?):Eh w w5 v m F:=by
 obtain⟨b,g,cap,hv,hb,hb2,hc,hg,hg2,hne,CA,CC,hj⟩:=h;have hcell:∀ k o,w.heap.size<=k->k<w'.heap.size->w5.cell? ⟨k,o,none⟩=w'.cell? ⟨k,o,none⟩:=fun k o h1 h2=>Tw (hk k h1 h2)
 refine⟨b,g,cap,hv,hb,by omega,(hcell b 0 hb hb2).trans hc,hg,by omega,hne,CA,CC,fun j hjm=>?_⟩;obtain⟨hf,cb,co,ec,hne2,hold⟩:=hj j hjm;refine⟨⟨(hcell g _ hg hg2).trans hf.args,(hcell g _ hg hg2).trans hf.locals,(hcell g _ hg hg2).trans hf.slice,fun h1=>?_⟩,cb,co,ec,hne2,hold⟩;obtain⟨cb',co',e',hl,hcode⟩:=hf.code h1;have e2:=e';rw[ec] at e2;injection e2 with e2;injection e2 with e3 e4;subst e3;subst e4;refine⟨cb,co,e',by omega,fun i hi=>?_⟩;obtain⟨c0,c1⟩:=hcode i hi;exact⟨(hcell cb _ (hold hjm).1 hl).trans c0,(hcell cb _ (hold hjm).1 hl).trans c1⟩
theorem Eh.elder{w0 w w':World}{v:Value}{m:Nat}{F:Nat->PF}(h:Eh w w' v m F)(hz:w0.heap.size<=w.heap.size):Eh w0 w' v m F:=by
 obtain⟨b,g,cap,hv,hb,hb2,hc,hg,hg2,hne,CA,CC,hj⟩:=h;refine⟨b,g,cap,hv,by omega,hb2,hc,by omega,hg2,hne,CA,CC,fun j hjm=>?_⟩;obtain⟨hf,cb,co,ec,hne2,hold⟩:=hj j hjm;exact⟨hf,cb,co,ec,hne2,fun hl=>by have:=hold hl;omega⟩
theorem OA(p:Option Addr)(pc m:Nat)(F:Nat->PF)(CA:Nat->Option Addr)(CC:Nat->Nat)(w:World)(hG:Df w p m F CA CC)(hm:40 * m<=140737488355328)(hcn:∀ k,k<m->16 * (F k).cn<=140737488355328)(ht:Cb w)(hw:0<w.heap.size) :
  Calls prog 52 #[.slice p m pc] w fun e w' =>
   ∃ v,e=.returned (.tuple #[v,.bool true])/\Below w.heap.size w w'/\(((AW m F).1=0/\Eh w w' v m F)\/((AW m F).1≠0/\v=.pointer none)):=by
 have HG:=Aa (Tc hG (Tc hcn ht));clear hG hcn ht;go_enter func52,ntmps52
 go_wp2_with fail
 refine(Oy p pc m F CA CC w HG.out.1 hm HG.out.2.1).mono ?_;rintro e w1 ⟨rfl,hB1,hz1,hL1⟩;have H1:=Aa (Tc hB1 (Tc hz1 hL1));have hcon:=Qq w.heap.size m F w1 hL1 (by omega) (HG.out.2.2.below hB1 hw);have HC:=Aa hcon;clear hB1 hz1 hL1 hcon;have j0:(0:Int)<=(m:Int):=by omega
 have j1:(m:Int)<=(m:Int)+2:=by omega
 go_wp2_with fail
 refine HC.out.mono ?_;rintro e w2 ⟨v,rfl,hB2,hv⟩;obtain⟨hB1,hz1,hL1⟩:=H1.out;have hBw2:Below w.heap.size w w2:=hB1.trans (hB2.mono hB1.size);have hL2:=hL1.below hB2 (by omega);have hz2:w.heap.size+1+m<=w2.heap.size:=by have:=hB2.size;omega
 have hcon2:=QH p pc m F CA CC w2 (HG.out.1.below hBw2 (Te _));have HC2:=Aa hcon2;have H2:=Aa (Tc hBw2 (Tc hL2 hz2));have Hv:=Aa hv;have HZ1:=Aa hz1;clear hB1 hz1 hL1 hBw2 hL2 hz2 hcon2 hB2 hv HC H1;generalize hR:AW m F=R at *;have HR:=Aa hR;clear hR;go_wp2_with fail
 refine HC2.out.mono ?_;rintro e w3 ⟨rfl,hB3⟩;obtain⟨hB2,hL2,hz2⟩:=H2.out;have hBw3:Below w.heap.size w w3:=hB2.trans (hB3.mono hB2.size);have hL3:=hL2.below hB3 (by omega);have hz3:w.heap.size+1+m<=w3.heap.size:=by have:=hB3.size;omega
 have hcon3:=Qi w.heap.size p pc m F CA CC w3 (HG.out.1.below hBw3 (Te _)) hL3 hz3 hm HG.out.2.1;have HC3:=Aa hcon3;have H3:=Aa (Tc hBw3 (Tc hL3 hz3));have HK3:=Aa hB3;clear hB2 hL2 hz2 hBw3 hL3 hz3 hcon3 hB3 HC2 H2;go_wp2_with fail
 refine HC3.out.mono ?_;rintro e w4 ⟨rfl,hB4⟩;obtain⟨hB3,hL3,hz3⟩:=H3.out;have hBw4:Below w.heap.size w w4:=hB3.trans (hB4.mono hB3.size);have hL4:=hL3.below hB4 (by omega);have hcon4:=Ou w.heap.size m F w4 hL4 hm HG.out.2.1;have HC4:=Aa hcon4;have H4:=Aa hBw4;have HK4:Hid (Below w2.heap.size w2 w4):=HK3.out.trans (hB4.mono HK3.out.size);clear hB3 hL3 hz3 hBw4 hL4 hcon4 hB4 HC3 H3;go_wp2_with fail
 refine HC4.out.mono ?_;rintro e w5 ⟨rfl,hB5⟩;have H5:Hid (Below w.heap.size w w5):=H4.out.trans hB5.low;have HK5:Hid (w2.heap.size<=w5.heap.size/\∀ k,w1.heap.size<=k->k<w2.heap.size->w5.heap[k]?=w2.heap[k]?):=by
  have h1:=HK4.out.size;have h2:=hB5.low.size;refine⟨by omega,fun k hk1 hk2=>?_⟩;rw[hB5.high k (by have:=HZ1.out;omega)];exact HK4.out.block k hk2
 clear hB5 HC4 H4 HK4 HK3;have e1:(R.1==R.1)=true:=by simp
 have e2:(R.2.1==R.2.1)=true:=by simp
 have e3:(R.2.2==R.2.2)=true:=by simp
 rcases Hv.out with⟨h0,hC⟩|⟨h0,rfl⟩
 ·have HF:=Aa (Tc h0 ((hC.stays HK5.out.1 HK5.out.2).elder (w0:=w) (by have:=HZ1.out;omega)));obtain⟨bc,g,cap,rfl,_⟩:=hC;have e4:(R.1==0)=true:=by simpa using h0
  clear h0;go_wp2_with (go_at_call 78;refine(FQ _ _).mono ?_;rintro e w' ⟨rfl,rfl⟩)
  go_ret2
  exact⟨_,rfl,H5.out,Or.inl ⟨by rw[HR.out];exact HF.out.1,HF.out.2⟩⟩
 ·have e4:(R.1==0)=false:=by simpa using h0
  have e5:(R.1 != 0)=true:=by simpa using h0
  have HN:=Aa h0;clear h0;go_wp2_with (go_at_call 78;refine(FQ _ _).mono ?_;rintro e w' ⟨rfl,rfl⟩)
  go_ret2
  exact⟨_,rfl,H5.out,Or.inr ⟨by rw[HR.out];exact HN.out,rfl⟩⟩
end Go.Proofs.YtkafkipjedpohaaGreatDoor

import Derived.Test.YtkafkipjedpohaaGreatDoorU13
namespace Go.Proofs.YtkafkipjedpohaaGreatDoor
set_option maxRecDepth 100000
set_option maxHeartbeats 16000000
open Go.RowKit _root_.Go.Proofs.Tryz
def Ex(z:Int):Prop:=-9223372036854775808<=z/\z<=9223372036854775807
structure DK where
 kd:Int
 at_:Int
 num:Int
 ep:Option Addr
 el:Nat
 ec:Nat
 ev:Nat->Int × Int × Int
 pp:Option Addr
 pl:Nat
 pc:Nat
 F:Nat->PF
 CA:Nat->Option Addr
 CC:Nat->Nat
def Fx(w:World)(ep:Option Addr)(el:Nat)(ev:Nat->Int × Int × Int):Prop :=
 1<=el->∃ eb eo,ep=some ⟨eb,eo,none⟩/\eb<w.heap.size/\∀ k,k<el->w.cell? ⟨eb,eo+k * 3,none⟩=some (.int .i64 (ev k).1)/\w.cell? ⟨eb,eo+k * 3+1,none⟩=some (.int .i64 (ev k).2.1)/\w.cell? ⟨eb,eo+k * 3+2,none⟩=some (.int .i64 (ev k).2.2)/\Ex (ev k).1/\Ex (ev k).2.1/\Ex (ev k).2.2
section
variable {w w':World}{B i:Nat}
theorem Fx.below{el:Nat}{ep:Option Addr}{ev:Nat->Int × Int × Int}(h:Fx w ep el ev)(k:Below B w w')(hB:w.heap.size<=B):Fx w' ep el ev:=fun h1=>by
 obtain⟨eb,eo,e,hl,hc⟩:=h h1;have hz:=k.size;refine⟨eb,eo,e,by omega,fun j hj=>?_⟩;obtain⟨c0,c1,c2,r⟩:=hc j hj;exact⟨(k.cell (p:=⟨eb,_,none⟩) (by show eb<B;omega)).trans c0,(k.cell (p:=⟨eb,_,none⟩) (by show eb<B;omega)).trans c1,(k.cell (p:=⟨eb,_,none⟩) (by show eb<B;omega)).trans c2,r⟩
structure FZ (w:World) (o:DK):Prop where
 kd:Ex o.kd
 at_:Ex o.at_
 num:Ex o.num
 ev:Fx w o.ep o.el o.ev
 el:24 * o.el<=140737488355328
 given:Df w o.pp o.pl o.F o.CA o.CC
 pl:40 * o.pl<=140737488355328
 cn:∀ k,k<o.pl->16 * (o.F k).cn<=140737488355328
 cap:o.el<=o.ec
theorem FZ.below{o:DK}(h:FZ w o)(k:Below B w w')(hB:w.heap.size<=B):FZ w' o :=
 ⟨h.kd,h.at_,h.num,h.ev.below k hB,h.el,h.given.below k hB,h.pl,h.cn,h.cap⟩
structure Im (w:World) (sb so i:Nat) (o:DK):Prop where
 c0:w.cell? ⟨sb,so+i * 5,none⟩=some (.int .i64 o.kd)
 c1:w.cell? ⟨sb,so+i * 5+1,none⟩=some (.int .i64 o.at_)
 c2:w.cell? ⟨sb,so+i * 5+2,none⟩=some (.int .i64 o.num)
 c3:w.cell? ⟨sb,so+i * 5+3,none⟩=some (.slice o.ep o.el o.ec)
 c4:w.cell? ⟨sb,so+i * 5+4,none⟩=some (.slice o.pp o.pl o.pc)
 ok:FZ w o
theorem Im.below{sb so:Nat}{o:DK}(h:Im w sb so i o)(k:Below B w w')(hB:w.heap.size<=B)(hs:sb<B):Im w' sb so i o :=
 ⟨(k.cell (p:=⟨sb,_,none⟩) hs).trans h.c0,(k.cell (p:=⟨sb,_,none⟩) hs).trans h.c1,(k.cell (p:=⟨sb,_,none⟩) hs).trans h.c2,(k.cell (p:=⟨sb,_,none⟩) hs).trans h.c3,(k.cell (p:=⟨sb,_,none⟩) hs).trans h.c4,h.ok.below k hB⟩
def G8(w:World)(sp:Option Addr)(sl:Nat)(OP:Nat->DK):Prop:=1<=sl->∃ sb so,sp=some ⟨sb,so,none⟩/\sb<w.heap.size/\∀ i,i<sl->Im w sb so i (OP i)
def Io(most:Int):Prop:=∀ (w:World) (B wb:Nat) (A:AN) (n:Nat->Nat) (nc:Nat) (CV PV:Nat->Value) (M:Nat->Nat) (FF:Nat->Nat->PF) (o:DK),B3 w B wb A n nc CV PV M FF->FZ w o->2<=o.kd->o.kd<=most->1<=nc->nc<=10000000->(∀ k,k<4->n k<=3000000000000) ->
  Calls prog 38 #[.pointer (some ⟨wb,0,none⟩),.agg #[.int .i64 o.kd,.int .i64 o.at_,.int .i64 o.num,.slice o.ep o.el o.ec,.slice o.pp o.pl o.pc]] w (Cn w B wb n nc CV PV M FF)
theorem Od:Io 4:=by
 intro w B wb A n nc CV PV M FF o h ho h2 h4 hnc hnc2 hnb;have:o.kd=2\/o.kd=3\/o.kd=4:=by omega
 rcases this with e|e|e
 ·rw[e];exact RC w B wb A n nc CV PV M FF h _ _ _ _ _ _ _ _ ho.at_ hnc hnc2 hnb
 ·rw[e];exact QO w B wb A n nc CV PV M FF h _ _ _ _ _ _ _ _ ho.at_ hnc hnc2 hnb
 ·rw[e];exact QJ w B wb A n nc CV PV M FF h _ _ _ _ _ _ _ _ ho.at_ hnc hnc2 hnb
theorem Rg(w:World):Calls prog 37 #[] w fun e w'=>e=.returned (.slice (some ⟨w.heap.size+1,0,none⟩) 1 1)/\Below w.heap.size w w'/\Df w' (some ⟨w.heap.size+1,0,none⟩) 1 (fun _=>F9) (fun _=>some ⟨w.heap.size,0,none⟩) (fun _=>6):=by
 go_enter func37,ntmps37
 go_wp2;go_ret;exact⟨by simp,((Tu _ _).alloc (Te _) _).alloc (by simp) _,M3 w⟩
theorem Df.std{pb po m:Nat}{tag:Nat->Nat}{F:Nat->PF}{CA:Nat->Option Addr}{CC:Nat->Nat}(h:BD w pb po m F CA CC)(k:Below w.heap.size w w')(hs:∀ b,b<w.heap.size->b=pb\/(∃ q,q<m/\∃ co,CA q=some ⟨b,co,none⟩)->b<B\/tag b=9):FD w' B tag pb po m F:=by
 have hz:=k.size;refine⟨CA,CC,h.below k (Te _),⟨by have:=h.lt;omega,hs pb h.lt (Or.inl rfl)⟩,fun q hq cb co e hcn=>?_⟩;obtain⟨cb',co',e',hl,_⟩:=(h.fn q hq).code hcn;rw[e] at e';injection e' with e';injection e' with e3 e4;subst e3;exact⟨by omega,hs cb hl (Or.inr ⟨q,hq,co,e⟩)⟩
def FH(w:World)(B wb i:Nat)(wr:World):Prop :=
 Below B w wr/\∃ (A:AN) (n:Nat->Nat) (nc:Nat) (CV PV:Nat->Value) (M:Nat->Nat) (FF:Nat->Nat->PF),B3 wr B wb A n nc CV PV M FF/\1<=nc/\nc<=i+1/\∀ k,k<4->n k<=i * 400400
theorem Ky{a:Nat}(h:a<=i * 400400):a<=(i+1) * 400400:=Nat.le_trans h (Nat.mul_le_mul_right _ (Nat.le_succ i))
theorem NC{a b:Nat}(h:b<=i * 400400)(h2:a<=b+400400):a<=(i+1) * 400400:=by
 rw[Nat.add_mul,Nat.one_mul];exact Nat.le_trans h2 (Nat.add_le_add_right h _)
theorem Hq{wr:World}{wb:Nat}(h:FH w B wb i wr)(hi:i<=1048577):Calls prog 39 #[.pointer (some ⟨wb,2,none⟩)] wr fun e w'=>e=.returned (.bool true)/\FH w B wb i w':=by
 obtain⟨hB,A,n,nc,CV,PV,M,FF,hA,h1,h2,h3⟩:=h;refine(RP wr B wb A _ n hA.hold (fun k hk=>by have:=h3 k hk;omega)).mono ?_;rintro e w' ⟨rfl,hB'⟩;exact⟨rfl,hB.trans (hB'.mono hA.hold.le),A,n,nc,CV,PV,M,FF,hA.below hB',h1,h2,h3⟩
def I9:Array Value:=#[.slice none 0 0,.slice none 0 0,.slice none 0 0,.slice none 0 0,.slice none 0 0,.slice none 0 0]
def AN.new(wb:Nat):AN:={tag:=fun b=>if b=wb then 0 else 9,cv:=.slice none 0 0,pv:=.slice none 0 0,hv:=fun _=>.slice none 0 0,HV:=fun _ _=>.slice none 0 0,XB:=fun _=>0}
theorem B3.new(w:World):B3 (w.alloc (.cells I9 96)) w.heap.size w.heap.size (AN.new w.heap.size) (fun _=>0) 0 (fun _=>.bool false) (fun _=>.bool false) (fun _=>0) (fun _ _=>F9):=by
 refine⟨⟨Tv _ _,⟨Te _,if_pos rfl⟩,by simp,fun d hd=>by rw[hd];unfold Wt;omega,fun k hk=>Ae.nil _ _ _ _ _ _ _,fun k hk i hi=>absurd hi (by omega),fun i hi=>absurd hi (by omega)⟩,fun k hk=>rfl,Ae.nil _ _ _ _ _ _ _,Ae.nil _ _ _ _ _ _ _,fun i hi=>absurd hi (by omega)⟩
theorem Ks(most:Int)(hup:Io most)(w:World)(sp:Option Addr)(sl sc:Nat)(OP:Nat->DK)(hin:G8 w sp sl OP)(hsl:sl<=1048576)(ht:Cb w)(hw:0<w.heap.size) :
  Calls prog 18 #[.slice sp sl sc,.int .i64 most] w fun e w'=>e=.returned (.bool true)/\Below w.heap.size w w':=by
 have HI:=Aa (Tc hin (Tc ht hup));clear hin ht hup;obtain⟨W,hWd⟩:∃ W,W=w.alloc (.cells I9 96):=⟨_,rfl⟩
 have hWB:Below w.heap.size w W:=by rw[hWd];exact(Tu _ _).alloc (Te _) _
 have hWA:=B3.new w;rw[<-hWd] at hWA;have hWz:W.heap.size=w.heap.size+1:=by rw[hWd];simp
 have HW:=Aa (Tc hWB (Tc hWA hWz));have HD:=Aa hWd;clear hWd hWB hWA hWz;go_enter func18,ntmps18
 go_wp2_with fail
 rw[show (#[.slice none 0 0,.slice none 0 0,.slice none 0 0,.slice none 0 0,.slice none 0 0,.slice none 0 0]:Array Value)=I9 from rfl,<-HD.out];refine(Rg W).mono ?_;rintro e w1 ⟨rfl,hB1,hG1⟩;obtain⟨hWB,hWA,hWz⟩:=HW.out;have hBw1:Below w.heap.size w w1:=hWB.trans (hB1.mono hWB.size);have hld:=Lq w1 w.heap.size w.heap.size (AN.new w.heap.size) (fun _=>0) 0 _ _ _ _ (hWA.below hB1) (some ⟨W.heap.size+1,0,none⟩) 1 1 (fun _=>F9) _ _ hG1 (fun h1=>⟨_,_,rfl,by
  obtain⟨pb,po,e,hP⟩:=hG1 h1;injection e with e;injection e with e1 e2;rw[e1,e2];refine Df.std hP (Tu _ _) (fun b hb h=>Or.inr ?_);show (if b=w.heap.size then 0 else 9)=9;rw[if_neg];rcases h with h|⟨q,_,co,h⟩
  ·omega
  ·injection h with h;injection h with h1 h2;omega⟩) (by omega) (fun k hk=>by show 16 * 6<=_;omega) (HI.out.2.1.below hBw1 hw) (by have:=hBw1.size;omega) (by omega)
 have HLD:=Aa hld;have HB1:=Aa hBw1;clear hld hBw1 hB1 hG1 hWB hWA hWz;go_wp2_with fail
 refine HLD.out.mono ?_;rintro e w2 ⟨⟨rfl,hB2,_⟩,hA2⟩;obtain⟨A2,CV2,PV2,M2,FF2,hW2⟩:=hA2 SE;have HP:=Aa (show FH w w.heap.size w.heap.size 0 w2 from ⟨HB1.out.trans hB2,A2,_,1,CV2,PV2,M2,FF2,hW2,Te _,Te _,fun k hk=>Tt _⟩);obtain⟨p0,q0,e0⟩:=hW2.cr.slc;have y0:w2.cell? ⟨w.heap.size,0,none⟩=some (.slice p0 ((0:Nat)+1:Nat) q0):=by rw[Ab hW2.hold.blk,<-e0];rfl
 have z0:=Ah hW2.hold.blk;clear hA2 hW2 HB1 hB2 e0 HLD HW HD;go_wp2;clear y0;go_loopw [6,7] (fun v1 v2 wr=>∃ i:Nat,i<=sl/\v1=.bool true/\v2=.int .i64 i/\FH w w.heap.size w.heap.size i wr) (fun _ v _=>sl-(intOf v).toNat)
 case atStart=>exact⟨0,Tt _,rfl,rfl,HP.out⟩
 case round =>
  obtain⟨i,hi,rfl,rfl,hBr,A,n,nc,CV,PV,M,FF,hA,hn1,hn2,hnb⟩:=hrel;by_cases hlt:i<sl
  ·have hd:decide ((i:Int)<(sl:Int))=true:=by simp;omega
   obtain⟨sb,so,rfl,hsb,hOP⟩:=HI.out.1 (by omega);have ho:=(hOP i hlt).below hBr (Te _) hsb;have i0:(0:Int)<=(i:Int):=by omega
   have i1:(i:Int)<(sl:Int):=by omega
   obtain⟨o,hoo⟩:∃ o,OP i=o:=⟨_,rfl⟩
   rw[hoo] at ho;obtain⟨c0,c1,c2,c3,c4,hok⟩:=ho;have hoB:=(hOP i hlt).ok;rw[hoo] at hoB;have hbr:=hBr.size;have hsbr:sb<wr.heap.size:=by omega
   obtain⟨X,hX⟩:∃ X,X=wr.alloc (.cells #[.int .i64 o.kd,.int .i64 o.at_,.int .i64 o.num,.slice o.ep o.el o.ec,.slice o.pp o.pl o.pc] 100):=⟨_,rfl⟩
   have hXB:Below wr.heap.size wr X:=by rw[hX];exact(Tu _ _).alloc (Te _) _
   have hbx:X.heap[wr.heap.size]?=some (.cells #[.int .i64 o.kd,.int .i64 o.at_,.int .i64 o.num,.slice o.ep o.el o.ec,.slice o.pp o.pl o.pc] 100 (0,0)):=by rw[hX];exact Tv _ _
   have b0:X.cell? ⟨wr.heap.size,0,none⟩=some (.int .i64 o.kd):=(Ab hbx).trans rfl;have b1:X.cell? ⟨wr.heap.size,1,none⟩=some (.int .i64 o.at_):=(Ab hbx).trans rfl;have b2:X.cell? ⟨wr.heap.size,2,none⟩=some (.int .i64 o.num):=(Ab hbx).trans rfl;have b3:X.cell? ⟨wr.heap.size,3,none⟩=some (.slice o.ep o.el o.ec):=(Ab hbx).trans rfl;have b4:X.cell? ⟨wr.heap.size,4,none⟩=some (.slice o.pp o.pl o.pc):=(Ab hbx).trans rfl;have hxz:=Ah hbx;have hwX:Below w.heap.size w X:=hBr.trans (hXB.mono hbr);have hAX:=hA.below hXB;have HX:=Aa (Tc hAX (Tc hwX (Tc (hok.below hXB (Te _)) (Tc hoB hnb))));have hwbX:w.heap.size<X.heap.size:=Ah hAX.hold.blk;have HXD:=Aa hX;clear hX hXB hbx hwX hAX hA hok hoB hBr hOP hnb;by_cases k1:o.kd<1\/most<o.kd
   ·have hPl:FH w w.heap.size w.heap.size (i+1) X:=⟨HX.out.2.1,A,n,nc,CV,PV,M,FF,HX.out.1,hn1,by omega,fun k hk=>Ky (HX.out.2.2.2.2 k hk)⟩
    by_cases k0:o.kd<1
    ·have d0:decide (o.kd<1)=true:=by simpa using k0
     have HPl:=Aa hPl;clear k0 k1 hPl;go_wp2_with fail
     rw[<-HXD.out];have hPl:=HPl.out;refine(Hq hPl (by omega)).mono ?_;rintro e w6 ⟨rfl,hQ⟩;have HQ:=Aa hQ;clear hQ;go_wp2;exact⟨⟨i+1,by omega,rfl,by go_num,HQ.out⟩,by simp[intOf];omega⟩
    ·have d0:decide (o.kd<1)=false:=by simpa using k0
     have d1:decide (most<o.kd)=true:=by simp;omega
     have HPl:=Aa hPl;clear k0 k1 hPl;go_wp2_with fail
     rw[<-HXD.out];have hPl:=HPl.out;refine(Hq hPl (by omega)).mono ?_;rintro e w6 ⟨rfl,hQ⟩;have HQ:=Aa hQ;clear hQ;go_wp2;exact⟨⟨i+1,by omega,rfl,by go_num,HQ.out⟩,by simp[intOf];omega⟩
   ·have d0:decide (o.kd<1)=false:=by simp;omega
    have d1:decide (most<o.kd)=false:=by simp;omega
    by_cases k2:o.kd=1
    ·have d2:(o.kd==1)=true:=by simpa using k2
     have hld:=Lq X w.heap.size w.heap.size A n nc CV PV M FF HX.out.1 o.pp o.pc o.pl o.F o.CA o.CC HX.out.2.2.1.given (fun h1=>by
      obtain⟨pb,po,e,hP⟩:=HX.out.2.2.2.1.given h1;have hP2:=Df.std (B:=w.heap.size) (tag:=A.tag) hP (Tu _ _) (fun b hb _=>Or.inl hb);have hX:=HX.out.2.1;exact⟨pb,po,e,hP2.keep hX.size (fun b hb=>hX.block b hb.1) (fun _ _ h=>h)⟩) HX.out.2.2.1.pl HX.out.2.2.1.cn (HI.out.2.1.below HX.out.2.1 hw) (by omega) (by omega)
     have HLD:=Aa hld;clear hld k1 k2;go_wp2_with fail
     rw[<-HXD.out];refine HLD.out.mono ?_;rintro e w5 ⟨⟨rfl,hB5,A5,nc5,CV5,PV5,M5,FF5,hA5,l1,l2⟩,_⟩;have HPl:=Aa (show FH w w.heap.size w.heap.size (i+1) w5 from ⟨HX.out.2.1.trans hB5,A5,n,nc5,CV5,PV5,M5,FF5,hA5,by omega,by omega,fun k hk=>Ky (HX.out.2.2.2.2 k hk)⟩);have hw5:w.heap.size<w5.heap.size:=Ah hA5.hold.blk;clear hA5 hB5 HLD;go_wp2_with fail
     have hPl:=HPl.out;refine(Hq hPl (by omega)).mono ?_;rintro e w6 ⟨rfl,hQ⟩;have HQ:=Aa hQ;clear hQ;go_wp2;exact⟨⟨i+1,by omega,rfl,by go_num,HQ.out⟩,by simp[intOf];omega⟩
    ·have d2:(o.kd==1)=false:=by simpa using k2
     have hst:=HI.out.2.2 X w.heap.size w.heap.size A n nc CV PV M FF o HX.out.1 HX.out.2.2.1 (by omega) (by omega) hn1 (by omega) (fun k hk=>by have:=HX.out.2.2.2.2 k hk;omega);have HLD:=Aa hst;clear hst k1 k2;go_wp2_with fail
     rw[<-HXD.out];refine HLD.out.mono ?_;rintro e w5 ⟨rfl,hB5,A5,n5,hA5,l1⟩;have HPl:=Aa (show FH w w.heap.size w.heap.size (i+1) w5 from ⟨HX.out.2.1.trans hB5,A5,n5,nc,CV,PV,M,FF,hA5,by omega,by omega,fun k hk=>NC (HX.out.2.2.2.2 k hk) (l1 k hk)⟩);have hw5:w.heap.size<w5.heap.size:=Ah hA5.hold.blk;clear hA5 hB5 HLD l1;go_wp2_with fail
     have hPl:=HPl.out;refine(Hq hPl (by omega)).mono ?_;rintro e w6 ⟨rfl,hQ⟩;have HQ:=Aa hQ;clear hQ;go_wp2;exact⟨⟨i+1,by omega,rfl,by go_num,HQ.out⟩,by simp[intOf];omega⟩
  ·have hd:decide ((i:Int)<(sl:Int))=false:=by simp;omega
   have HQ:Hid (Below w.heap.size w wr):=hBr;clear hA hnb hBr;go_wp2;go_ret;exact⟨rfl,HQ.out⟩
end
open Go.RowKit Go.Deep Go.ChangeShapes
theorem Tryz.cells65:Tryz.prog.cellsOf 65=3:=by kernel_rfl
theorem Tryz.bytes65:Tryz.prog.bytesOf 65=24:=by kernel_rfl
theorem Tryz.cells100:Tryz.prog.cellsOf 100=5:=by kernel_rfl
theorem Tryz.cells57:Tryz.prog.cellsOf 57=1:=by kernel_rfl
theorem Tryz.cells23:Tryz.prog.cellsOf 23=1:=by kernel_rfl
theorem FJ{n:Int}(h:(Lit.int .i64 n).wf=true):Ex n:=by
 unfold Lit.wf at h;simp only[Bool.and_eq_true,decide_eq_true_eq] at h;have h1:IntKind.i64.min<=n:=h.1;have h2:n<=IntKind.i64.max:=h.2;have e1:IntKind.i64.min=-9223372036854775808:=by decide
 have e2:IntKind.i64.max=9223372036854775807:=by decide
 exact⟨by omega,by omega⟩
section
variable {H:Type} {enc:TypeId × Value->H} {w:World}
theorem OH{P:Program}{base:Nat}{spare:Nat->Bool}{held:Bool}{t:TypeId}{f0 f1 f2 f3 f4:Field}{fuel:Nat}{cs:List Value}{x:DataW H × List MemPlace}(ht:P.underlying t=some (.struct #[f0,f1,f2,f3,f4]))(h:DataW.trod enc P w base spare held fuel t cs=some x) :
  ∃ y0 y1 y2 y3 y4 n,x.1=.agg [y0.1,y1.1,y2.1,y3.1,y4.1]/\DataW.trod enc P w base spare held n f0.type ((cs.drop f0.offset).take (P.cellsOf f0.type))=some y0/\DataW.trod enc P w base spare held n f1.type ((cs.drop f1.offset).take (P.cellsOf f1.type))=some y1/\DataW.trod enc P w base spare held n f2.type ((cs.drop f2.offset).take (P.cellsOf f2.type))=some y2/\DataW.trod enc P w base spare held n f3.type ((cs.drop f3.offset).take (P.cellsOf f3.type))=some y3/\DataW.trod enc P w base spare held n f4.type ((cs.drop f4.offset).take (P.cellsOf f4.type))=some y4:=by
 obtain⟨xs,n,_,rfl,hl,hlen,hf⟩:=DataW.trod_struct ht h;match xs,hlen with
 |[y0,y1,y2,y3,y4],_=>exact⟨y0,y1,y2,y3,y4,n,by simp,by simpa using hf 0 f0 rfl,by simpa using hf 1 f1 rfl,by simpa using hf 2 f2 rfl,by simpa using hf 3 f3 rfl,by simpa using hf 4 f4 rfl⟩
theorem Pr{fuel:Nat}{v:Value}{x:DataW H × List MemPlace}(h:DataW.trod enc Tryz.prog w 0 (fun _=>true) true fuel 57 [v]=some x)(hw:∀ y∈x.1.weights Tryz.prog 57,y<=reachBytes) :
  ∃ (p:Option Addr) (el ec:Nat) (ev:Nat->Int × Int × Int),v=.slice p el ec/\Fx w p el ev/\24 * el<=reachBytes/\el<=ec:=by
 rcases open_slice Tryz.underlying57 h with⟨e,rfl⟩|⟨a,len,cap,m,n,D,Pl,e,_,hl,_,hm,rfl,hx⟩
 ·injection e with e;exact⟨none,0,0,fun _=>(0,0,0),e,fun h=>absurd h (by omega),by simp,Te _⟩
 ·injection e with e;simp only[if_true] at hm;subst hm;have hw1:24 * len<=reachBytes:=by
   have:=hw ((len+(m-len)) * 24) (by
    simp only[DataW.weights,Tryz.underlying57,List.length_map,List.length_range,Tryz.bytes65];exact Ti)
   omega
  have each:∀ i,i<len->∃ q:Int × Int × Int,w.cell? (a.add (i * 3))=some (.int .i64 q.1)/\w.cell? (a.add (i * 3+1))=some (.int .i64 q.2.1)/\w.cell? (a.add (i * 3+2))=some (.int .i64 q.2.2)/\Ex q.1/\Ex q.2.1/\Ex q.2.2:=by
   intro i hi;obtain⟨cs',h1,h2⟩:=hx i (by omega);rw[Tryz.cells65] at h1;obtain⟨_,hlen,hcell⟩:=World.cells?_some h1;obtain⟨y0,y1,y2,n',_,_,g0,g1,g2⟩:=trod_struct3 Tryz.underlying65 h2;match cs',hlen with
   |[v0,v1,v2],_ =>
    simp only[Tryz.cells3] at g0 g1 g2;simp at g0 g1 g2;obtain⟨z0,e0,_,w0⟩:=DataW.trod_int Tryz.underlying3 g0;obtain⟨z1,e1,_,w1⟩:=DataW.trod_int Tryz.underlying3 g1;obtain⟨z2,e2,_,w2⟩:=DataW.trod_int Tryz.underlying3 g2;simp at e0 e1 e2;have k0:=hcell 0 (by omega);have k1:=hcell 1 (by omega);have k2:=hcell 2 (by omega);rw[add_add] at k0 k1 k2;exact⟨(z0,z1,z2),by simpa [e0] using k0,by simpa [e1] using k1,by simpa [e2] using k2,FJ w0,FJ w1,FJ w2⟩
  have inh:Inhabited (Int × Int × Int):=⟨(0,0,0)⟩
  obtain⟨q,hq⟩:=choose_lt (α:=Int × Int × Int) each;refine⟨some a,len,m,q,e,fun h1=>?_,hw1,by omega⟩;have h0:=(hq 0 (by omega)).1;obtain⟨hlt,hsp⟩:=FW h0;have hsp':a.spot=none:=by simpa [Addr.add] using hsp
  have hlt':a.block<w.heap.size:=by simpa [Addr.add] using hlt
  refine⟨a.block,a.off,by rw[<-EP hsp'],hlt',fun k hk=>?_⟩;obtain⟨c0,c1,c2,r⟩:=hq k hk;rw[EP hsp',Addr.add_lit] at c0 c1 c2;exact⟨c0,c1,c2,r⟩
theorem IS{n:Nat}(h:n<=reachBytes):n<=140737488355328:=Nat.le_trans h (by unfold reachBytes;omega)
theorem LR{fuel:Nat}{v:Value}{x:DataW H × List MemPlace}(h:DataW.trod enc Tryz.prog w 0 (fun _=>true) true fuel 39 [v]=some x)(hw:∀ y∈x.1.weights Tryz.prog 39,y<=reachBytes) :
  ∃ (p:Option Addr) (sl sc:Nat) (OP:Nat->DK),v=.slice p sl sc/\G8 w p sl OP/\(sl=0\/∃ l r,x.1=.slice l r/\l.length=sl):=by
 rcases open_slice Tryz.underlying39 h with⟨e,rfl⟩|⟨a,len,cap,m,n,D,Pl,e,_,hl,_,hm,rfl,hx⟩
 ·injection e with e;exact⟨none,0,0,fun _=>⟨0,0,0,none,0,0,fun _=>(0,0,0),none,0,0,fun _=>⟨0,0,0,fun _=>0,fun _=>0⟩,fun _=>none,fun _=>0⟩,e,fun h=>absurd h (by omega),Or.inl rfl⟩
 ·injection e with e;simp only[if_true] at hm;subst hm;have each:∀ i,i<len->∃ q:DK,w.cell? (a.add (i * 5))=some (.int .i64 q.kd)/\w.cell? (a.add (i * 5+1))=some (.int .i64 q.at_)/\w.cell? (a.add (i * 5+2))=some (.int .i64 q.num)/\w.cell? (a.add (i * 5+3))=some (.slice q.ep q.el q.ec)/\w.cell? (a.add (i * 5+4))=some (.slice q.pp q.pl q.pc)/\FZ w q:=by
   intro i hi;obtain⟨cs',h1,h2⟩:=hx i (by omega);rw[Tryz.cells100] at h1;obtain⟨_,hlen,hcell⟩:=World.cells?_some h1;obtain⟨y0,y1,y2,y3,y4,n',hD,g0,g1,g2,g3,g4⟩:=OH Tryz.underlying100 h2;match cs',hlen with
   |[v0,v1,v2,v3,v4],_ =>
    simp only[Tryz.cells3,Tryz.cells57,Tryz.cells23] at g0 g1 g2 g3 g4;simp at g0 g1 g2 g3 g4;obtain⟨z0,e0,_,w0⟩:=DataW.trod_int Tryz.underlying3 g0;obtain⟨z1,e1,_,w1⟩:=DataW.trod_int Tryz.underlying3 g1;obtain⟨z2,e2,_,w2⟩:=DataW.trod_int Tryz.underlying3 g2;simp at e0 e1 e2;have hD':D i=.agg [y0.1,y1.1,y2.1,y3.1,y4.1]:=hD;have hmem:∀ y,y∈y3.1.weights Tryz.prog 57\/y∈y4.1.weights Tryz.prog 23->y<=reachBytes:=by
     intro y hy;refine hw y ?_;simp only[DataW.weights,Tryz.underlying39];refine Tf _ (List.mem_append_left _ (Lw (d:=D i) (List.mem_map.2 ⟨i,List.mem_range.2 hi,rfl⟩) ?_));rw[hD'];simp only[DataW.weights,Tryz.underlying100,List.map_cons,List.map_nil,DataW.weightsEach];rcases hy with hy|hy
     ·exact List.mem_append_right _ (List.mem_append_right _ (List.mem_append_right _ (List.mem_append_left _ hy)))
     ·exact List.mem_append_right _ (List.mem_append_right _ (List.mem_append_right _ (List.mem_append_right _ (List.mem_append_left _ hy))))
    obtain⟨ep,el,ec,ev,rfl,hev,hel,hcap⟩:=Pr (x:=y3) g3 (fun y hy=>hmem y (Or.inl hy));obtain⟨pp,pl,pc,F,CA,CC,rfl,hG,hpl,hcn⟩:=OD (x:=y4) g4 (fun y hy=>hmem y (Or.inr hy));have k0:=hcell 0 (by omega);have k1:=hcell 1 (by omega);have k2:=hcell 2 (by omega);have k3:=hcell 3 (by omega);have k4:=hcell 4 (by omega);rw[add_add] at k0 k1 k2 k3 k4;exact⟨⟨z0,z1,z2,ep,el,ec,ev,pp,pl,pc,F,CA,CC⟩,by simpa [e0] using k0,by simpa [e1] using k1,by simpa [e2] using k2,by simpa using k3,by simpa using k4,⟨FJ w0,FJ w1,FJ w2,hev,IS hel,hG,IS hpl,fun k hk=>IS (hcn k hk),hcap⟩⟩
  have inh:Inhabited DK:=⟨⟨0,0,0,none,0,0,fun _=>(0,0,0),none,0,0,fun _=>⟨0,0,0,fun _=>0,fun _=>0⟩,fun _=>none,fun _=>0⟩⟩
  obtain⟨q,hq⟩:=choose_lt (α:=DK) each;refine⟨some a,len,m,q,e,fun h1=>?_,Or.inr ⟨_,_,rfl,by simp⟩⟩;have h0:=(hq 0 (by omega)).1;obtain⟨hlt,hsp⟩:=FW h0;have hsp':a.spot=none:=by simpa [Addr.add] using hsp
  have hlt':a.block<w.heap.size:=by simpa [Addr.add] using hlt
  refine⟨a.block,a.off,by rw[<-EP hsp'],hlt',fun k hk=>?_⟩;obtain⟨c0,c1,c2,c3,c4,ok⟩:=hq k hk;rw[EP hsp',Addr.add_lit] at c0 c1 c2 c3 c4;exact⟨c0,c1,c2,c3,c4,ok⟩
end
def BO(m:Int)(e:Ev):Bool:=if e.k=1\/e.k=2 then decide (0<=e.n/\e.n<=m-1) else decide (e.k=3\/e.k=4)
def BL(m:Int):Int->List Ev->Bool
 |_,[]=>true
 |a,e::r=>!(decide (e.st<a))&&BO m e&&BL m e.st r
def BR(m:Int)(E:List Ev):Int:=if 200<E.length then 5 else if BL m 0 E=true then 0 else 5
theorem Qs{m:Nat}{e:Ev}(h:BO m e=true)(h0:0<=e.st):CY m e:=by
 unfold BO at h;split at h
 ·rename_i hk;simp at h;exact⟨h0,by omega,fun _=>by omega⟩
 ·rename_i hk;simp at h;exact⟨h0,by omega,fun _=>by omega⟩
theorem Jv{m:Nat}:∀ {E:List Ev} {a:Int},0<=a->BL m a E=true->Cv a E/\∀ e,e∈E->CY m e
 |[],_,_,_=>⟨trivial,fun e he=>by cases he⟩
 |e::r,a,h0,h=>by
  unfold BL at h;simp at h;obtain⟨⟨h1,h2⟩,h3⟩:=h;obtain⟨k1,k2⟩:=Jv (by omega) h3;refine⟨⟨h1,k1⟩,fun x hx=>?_⟩;rcases List.mem_cons.1 hx with rfl|hx
  ·exact Qs h2 (by omega)
  ·exact k2 x hx
theorem PA(e:Ev)(m:Int)(hm:0<=m/\m<=1000)(w:World) :
  Calls prog 66 #[.agg #[.int .i64 e.st,.int .i64 e.k,.int .i64 e.n],.int .i64 m] w fun r w'=>r=.returned (.bool (BO m e))/\Below w.heap.size w w':=by
 obtain⟨st,k,n⟩:=e;have HB:=Aa (show Below w.heap.size w (w.alloc (.cells #[.int .i64 st,.int .i64 k,.int .i64 n] 65)) from (Tu _ _).alloc (Te _) _);have e1:wrap64 (m-1)=m-1:=by unfold wrap64;omega
 unfold BO;dsimp only;by_cases h1:k=1
 ·subst h1;go_enter func66,ntmps66
  go_wp2_with (go_at_call 48;refine(Gu _ _ _ _).mono ?_;rintro e w' ⟨rfl,rfl⟩)
  go_ret;exact⟨by simp,HB.out⟩
 by_cases h2:k=2
 ·subst h2;go_enter func66,ntmps66
  go_wp2_with (go_at_call 48;refine(Gu _ _ _ _).mono ?_;rintro e w' ⟨rfl,rfl⟩)
  go_ret;exact⟨by simp,HB.out⟩
 by_cases h3:k=3
 ·subst h3;go_enter func66,ntmps66
  go_wp2;go_ret;exact⟨by simp,HB.out⟩
 by_cases h4:k=4
 ·subst h4;go_enter func66,ntmps66
  go_wp2;go_ret;exact⟨by simp,HB.out⟩
 have b1:(k==1)=false:=by simpa using h1
 have b2:(k==2)=false:=by simpa using h2
 have b3:(k==3)=false:=by simpa using h3
 have b4:(k==4)=false:=by simpa using h4
 go_enter func66,ntmps66
 go_wp2;go_ret;exact⟨by simp,HB.out⟩
theorem Ig(w:World)(v:Value)(E:List Ev)(hE:Bs w w.heap.size v E)(m:Int)(hm:0<=m/\m<=1000) :
  Calls prog 44 #[v,.int .i64 m] w fun r w'=>r=.returned (.int .i64 (BR m E))/\Below w.heap.size w w':=by
 obtain⟨p,c,rfl,hc,hcells⟩:=hE;have HM:=Aa hm;clear hm;unfold BR;by_cases h200:200<E.length
 ·rw[if_pos h200];have hd:decide ((200:Int)<(E.length:Int))=true:=by simp;omega
  clear hcells;generalize E.length=n at *;go_enter func44,ntmps44
  go_wp2;go_ret;exact⟨rfl,Tu _ _⟩
 ·rw[if_neg h200];have hd:decide ((200:Int)<(E.length:Int))=false:=by simp;omega
  have HC:=Aa hcells;clear hcells;obtain⟨R,hR⟩:∃ R,R=(if BL m 0 E=true then (0:Int) else 5):=⟨_,rfl⟩
  rw[<-hR];have HR:=Aa hR;clear hR;go_enter func44,ntmps44
  go_wp2;go_loopw [5,13] (fun a v wr=>∃ (k:Nat) (x:Int),k<=E.length/\v=.int .i64 k/\a=.int .i64 x/\BL m 0 E=BL m x (E.drop k)/\Below w.heap.size w wr) (fun _ v _=>E.length-(intOf v).toNat)
  case atStart=>exact⟨0,0,Tt _,rfl,rfl,rfl,Tu _ _⟩
  case round =>
   obtain⟨k,x,hk,rfl,rfl,hno,hB⟩:=hrel;by_cases hlt:k<E.length
   ·obtain⟨eb,eo,rfl,heb,hcs⟩:=HC.out (by intro e;rw[e] at hlt;simp at hlt);obtain⟨k0,k1,k2⟩:=hcs k hlt;have hdr:E.drop k=E.getD k ⟨0,0,0⟩::E.drop (k+1):=by
     rw[List.drop_eq_getElem_cons hlt,Tj,List.getElem?_eq_getElem hlt];rfl
    rw[hdr] at hno;generalize E.getD k ⟨0,0,0⟩=ev at *;have y0:wr.cell? ⟨eb,eo+k * 3,none⟩=some (.int .i64 ev.st):=(hB.cell (p:=⟨eb,eo+k * 3,none⟩) heb).trans k0;have y1:wr.cell? ⟨eb,eo+k * 3+1,none⟩=some (.int .i64 ev.k):=(hB.cell (p:=⟨eb,eo+k * 3+1,none⟩) heb).trans k1;have y2:wr.cell? ⟨eb,eo+k * 3+2,none⟩=some (.int .i64 ev.n):=(hB.cell (p:=⟨eb,eo+k * 3+2,none⟩) heb).trans k2;have hno':BL m 0 E=(!(decide (ev.st<x))&&BO m ev&&BL m ev.st (E.drop (k+1))):=hno;have Av:=hB.size;have HMB:=Aa (fun X=>PA ev m HM.out X);have HB1:=Aa (show Below w.heap.size w (wr.alloc (.cells #[.int .i64 ev.st,.int .i64 ev.k,.int .i64 ev.n] 65)) from hB.alloc Av _);have HB2:=Aa (show ∀ X,Below (wr.alloc (.cells #[.int .i64 ev.st,.int .i64 ev.k,.int .i64 ev.n] 65)).heap.size (wr.alloc (.cells #[.int .i64 ev.st,.int .i64 ev.k,.int .i64 ev.n] 65)) X->Below w.heap.size w X/\X.cell? ⟨wr.heap.size,0,none⟩=some (.int .i64 ev.st) from fun X hX=>⟨(hB.alloc Av _).trans (hX.mono (by simp;omega)),by
     rw[hX.cell (p:=⟨wr.heap.size,0,none⟩) (by simp)];go_simp⟩)
    have HNO:=Aa hno';clear hno hno' hB hdr k0 k1 k2 hcs;by_cases hst:ev.st<x
    ·have hd2:decide (ev.st<x)=true:=by simpa using hst
     rw[hd2] at HNO;have HV:Hid (R=5):=by unfold Hid;rw[HR.out,HNO.out];simp
     clear HNO HR;go_wp2;go_ret;exact⟨by rw[HV.out];rfl,HB1.out⟩
    ·have hd2:decide (ev.st<x)=false:=by simpa using hst
     rw[hd2] at HNO;cases hmb:BO m ev with
     |false =>
      rw[hmb] at HNO HMB;have HV:Hid (R=5):=by unfold Hid;rw[HR.out,HNO.out];simp
      clear HNO HR;go_wp2_with (go_at_call 66;refine(HMB.out _).mono ?_;rintro e w' ⟨rfl,hB'⟩;have HB3:=Aa (HB2.out _ hB');clear hB')
      go_ret;exact⟨by rw[HV.out];rfl,HB3.out.1⟩
     |true =>
      rw[hmb] at HNO HMB;have HV:Hid (BL m 0 E=BL m ev.st (E.drop (k+1))):=by unfold Hid;rw[HNO.out];simp
      clear HNO;go_wp2_with (go_at_call 66;refine(HMB.out _).mono ?_;rintro e w' ⟨rfl,hB'⟩;have HB3:=Aa (HB2.out _ hB');have y5:=HB3.out.2;clear hB')
      go_roundw
      case rel=>exact⟨k+1,ev.st,by omega,by go_num,rfl,HV.out,HB3.out.1⟩
      case measure=>simp[intOf];omega
   ·obtain rfl:k=E.length:=by omega
    have HV:Hid (R=0):=by unfold Hid;rw[HR.out,hno];simp[BL]
    have HB2:=Aa hB;clear hno hB;go_wp2;go_ret;exact⟨by rw[HV.out];rfl,HB2.out⟩
end Go.Proofs.YtkafkipjedpohaaGreatDoor

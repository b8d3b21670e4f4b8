import Derived.Test.YtkafkipjedpohaaGreatDoorM32
namespace Go.Proofs.YtkafkipjedpohaaGreatDoor
set_option maxRecDepth 100000
set_option maxHeartbeats 16000000
open Go.RowKit _root_.Go.Proofs.Tryz
theorem Qm(w:World)(B rb:Nat)(A:Ad)(s:Mc)(f:Fr)(rest:List Fr)(a:Int)(v:V)(st:List V)(hL:Al w B rb A s)(hs:s.fr=f::rest)(hst:f.stk=v::st)(hB:B<=w.heap.size)(hn:st.length<=60)(hr:rest.length<=60) :
  Calls prog 101 #[.pointer (some ⟨rb,0,none⟩),.agg #[.int .i64 20,.int .i64 a]] w fun e w'=>e=.returned (.int .i64 0)/\Br w w' B rb A {s with fr:={f with stk:=st}::rest}:=by
 obtain⟨fb,fcap,r1,hfv,hfz,hfb,hft⟩:=Ez hL hs;have hrb:=Ag.lt hL;have HL:=Aa hL;clear hL;generalize hk:rest.length=k at *;have Hk:=Aa hk;clear hk;go_enter func101,ntmps101
 go_wp2_with fail
 go_quiet (fail)
 go_wp2_with fail
 have hbX:Below w.heap.size w ((w.alloc (.cells #[.int .i64 20,.int .i64 a] 33)).drewN nq):=below_drewN ((Tu _ _).alloc (Te _) _) _;have HX:=Aa hbX;clear hbX;generalize (w.alloc (.cells #[.int .i64 20,.int .i64 a] 33)).drewN nq=X at *;have hpop:=C4 X B rb A s f rest v st (Al.below HL.out HX.out) hs hst (by have:=HX.out.size;omega) (by omega) (by rw[Hk.out];omega);have HP:=Aa hpop;clear hpop;refine HP.out.mono ?_;rintro e w5 ⟨rfl,A5,g1,g2,g3,g4,g5,g6,g7⟩;have hfin:Hid (Br w w5 B rb A {s with fr:={f with stk:=st}::rest}):=⟨A5,g1,g2,g3,(Ch.of_below HX.out).trans (g7.mono BY)⟩
 clear g1 g7;go_wp2_with fail
 go_ret;exact⟨rfl,hfin.out⟩
theorem SF(w:World)(B rb:Nat)(A:Ad)(s:Mc)(f:Fr)(rest:List Fr)(op a:Int)(hop:op=15\/op=16\/op=17\/op=18)(hL:Al w B rb A s)(hs:s.fr=f::rest)(hr:rest.length<=60)(R:Int->World->Prop)
  (hA:∀ X,Below w.heap.size w X->Calls prog 113 #[.pointer (some ⟨rb,0,none⟩),.int .i64 op] X fun e w'=>∃ t,e=.returned (.int .i64 t)/\R t w') :
  Calls prog 101 #[.pointer (some ⟨rb,0,none⟩),.agg #[.int .i64 op,.int .i64 a]] w fun e w'=>∃ t,e=.returned (.int .i64 t)/\R t w':=by
 obtain⟨fb,fcap,r1,hfv,hfz,hfb,hft⟩:=Ez hL hs;have hrb:=Ag.lt hL;have HA:=Aa hA;clear hL hA;generalize rest.length=k at *;go_enter func101,ntmps101
 rcases hop with rfl|rfl|rfl|rfl
 all_goals
  go_wp2_with fail
  go_quiet (fail)
  go_wp2_with fail
  refine(HA.out _ (below_drewN ((Tu _ _).alloc (Te _) _) _)).mono ?_;rintro e w5 ⟨t,rfl,hR⟩;have HR:=Aa hR;clear hR;go_wp2_with fail
  go_ret;exact⟨t,rfl,HR.out⟩
theorem Py(w:World)(B rb:Nat)(A:Ad)(s:Mc)(f:Fr)(rest:List Fr)(a:Int)(v:V)(st:List V)(hL:Al w B rb A s)(hs:s.fr=f::rest)(hst:f.stk=v::st)(hB:B<=w.heap.size)(hn:st.length<=60)(hr:rest.length<=60) :
  Calls prog 101 #[.pointer (some ⟨rb,0,none⟩),.agg #[.int .i64 21,.int .i64 a]] w fun e w'=>e=.returned (.int .i64 0)/\Br w w' B rb A {s with fr:={f with stk:=v::v::st}::rest}:=by
 obtain⟨fb,fcap,r1,hfv,hfz,hfb,hft⟩:=Ez hL hs;have hrb:=Ag.lt hL;have HL:=Aa hL;clear hL;generalize hk:rest.length=k at *;have Hk:=Aa hk;clear hk;go_enter func101,ntmps101
 go_wp2_with fail
 go_quiet (fail)
 go_wp2_with fail
 have hbX:Below w.heap.size w ((w.alloc (.cells #[.int .i64 21,.int .i64 a] 33)).drewN nq):=below_drewN ((Tu _ _).alloc (Te _) _) _;have HX:=Aa hbX;clear hbX;generalize (w.alloc (.cells #[.int .i64 21,.int .i64 a] 33)).drewN nq=X at *;have hpop:=C4 X B rb A s f rest v st (Al.below HL.out HX.out) hs hst (by have:=HX.out.size;omega) (by omega) (by rw[Hk.out];omega);have HP:=Aa hpop;clear hpop;refine HP.out.mono ?_;rintro e w0 ⟨rfl,A0,h0,p0,f0,_,_,_,ch0⟩;have HB0:=Aa (boxed v h0 p0 f0 (((Ch.of_below HX.out).trans (ch0.mono BY):Ch B Be A.tag A0.tag w w0)));clear h0 p0 f0 ch0 HP;have hbx0:=HB0.out.box0;have hbx1:=HB0.out.box1;go_wp2_with fail
 generalize w0.alloc (.cells #[.int .i64 v.k,.int .i64 v.n] 43)=W0 at *;generalize {A0 with tag:=Ac A0.tag w0.heap.size 5}=A0' at *;generalize w0.heap.size=bx at *;have hB0:B<=W0.heap.size:=by have:=HB0.out.ch.size;omega
 refine(Ea W0 B rb A0' {s with fr:={f with stk:=st}::rest} {f with stk:=st} rest v HB0.out.lay rfl hB0 (by show st.length<=64;omega) (by rw[Hk.out];omega)).mono ?_;rintro e w1 ⟨rfl,A1,h1,p1,f1,_,_,_,ch1⟩;have j0:=(ch1.box CU HB0.out.lt HB0.out.tag 0).trans HB0.out.box0;have j1:=(ch1.box CU HB0.out.lt HB0.out.tag 1).trans HB0.out.box1;have HL1:=Aa h1;have HC1:=Aa ch1;have hB1:B<=w1.heap.size:=by have:=ch1.size;omega
 clear h1 ch1;go_wp2_with fail
 refine(Ea w1 B rb A1 {s with fr:={f with stk:=v::st}::rest} {f with stk:=v::st} rest v HL1.out rfl hB1 (by simp;omega) (by rw[Hk.out];omega)).mono ?_;rintro e w2 ⟨rfl,A2,h2,p2,f2,_,_,_,ch2⟩;have hfin:Hid (Br w w2 B rb A {s with fr:={f with stk:=v::v::st}::rest}):=⟨A2,h2,p2.trans (p1.trans HB0.out.pv),f2.trans (f1.trans HB0.out.fv),(HB0.out.ch.trans (HC1.out.mono BY)).trans (ch2.mono BY)⟩
 clear h2 ch2;go_wp2_with fail
 go_ret;exact⟨rfl,hfin.out⟩
theorem RM(w:World)(B rb:Nat)(A:Ad)(s:Mc)(f:Fr)(rest:List Fr)(op a:Int)(y x:V)(st:List V)(hop:op=4\/op=5\/op=6\/op=7\/op=8\/op=9)(hL:Al w B rb A s)(hs:s.fr=f::rest)(hst:f.stk=x::y::st)(hB:B<=w.heap.size)(hn:st.length<=60)(hr:rest.length<=60) :
  Calls prog 101 #[.pointer (some ⟨rb,0,none⟩),.agg #[.int .i64 op,.int .i64 a]] w fun e w' =>
   ((AE op y x).2≠0->e=.returned (.int .i64 (AE op y x).2)/\Br w w' B rb A {s with fr:={f with stk:=st}::rest}) /\
   ((AE op y x).2=0->e=.returned (.int .i64 0)/\Br w w' B rb A {s with fr:={f with stk:=(AE op y x).1::st}::rest}):=by
 obtain⟨fb,fcap,r1,hfv,hfz,hfb,hft⟩:=Ez hL hs;have hrb:=Ag.lt hL;have HL:=Aa hL;have HO:=Aa hop;clear hL;generalize hk:rest.length=k at *;have Hk:=Aa hk;clear hk;have o1:¬op=0:=by omega
 have o2:¬op=1:=by omega
 have o3:¬op=12:=by omega
 have o4:¬op=2:=by omega
 have o5:¬op=3:=by omega
 have o6:¬op=19:=by omega
 have o7:¬op=20:=by omega
 have o8:¬op=21:=by omega
 have o9:¬op=15:=by omega
 have oa:¬op=16:=by omega
 have ob:¬op=17:=by omega
 have oc:¬op=18:=by omega
 clear hop;go_enter func101,ntmps101
 go_wp2_with fail
 go_quiet (fail)
 go_wp2_with fail
 have HBi:Hid (Al ((w.alloc (.cells #[.int .i64 op,.int .i64 a] 33)).drewN nq) B rb {A with tag:=Ac A.tag w.heap.size 5} s/\Ch B Be A.tag (Ac A.tag w.heap.size 5) w ((w.alloc (.cells #[.int .i64 op,.int .i64 a] 33)).drewN nq)) :=
  ⟨Al.below (Al.box HL.out _) (below_drewN (Tu _ _) _),Ch.of_tags (below_drewN ((Tu _ _).alloc (Te _) _) _) (fun b hb=>Ao _ _ _ _ (by omega))⟩
 have i0:((w.alloc (.cells #[.int .i64 op,.int .i64 a] 33)).drewN nq).cell? ⟨w.heap.size,0,none⟩=some (.int .i64 op):=BP w _ _ _ _ rfl;have iz:w.heap.size<((w.alloc (.cells #[.int .i64 op,.int .i64 a] 33)).drewN nq).heap.size:=by simp
 have it:Ac A.tag w.heap.size 5 w.heap.size=5:=Au _ _ _;generalize (w.alloc (.cells #[.int .i64 op,.int .i64 a] 33)).drewN nq=X at *;generalize hAi:({A with tag:=Ac A.tag w.heap.size 5}:Ad)=Ai at *;have hti:Ac A.tag w.heap.size 5=Ai.tag:=by rw[<-hAi]
 have hpi:Ai.pv=A.pv/\Ai.fv=A.fv:=by rw[<-hAi];exact⟨rfl,rfl⟩
 rw[hti] at HBi it;have HPi:=Aa hpi;clear hAi hti hpi;have hwB:B<=w.heap.size:=hB;generalize w.heap.size=ib at *;have hBX:B<=X.heap.size:=by omega
 have hpop:=C4 X B rb Ai s f rest x (y::st) HBi.out.1 hs hst hBX (by simp;omega) (by rw[Hk.out];omega);have HP:=Aa hpop;clear hpop;refine HP.out.mono ?_;rintro e w0 ⟨rfl,A0,h0,p0,f0,_,_,_,ch0⟩;have HB0:=Aa (boxed x h0 (p0.trans HPi.out.1) (f0.trans HPi.out.2) (HBi.out.2.trans (ch0.mono BY)));have i1:=(ch0.box CU iz it 0).trans i0;have iz1:ib<w0.heap.size:=by have:=ch0.size;omega
 have it1:Ac A0.tag w0.heap.size 5 ib=5:=by rw[Ao _ _ _ _ (by omega)];exact(ch0.tags ib iz).trans it
 have hbb0:Below w0.heap.size w0 (w0.alloc (.cells #[.int .i64 x.k,.int .i64 x.n] 43)):=(Tu _ _).alloc (Te _) _;have i2:=(hbb0.cell (p:=⟨ib,0,none⟩) iz1).trans i1;have HI:=Aa (Tc i2 (Tc iz1 it1));have hsz0:(w0.alloc (.cells #[.int .i64 x.k,.int .i64 x.n] 43)).heap.size=w0.heap.size+1:=by simp
 have HS0:=Aa hsz0;clear h0 p0 f0 ch0 HP HBi i0 i1 i2 iz it iz1 it1 hbb0 hsz0;go_wp2_with fail
 generalize w0.alloc (.cells #[.int .i64 x.k,.int .i64 x.n] 43)=W0 at *;generalize hA0:({A0 with tag:=Ac A0.tag w0.heap.size 5}:Ad)=A0' at HB0;have HA0:Hid (Ac A0.tag w0.heap.size 5=A0'.tag):=by unfold Hid;rw[<-hA0]
 clear hA0;generalize w0.heap.size=bx0 at *;have hB0:B<=W0.heap.size:=by rw[HS0.out];have:=HI.out.2.1;omega
 refine(C4 W0 B rb A0' {s with fr:={f with stk:=y::st}::rest} {f with stk:=y::st} rest y st HB0.out.lay rfl rfl hB0 (by omega) (by rw[Hk.out];omega)).mono ?_;rintro e w1 ⟨rfl,A1,h1,p1,f1,_,_,_,ch1⟩;have HB1:=Aa (boxed y h1 (p1.trans HB0.out.pv) (f1.trans HB0.out.fv) (HB0.out.ch.trans (ch1.mono BY)));have iz2:ib<W0.heap.size:=by rw[HS0.out];have:=HI.out.2.1;omega
 have q0:=(ch1.box CU iz2 (HA0.out ▸ HI.out.2.2) 0).trans HI.out.1;have q1:=(ch1.box CU HB0.out.lt HB0.out.tag 0).trans HB0.out.box0;have q2:=(ch1.box CU HB0.out.lt HB0.out.tag 1).trans HB0.out.box1;have hz1:ib<w1.heap.size:=by have:=ch1.size;omega
 have hz2:bx0<w1.heap.size:=by have:=ch1.size;have:=HB0.out.lt;omega
 clear h1 p1 f1 ch1;go_wp2_with fail
 generalize w1.alloc (.cells #[.int .i64 y.k,.int .i64 y.n] 43)=W1 at *;generalize {A1 with tag:=Ac A1.tag w1.heap.size 5}=A1' at *;generalize w1.heap.size=bx1 at *;refine(Qt op y x W1 HO.out).mono ?_;rintro e w2 ⟨rfl,hB2⟩;unfold ET;have HL2:=Aa (Al.below HB1.out.lay hB2);have HC2:Hid (Ch B Be A.tag A1'.tag w w2):=HB1.out.ch.trans' hB2;have hBw2:B<=w2.heap.size:=by have:=(Ag.own HL2.out).1;have:=Ag.lt HL2.out;omega
 have HPF:=Aa (Tc HB1.out.pv HB1.out.fv);clear hB2 HB1 HB0 q0 q1 q2;generalize htt:AE op y x=tt at *;have Htt:=Aa htt;clear htt;obtain⟨tv,tn⟩:=tt;by_cases ht:tn=0
 ·have hb:(tn != 0)=false:=by simpa using ht
  have HT:=Aa ht;have hpush:∀ Y,Below w2.heap.size w2 Y->Calls prog 111 #[.pointer (some ⟨rb,0,none⟩),.agg #[.int .i64 tv.k,.int .i64 tv.n]] Y fun e w'=>e=.returned (.tuple #[])/\Br w w' B rb A {s with fr:={f with stk:=tv::st}::rest}:=fun Y hY=>by
   refine(Ea Y B rb A1' {s with fr:={f with stk:=st}::rest} {f with stk:=st} rest tv (Al.below HL2.out hY) rfl (by have:=hY.size;omega) (by show st.length<=64;omega) (by rw[Hk.out];omega)).mono ?_;rintro e w' ⟨rfl,A5,g1,g2,g3,g4,g5,g6,g7⟩;exact⟨rfl,A5,g1,g2.trans HPF.out.1,g3.trans HPF.out.2,(HC2.out.trans' hY).trans (g7.mono BY)⟩
  have HPu:=Aa hpush;clear hpush ht;go_wp2_with fail
  refine(HPu.out _ (by repeat (first|exact Tu _ _|refine Below.drew ?_|refine Below.alloc ?_ (by first|omega|(simp;done)|(simp;omega)) _))).mono ?_;rintro e w5 ⟨rfl,hA5⟩;have HQ:=Aa hA5;clear hA5;go_wp2_with fail
  go_ret;rw[Htt.out];exact⟨fun h=>absurd HT.out h,fun _=>⟨rfl,HQ.out⟩⟩
 ·have hb:(tn != 0)=true:=by simpa using ht
  have HT:=Aa ht;clear ht;have hfin:∀ Y,Below w2.heap.size w2 Y->Br w Y B rb A {s with fr:={f with stk:=st}::rest}:=fun Y hY=>⟨A1',Al.below HL2.out hY,HPF.out.1,HPF.out.2,HC2.out.trans' hY⟩
  have HQ:=Aa hfin;clear hfin;go_wp2_with fail
  go_ret;rw[Htt.out];exact⟨fun _=>⟨rfl,HQ.out _ (by repeat (first|exact Tu _ _|refine Below.drew ?_|refine Below.alloc ?_ (by first|omega|(simp;done)|(simp;omega)) _))⟩,fun h=>absurd h HT.out⟩
theorem Ng(w:World)(B rb:Nat)(A:Ad)(s:Mc)(f:Fr)(rest:List Fr)(a:Int)(ha0:0<=a)(ha1:a<f.loc.length)(hl:f.loc.length<=64)(hL:Al w B rb A s)(hs:s.fr=f::rest)(_hB:B<=w.heap.size)(hn:f.stk.length<=60)(hr:rest.length<=60) :
  Calls prog 101 #[.pointer (some ⟨rb,0,none⟩),.agg #[.int .i64 2,.int .i64 a]] w fun e w'=>e=.returned (.int .i64 0)/\Br w w' B rb A {s with fr:={f with stk:=f.loc.getD a.toNat As::f.stk}::rest}:=by
 obtain⟨fb,fcap,r1,hfv,hfz,hfb,hft⟩:=Ez hL hs;have hrb:=Ag.lt hL;have hloc:=Ag.loc hL rest.length (by rw[hs];simp);have e0:Am s.fr rest.length=f:=by rw[hs];exact Bg _ _
 rw[e0] at hloc;obtain⟨lb,lcap,hlv,hlb,hlz,hlt,hlc⟩:=hloc.form (by omega);rw[hlv] at hloc;have hfr:=Ag.fr hL;have hfl:s.fr.length=rest.length+1:=by rw[hs];rfl
 rw[hfl,hfv] at hfr;have c2:=hfr.cell (i:=rest.length * 4+2) (by omega);rw[Gb,hlv] at c2;have x0:=hloc.cell (i:=a.toNat * 2) (by omega);have x1:=hloc.cell (i:=a.toNat * 2+1) (by omega);have g0:Ar f.loc (a.toNat * 2)=.int .i64 (f.loc.getD a.toNat As).k:=by
  unfold Ar;rw[if_pos (by omega),show a.toNat * 2 / 2=a.toNat by omega]
 have g1:Ar f.loc (a.toNat * 2+1)=.int .i64 (f.loc.getD a.toNat As).n:=by
  unfold Ar;rw[if_neg (by omega),show (a.toNat * 2+1) / 2=a.toNat by omega]
 rw[g0] at x0;rw[g1] at x1;have HL:=Aa hL;clear hL hfr hloc e0 hfl g0 g1;generalize hvv:f.loc.getD a.toNat As=vv at *;generalize hk:rest.length=k at *;have Hk:=Aa hk;clear hk;clear hvv;generalize f.loc.length=ln at *;go_enter func101,ntmps101
 go_wp2_with fail
 go_quiet (fail)
 go_wp2_with fail
 have HBi:Hid (Al ((w.alloc (.cells #[.int .i64 2,.int .i64 a] 33)).drewN nq) B rb {A with tag:=Ac A.tag w.heap.size 5} s/\Ch B Be A.tag (Ac A.tag w.heap.size 5) w ((w.alloc (.cells #[.int .i64 2,.int .i64 a] 33)).drewN nq)) :=
  ⟨Al.below (Al.box HL.out _) (below_drewN (Tu _ _) _),Ch.of_tags (below_drewN ((Tu _ _).alloc (Te _) _) _) (fun b hb=>Ao _ _ _ _ (by omega))⟩
 have hbX:Below w.heap.size w ((w.alloc (.cells #[.int .i64 2,.int .i64 a] 33)).drewN nq):=below_drewN ((Tu _ _).alloc (Te _) _) _;have i1:((w.alloc (.cells #[.int .i64 2,.int .i64 a] 33)).drewN nq).cell? ⟨w.heap.size,1,none⟩=some (.int .i64 a):=BP w _ _ _ _ rfl;have iz:w.heap.size<((w.alloc (.cells #[.int .i64 2,.int .i64 a] 33)).drewN nq).heap.size:=by simp
 have y2:=(hbX.cell (p:=⟨fb,k * 4+2,none⟩) hfz).trans c2;have y0:=(hbX.cell (p:=⟨lb,a.toNat * 2,none⟩) hlz).trans x0;have y1:=(hbX.cell (p:=⟨lb,a.toNat * 2+1,none⟩) hlz).trans x1;have it:Ac A.tag w.heap.size 5 w.heap.size=5:=Au _ _ _;have hlz2:lb<((w.alloc (.cells #[.int .i64 2,.int .i64 a] 33)).drewN nq).heap.size:=by simp;omega
 have hlt2:Ac A.tag w.heap.size 5 lb=10+3 * k:=by rw[Ao _ _ _ _ (by omega)];exact hlt
 have HLV:Hid (A.LV k=.slice (some ⟨lb,0,none⟩) ln lcap/\A.fv=.slice (some ⟨fb,0,none⟩) (k+1) fcap):=⟨hlv,hfv⟩
 clear hbX c2 x0 x1 r1 hlt;generalize (w.alloc (.cells #[.int .i64 2,.int .i64 a] 33)).drewN nq=X at *;have hBX:B<=X.heap.size:=by omega
 have hpush:∀ Y,Below X.heap.size X Y->Calls prog 111 #[.pointer (some ⟨rb,0,none⟩),.agg #[.int .i64 vv.k,.int .i64 vv.n]] Y fun e w'=>e=.returned (.tuple #[])/\Br w w' B rb A {s with fr:={f with stk:=vv::f.stk}::rest} /\
   w'.cell? ⟨fb,k * 4+2,none⟩=some (.slice (some ⟨lb,0,none⟩) ln lcap)/\w'.cell? ⟨w.heap.size,1,none⟩=some (.int .i64 a)/\w'.cell? ⟨lb,a.toNat * 2,none⟩=some (.int .i64 vv.k)/\w'.cell? ⟨lb,a.toNat * 2+1,none⟩=some (.int .i64 vv.n):=fun Y hY=>by
  refine(Ea Y B rb {A with tag:=Ac A.tag w.heap.size 5} s f rest vv (Al.below HBi.out.1 hY) hs (by have:=hY.size;omega) (by omega) (by rw[Hk.out];omega)).mono ?_;rintro e w' ⟨rfl,A5,g1,g2,g3,g4,g5,g6,g7⟩;have hno:¬(Ac A.tag w.heap.size 5 lb=1\/Ac A.tag w.heap.size 5 lb=11+3 * rest.length):=by rw[hlt2];omega
  have hch:=(Ch.of_below (B:=B) (p:=fun c=>c=1\/c=11+3 * rest.length) hY).trans g7;refine⟨rfl,⟨A5,g1,g2,g3,HBi.out.2.trans (hch.mono BY)⟩,?_,(hch.box CU iz it 1).trans i1,(hch.cell (a:=⟨lb,_,none⟩) hlz2 hno).trans y0,(hch.cell (a:=⟨lb,_,none⟩) hlz2 hno).trans y1⟩;have hfr:=Ag.fr g1;rw[g3] at hfr;have e2:({A with tag:=Ac A.tag w.heap.size 5}:Ad).fv=.slice (some ⟨fb,0,none⟩) (k+1) fcap:=HLV.out.2;rw[e2,Tn,Hk.out] at hfr;have c:=hfr.cell (i:=k * 4+2) (by omega);rw[Gb,g6] at c;exact c.trans (congrArg some HLV.out.1)
 have HPu:=Aa hpush;clear hpush;have hia:a.toNat<ln:=by omega
 go_region_held3 (fun w'=>w'.cell? ⟨fb,k * 4+2,none⟩=some (.slice (some ⟨lb,0,none⟩) ln lcap)/\w'.cell? ⟨w.heap.size,1,none⟩=some (.int .i64 a)/\w'.cell? ⟨lb,a.toNat * 2,none⟩=some (.int .i64 vv.k)/\w'.cell? ⟨lb,a.toNat * 2+1,none⟩=some (.int .i64 vv.n)) (go_keep)
  ((go_at_call 111;refine(HPu.out _ ?_).mono ?_;exact(by repeat (first|exact Tu _ _|refine Below.drew ?_));rintro e w5 ⟨rfl,hA5,q0,q1,q2,q3⟩))
 rename_i hheld;have HQ:=Aa hA5;clear hheld hA5 q0 q1 q2 q3;go_wp2;go_ret;exact⟨rfl,HQ.out⟩
theorem Al.locset{w:World}{B rb:Nat}{A:Ad}{s:Mc}{f:Fr}{rest:List Fr}(h:Al w B rb A s)(hs:s.fr=f::rest){i lb cap:Nat}(hv:A.LV rest.length=.slice (some ⟨lb,0,none⟩) f.loc.length cap)(hi:i<f.loc.length)(v:V) :
  Al ((w.setCell ⟨lb,i * 2,none⟩ (.int .i64 v.k)).setCell ⟨lb,i * 2+1,none⟩ (.int .i64 v.n)) B rb A {s with fr:={f with loc:=f.loc.set i v}::rest} /\
   Ch B (fun c=>c=10+3 * rest.length) A.tag A.tag w ((w.setCell ⟨lb,i * 2,none⟩ (.int .i64 v.k)).setCell ⟨lb,i * 2+1,none⟩ (.int .i64 v.n)):=by
 have hfl:s.fr.length=rest.length+1:=by rw[hs];rfl
 have hrow:=Ag.loc h rest.length (by omega);rw[hs,Bg,hv] at hrow;obtain⟨b',cap',hb',hB,hlt,ht,_⟩:=hrow.form (by omega);injection hb' with e1 e2 e3;injection e1 with e1;injection e1 with e1 e4;subst e1;have hch:Ch B (fun c=>c=10+3 * rest.length) A.tag A.tag w ((w.setCell ⟨lb,i * 2,none⟩ (.int .i64 v.k)).setCell ⟨lb,i * 2+1,none⟩ (.int .i64 v.n)) :=
  ((Ch.refl B _ A.tag w).setOld (a:=⟨lb,_,none⟩) hB (fun _=>ht) _).setOld (a:=⟨lb,_,none⟩) hB (fun _=>ht) _
 have hfa:∀ j,j<rest.length+1->(Am ({f with loc:=f.loc.set i v}::rest) j).fn=(Am s.fr j).fn/\(Am ({f with loc:=f.loc.set i v}::rest) j).pc=(Am s.fr j).pc/\(Am ({f with loc:=f.loc.set i v}::rest) j).stk=(Am s.fr j).stk:=by
  intro j hj;rw[hs];by_cases e:j=rest.length
  ·subst e;rw[Bg,Bg];exact⟨rfl,rfl,rfl⟩
  ·rw[B9 _ _ _ (by omega),B9 _ _ _ (by omega)];exact⟨rfl,rfl,rfl⟩
 refine⟨⟨?_,h.own,?_,h.ar.keep hch (by omega),h.out.keep hch (by omega),h.hi.keep hch (by omega),fun j hj=>?_,fun j hj=>?_,fun k hk=>(h.arr k hk).keep hch (by omega)⟩,hch⟩
 ·exact(hch.block rb (Ag.lt h) (Or.inr (by rw[h.own.2];omega))).trans h.run
 ·have hf:=h.fr;rw[hfl] at hf;refine(hf.keep hch (by omega)).congr fun c hc=>?_
  obtain⟨a1,a2,_⟩:=hfa (c / 4) (by omega);show BG s.fr A.LV A.SV c=BG ({f with loc:=f.loc.set i v}::rest) A.LV A.SV c;unfold BG;rw[a1,a2]
 ·have hj':j<rest.length+1:=hj;show Ae _ B A.tag _ _ 2 (A.LV j) (Am ({f with loc:=f.loc.set i v}::rest) j).loc.length (Ar (Am ({f with loc:=f.loc.set i v}::rest) j).loc);by_cases e:j=rest.length
  ·subst e;rw[Bg,List.length_set,hv];exact((hrow.set (i * 2) _).set (i * 2+1) _).congr (fun c _=>Hj _ _ _ hi c)
  ·rw[B9 _ _ _ (by omega)];have h2:=h.loc j (by omega);rw[hs,B9 _ _ _ (by omega)] at h2;exact h2.keep hch (by omega)
 ·have hj':j<rest.length+1:=hj;obtain⟨_,_,a3⟩:=hfa j hj';show Ae _ B A.tag _ _ 2 (A.SV j) (Am ({f with loc:=f.loc.set i v}::rest) j).stk.length (Ar (Am ({f with loc:=f.loc.set i v}::rest) j).stk.reverse);rw[a3];exact(h.stk j (by omega)).keep hch (by omega)
theorem MS(w:World)(B rb:Nat)(A:Ad)(s:Mc)(f:Fr)(rest:List Fr)(a:Int)(v:V)(st:List V)(ha0:0<=a)(ha1:a<f.loc.length)(hl:f.loc.length<=64)(hL:Al w B rb A s)(hs:s.fr=f::rest)(hst:f.stk=v::st)(_hB:B<=w.heap.size)(hn:st.length<=60)(hr:rest.length<=60) :
  Calls prog 101 #[.pointer (some ⟨rb,0,none⟩),.agg #[.int .i64 3,.int .i64 a]] w fun e w'=>e=.returned (.int .i64 0)/\Br w w' B rb A {s with fr:={f with stk:=st,loc:=f.loc.set a.toNat v}::rest}:=by
 obtain⟨fb,fcap,r1,hfv,hfz,hfb,hft⟩:=Ez hL hs;have hrb:=Ag.lt hL;have HL:=Aa hL;clear hL;generalize hk:rest.length=k at *;have Hk:=Aa hk;clear hk;go_enter func101,ntmps101
 go_wp2_with fail
 go_quiet (fail)
 go_wp2_with fail
 have HBi:Hid (Al ((w.alloc (.cells #[.int .i64 3,.int .i64 a] 33)).drewN nq) B rb {A with tag:=Ac A.tag w.heap.size 5} s/\Ch B Be A.tag (Ac A.tag w.heap.size 5) w ((w.alloc (.cells #[.int .i64 3,.int .i64 a] 33)).drewN nq)) :=
  ⟨Al.below (Al.box HL.out _) (below_drewN (Tu _ _) _),Ch.of_tags (below_drewN ((Tu _ _).alloc (Te _) _) _) (fun b hb=>Ao _ _ _ _ (by omega))⟩
 have i0:((w.alloc (.cells #[.int .i64 3,.int .i64 a] 33)).drewN nq).cell? ⟨w.heap.size,1,none⟩=some (.int .i64 a):=BP w _ _ _ _ rfl;have iz:w.heap.size<((w.alloc (.cells #[.int .i64 3,.int .i64 a] 33)).drewN nq).heap.size:=by simp
 have it:Ac A.tag w.heap.size 5 w.heap.size=5:=Au _ _ _;generalize (w.alloc (.cells #[.int .i64 3,.int .i64 a] 33)).drewN nq=X at *;have hBX:B<=X.heap.size:=by omega
 have hpop:=C4 X B rb {A with tag:=Ac A.tag w.heap.size 5} s f rest v st HBi.out.1 hs hst hBX (by omega) (by rw[Hk.out];omega);have HP:=Aa hpop;clear hpop r1;refine HP.out.mono ?_;rintro e w0 ⟨rfl,A0,h0,p0,f0,_,_,_,ch0⟩;have h0':Al w0 B rb A0 {s with fr:={f with stk:=st}::rest}:=h0;have i1:=(ch0.box CU iz it 1).trans i0;have iz1:w.heap.size<w0.heap.size:=by have:=ch0.size;omega
 have it1:A0.tag w.heap.size=5:=(ch0.tags w.heap.size iz).trans it;have hloc:=Ag.loc h0 k (by rw[<-Hk.out];simp);have e0:Am ({s with fr:={f with stk:=st}::rest}:Mc).fr k={f with stk:=st}:=by rw[<-Hk.out];exact Bg _ _
 rw[e0] at hloc;obtain⟨lb,lcap,hlv,hlb,hlz,hlt,hlc⟩:=hloc.form (by show 1<=f.loc.length;omega);rw[hlv] at hloc;have hfr:=Ag.fr h0;rw[f0,Tn,Hk.out] at hfr;have e2:({A with tag:=Ac A.tag w.heap.size 5}:Ad).fv=.slice (some ⟨fb,0,none⟩) (k+1) fcap:=hfv;rw[e2] at hfr;have c2:=hfr.cell (i:=k * 4+2) (by omega);rw[Gb,hlv] at c2;have x0:=hloc.cell (i:=a.toNat * 2) (by show a.toNat * 2<f.loc.length * 2;omega);have x1:=hloc.cell (i:=a.toNat * 2+1) (by show a.toNat * 2+1<f.loc.length * 2;omega);have z0:=hloc.frozen (a.toNat * 2);have z1:=hloc.frozen (a.toNat * 2+1);have hfz0:fb<w0.heap.size:=by have:=ch0.size;omega
 have hW:=Al.box h0 (.cells #[.int .i64 v.k,.int .i64 v.n] 43);have hset:=Al.locset hW rfl (i:=a.toNat) (lb:=lb) (cap:=lcap) (by rw[Hk.out];exact hlv) (by show a.toNat<f.loc.length;omega) v;have HSet:=Aa hset;clear hW;have HF:=Aa (Tc p0 (Tc f0 (HBi.out.2.trans (ch0.mono BY))));have e3:¬lb=fb:=by intro e;rw[e,show A0.tag fb=1 from (ch0.tags fb (by omega)).trans (by show Ac A.tag w.heap.size 5 fb=1;rw[Ao _ _ _ _ (by omega)];exact hft)] at hlt;omega
 have e4:¬lb=w.heap.size:=by intro e;rw[e,it1] at hlt;omega
 have e3':¬fb=lb:=fun e=>e3 e.symm
 have e4':¬w.heap.size=lb:=fun e=>e4 e.symm
 have e5:¬lb=w0.heap.size:=by omega
 have e5':¬w0.heap.size=lb:=by omega
 clear hset hfr hloc e0 e2 h0 h0' ch0 p0 f0 hlv hlt i0 iz it it1 HP HBi;generalize Ar ({f with stk:=st}:Fr).loc (a.toNat * 2)=o0 at *;generalize Ar ({f with stk:=st}:Fr).loc (a.toNat * 2+1)=o1 at *;have hll:a<(f.loc.length:Int):=ha1;go_wp2;have hbw:Below w0.heap.size w0 (w0.alloc (.cells #[.int .i64 v.k,.int .i64 v.n] 43)):=(Tu _ _).alloc (Te _) _;have u2:=(hbw.cell (p:=⟨fb,k * 4+2,none⟩) hfz0).trans c2;have u1:=(hbw.cell (p:=⟨w.heap.size,1,none⟩) iz1).trans i1;have u3:(w0.alloc (.cells #[.int .i64 v.k,.int .i64 v.n] 43)).cell? ⟨w0.heap.size,0,none⟩=some (.int .i64 v.k):=BP w0 _ _ _ _ rfl;have u4:(w0.alloc (.cells #[.int .i64 v.k,.int .i64 v.n] 43)).cell? ⟨w0.heap.size,1,none⟩=some (.int .i64 v.n):=BP w0 _ _ _ _ rfl;have u5:=(hbw.cell (p:=⟨lb,a.toNat * 2,none⟩) hlz).trans x0;have u6:=(hbw.cell (p:=⟨lb,a.toNat * 2+1,none⟩) hlz).trans x1;have u7:=(hbw.frozen (p:=⟨lb,a.toNat * 2,none⟩) hlz).trans z0;have u8:=(hbw.frozen (p:=⟨lb,a.toNat * 2+1,none⟩) hlz).trans z1;have HQ:Hid (Br w (((w0.alloc (.cells #[.int .i64 v.k,.int .i64 v.n] 43)).setCell ⟨lb,a.toNat * 2,none⟩ (.int .i64 v.k)).setCell ⟨lb,a.toNat * 2+1,none⟩ (.int .i64 v.n)).drew B rb A {s with fr:={f with stk:=st,loc:=f.loc.set a.toNat v}::rest}) :=
  ⟨_,Al.below HSet.out.1 ((Tu _ _).drew),HF.out.1,HF.out.2.1,((HF.out.2.2.trans (Ch.of_tags hbw (fun b hb=>Ao _ _ _ _ (by omega)))).trans (HSet.out.2.mono (fun c hc=>by intro h;omega))).drew⟩
 clear hbw x0 x1 z0 z1 c2 i1 HSet HF;generalize f.loc.length=ln at *;generalize w0.alloc (.cells #[.int .i64 v.k,.int .i64 v.n] 43)=W at *;generalize w0.heap.size=bx at *;go_region_held3 (fun w'=>w'.cell? ⟨fb,k * 4+2,none⟩=some (.slice (some ⟨lb,0,none⟩) ln lcap)/\w'.cell? ⟨w.heap.size,1,none⟩=some (.int .i64 a)/\w'.cell? ⟨bx,0,none⟩=some (.int .i64 v.k)/\w'.cell? ⟨bx,1,none⟩=some (.int .i64 v.n)) (go_keep) (fail)
 rename_i hheld;clear hheld;go_wp2;go_ret;exact⟨rfl,HQ.out⟩
theorem Al.outgrew{w w6:World}{B rb:Nat}{A:Ad}{s:Mc}(h:Al w B rb A s){v:V}{g cap:Nat}
  (hown:w6.ownsRow B 43 2 (.slice (some ⟨g,0,none⟩) (s.out.length+1) cap) (s.out.length+1) (List.map (Ar s.out) (List.range (s.out.length * 2))++[.int .i64 v.k,.int .i64 v.n]))
  (hgrow:(w.alloc (.cells #[.int .i64 v.k,.int .i64 v.n] 43)).drew.grownBy w6 A.ov.ownBlock) (hat:A.ov.ownBlock=some g\/g=w.heap.size+1) :
  ∃ A7,Al (w6.setCell ⟨rb,3,none⟩ (.slice (some ⟨g,0,none⟩) (s.out.length+1) cap)) B rb A7 {s with out:=s.out++[v]}/\A7.pv=A.pv/\A7.fv=A.fv/\Ch B Be A.tag A7.tag w (w6.setCell ⟨rb,3,none⟩ (.slice (some ⟨g,0,none⟩) (s.out.length+1) cap)):=by
 have hrb:=Ag.lt h;have hbX:Below w.heap.size w (w.alloc (.cells #[.int .i64 v.k,.int .i64 v.n] 43)).drew:=((Tu _ _).alloc (Te _) _).drew;have hcX:Ch B (fun _=>False) A.tag A.tag w (w.alloc (.cells #[.int .i64 v.k,.int .i64 v.n] 43)).drew:=Ch.of_below hbX;have hszX:(w.alloc (.cells #[.int .i64 v.k,.int .i64 v.n] 43)).drew.heap.size=w.heap.size+1:=by simp
 generalize (w.alloc (.cells #[.int .i64 v.k,.int .i64 v.n] 43)).drew=X at *;obtain⟨tag',hout,hgc⟩:=(h.out.keep hcX (fun h=>h)).grew hown hgrow (by rcases hat with h|h;exact Or.inl h;right;rw[h,hszX]) rfl;have hc6:Ch B (fun c=>c=0\/c=3) A.tag tag' w w6:=(hcX.mono (fun _ h=>h.elim)).trans (hgc.mono (fun _ h=>Or.inr h));have htr:tag' rb=0:=(hc6.tags rb hrb).trans h.own.2;have hcs:Ch B (fun c=>c=0) tag' tag' w6 (w6.setCell ⟨rb,3,none⟩ (.slice (some ⟨g,0,none⟩) (s.out.length+1) cap)):=Ch.set w6 rb _ _ h.own.1 htr;have hc7:=hc6.trans (hcs.mono (fun _ h=>Or.inl h));have hrun6:w6.heap[rb]?=some (.cells (CQ A.pv A.fv A.av A.ov A.hv s) 155 (0,0)) :=
  (hgc.block rb (by rw[hszX];omega) (Or.inr (by rw[h.own.2];omega))).trans ((hcX.block rb hrb (Or.inr (fun h=>h))).trans h.run)
 refine⟨{A with tag:=tag',ov:=.slice (some ⟨g,0,none⟩) (s.out.length+1) cap},⟨CD hrun6 _,⟨h.own.1,(hc7.tags rb hrb).trans h.own.2⟩,h.fr.keep hc7 (by omega),h.ar.keep hc7 (by omega),?_,h.hi.keep hc7 (by omega),fun i hi=>(h.loc i hi).keep hc7 (by omega),fun i hi=>(h.stk i hi).keep hc7 (by omega),fun j hj=>(h.arr j hj).keep hc7 (by omega)⟩,rfl,rfl,hc7.mono (fun c hc=>by intro h;omega)⟩;show Ae _ B tag' 3 _ 2 _ (s.out++[v]).length _;rw[List.length_append];exact(hout.keep hcs (by omega)).congr (fun i hi=>Hg _ _ i hi)
theorem R3(w:World)(B rb:Nat)(A:Ad)(s:Mc)(f:Fr)(rest:List Fr)(a:Int)(v:V)(st:List V)(hL:Al w B rb A s)(hs:s.fr=f::rest)(hst:f.stk=v::st)(_hB:B<=w.heap.size)(hn:st.length<=60)(hr:rest.length<=60)(ho:s.out.length<=150000) :
  Calls prog 101 #[.pointer (some ⟨rb,0,none⟩),.agg #[.int .i64 19,.int .i64 a]] w fun e w'=>e=.returned (.int .i64 0)/\Br w w' B rb A {s with fr:={f with stk:=st}::rest,out:=s.out++[v]}:=by
 obtain⟨fb,fcap,r1,hfv,hfz,hfb,hft⟩:=Ez hL hs;have hrb:=Ag.lt hL;have HL:=Aa hL;clear hL;generalize hk:rest.length=k at *;have Hk:=Aa hk;clear hk;go_enter func101,ntmps101
 go_wp2_with fail
 go_quiet (fail)
 go_wp2_with fail
 have hbX:Below w.heap.size w ((w.alloc (.cells #[.int .i64 19,.int .i64 a] 33)).drewN nq):=below_drewN ((Tu _ _).alloc (Te _) _) _;have HX:=Aa hbX;clear hbX;generalize (w.alloc (.cells #[.int .i64 19,.int .i64 a] 33)).drewN nq=X at *;have hpop:=C4 X B rb A s f rest v st (Al.below HL.out HX.out) hs hst (by have:=HX.out.size;omega) (by omega) (by rw[Hk.out];omega);have HP:=Aa hpop;clear hpop r1;refine HP.out.mono ?_;rintro e w0 ⟨rfl,A0,h0,p0,f0,_,_,_,ch0⟩;have HB0:=Aa (boxed v h0 p0 f0 (((Ch.of_below HX.out).trans (ch0.mono BY):Ch B Be A.tag A0.tag w w0)));have hov:w0.cell? ⟨rb,3,none⟩=some A0.ov:=Ag.cell h0 3;have hrb0:=Ag.lt h0;clear h0 p0 f0 ch0 HP;go_wp2;generalize hW:w0.alloc (.cells #[.int .i64 v.k,.int .i64 v.n] 43)=W at *;clear hov;have r3:W.cell? ⟨rb,3,none⟩=some A0.ov:=Ag.cell HB0.out.lay 3;generalize hA0:({A0 with tag:=Ac A0.tag w0.heap.size 5}:Ad)=A0' at *;have hov:A0.ov=A0'.ov:=by rw[<-hA0]
 rw[hov] at r3;clear hov hA0 hW;generalize w0.heap.size=bx at *;have HR:Hid (Ae W B A0'.tag 3 43 2 A0'.ov s.out.length (Ar s.out)):=by
  have h:=Ag.out HB0.out.lay;exact h
 have hrbW:=Ag.lt HB0.out.lay;have hbxW:=HB0.out.lt;have hBW:B<=W.heap.size:=by have:=(Ag.own HB0.out.lay).1;omega
 have b0:=HB0.out.box0;have b1:=HB0.out.box1;have z3:=Ag.frozen HB0.out.lay 3;have HZ:=Aa z3;have hne1:some rb≠A0'.ov.ownBlock:=HR.out.other (by rw[(Ag.own HB0.out.lay).2];omega);have hne2:some bx≠A0'.ov.ownBlock:=HR.out.other (by rw[HB0.out.tag];omega);clear z3;obtain⟨inf,hi,hz0,hz1,hz2⟩:∃ i,prog.info? 43=some i/\i.zero=some (.agg #[.int .i64 0,.int .i64 0])/\i.size=2/\i.bytes=16:=by
  obtain⟨i,hi,hzz⟩:=Tp.1 Tryz.info43;simp only[Prod.mk.injEq] at hzz;exact⟨i,hi,hzz.1,hzz.2.1,hzz.2.2⟩
 go_region_law
  ((refine step_append_lies _ (by rfl) _ _ _ (by rfl) B 43 inf _ 2 16 underlying44 hi hz0 hz1 hz2 rfl (by decide) A0'.ov s.out.length _ (by rfl) (by exact(HR.out.owns.drew).alloc _) ⟨W.heap.size,0,none⟩ 1 1 [.int .i64 v.k,.int .i64 v.n] (by rfl) (by rfl) (by exact World.news_of_block (Tv W.drew _)) (by intro u hu;simp at hu;rcases hu with rfl|rfl<;>rfl) (by omega) (by unfold maxLen;omega) (by omega) (by simp;omega) (W.heap.size+1) (by simp) ?_;intro g cap w1 hown1 hgrow hat hlt;have q0:=(DU hgrow (a:=⟨rb,3,none⟩) hrbW hne1).trans r3;have q1:=(DU hgrow (a:=⟨bx,0,none⟩) hbxW hne2).trans b0;have q2:=(DU hgrow (a:=⟨bx,1,none⟩) hbxW hne2).trans b1;have q3:=(G3 hgrow (a:=⟨rb,3,none⟩) hrbW hne1).trans HZ.out))
 all_goals
  have hfin:=Al.outgrew (s:={s with fr:={f with stk:=st}::rest}) (v:=v) HB0.out.lay hown1 hgrow hat;have HQ:=Aa hfin;clear hfin hown1 hgrow q0 q1 q2 q3;go_wp2;go_ret;obtain⟨A7,g1,g2,g3,g4⟩:=HQ.out;exact⟨rfl,A7,g1,g2.trans HB0.out.pv,g3.trans HB0.out.fv,HB0.out.ch.trans g4⟩
end Go.Proofs.YtkafkipjedpohaaGreatDoor

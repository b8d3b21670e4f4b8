import Derived.Test.YtkafkipjedpohaaGreatDoorR5
namespace Go.Proofs.YtkafkipjedpohaaGreatDoor
set_option maxRecDepth 100000
set_option maxHeartbeats 16000000
open Go.RowKit _root_.Go.Proofs.Tryz
theorem Hj(l:List V)(i:Nat)(v:V)(hi:i<l.length)(c:Nat):Ac (Ac (Ar l) (i * 2) (.int .i64 v.k)) (i * 2+1) (.int .i64 v.n) c=Ar (l.set i v) c:=by
 unfold Ac Ar;by_cases e1:c=i * 2+1
 ·rw[if_pos e1,if_neg (by omega),show c / 2=i by omega];simp[List.getD_eq_getElem?_getD,hi]
 ·rw[if_neg e1];by_cases e0:c=i * 2
  ·rw[if_pos e0,if_pos (by omega),show c / 2=i by omega];simp[List.getD_eq_getElem?_getD,hi]
  ·rw[if_neg e0];have hne:i≠c / 2:=by omega
   simp[List.getD_eq_getElem?_getD,List.getElem?_set_ne hne]
theorem Mu(arr:List (List V))(j:Nat)(l:List V)(hj:j<arr.length):(arr.set j l).getD j []=l:=by
 simp[List.getD_eq_getElem?_getD,hj]
theorem KM(arr:List (List V))(i j:Nat)(l:List V)(h:j≠i):(arr.set i l).getD j []=arr.getD j []:=by
 simp[List.getD_eq_getElem?_getD,List.getElem?_set_ne (Ne.symm h)]
theorem Al.arrset{w:World}{B rb:Nat}{A:Ad}{s:Mc}(h:Al w B rb A s){j i xb cap:Nat}(hj:j<s.arr.length)(hv:A.AV j=.slice (some ⟨xb,0,none⟩) (s.arr.getD j []).length cap)(hi:i<(s.arr.getD j []).length)(v:V) :
  Al ((w.setCell ⟨xb,i * 2,none⟩ (.int .i64 v.k)).setCell ⟨xb,i * 2+1,none⟩ (.int .i64 v.n)) B rb A {s with arr:=s.arr.set j ((s.arr.getD j []).set i v)} /\
   Ch B (fun c=>c=12+3 * j) A.tag A.tag w ((w.setCell ⟨xb,i * 2,none⟩ (.int .i64 v.k)).setCell ⟨xb,i * 2+1,none⟩ (.int .i64 v.n)):=by
 have hrow:=Ag.arr h j hj;rw[hv] at hrow;obtain⟨b',cap',hb',hB,hlt,ht,_⟩:=hrow.form (by omega);injection hb' with e1 e2 e3;injection e1 with e1;injection e1 with e1 e4;subst e1;have hch:Ch B (fun c=>c=12+3 * j) A.tag A.tag w ((w.setCell ⟨xb,i * 2,none⟩ (.int .i64 v.k)).setCell ⟨xb,i * 2+1,none⟩ (.int .i64 v.n)) :=
  ((Ch.refl B _ A.tag w).setOld (a:=⟨xb,_,none⟩) hB (fun _=>ht) _).setOld (a:=⟨xb,_,none⟩) hB (fun _=>ht) _
 refine⟨⟨?_,h.own,h.fr.keep hch (by omega),?_,h.out.keep hch (by omega),h.hi.keep hch (by omega),fun k hk=>(h.loc k hk).keep hch (by omega),fun k hk=>(h.stk k hk).keep hch (by omega),fun k hk=>?_⟩,hch⟩
 ·exact(hch.block rb (Ag.lt h) (Or.inr (by rw[h.own.2];omega))).trans h.run
 ·show Ae _ B A.tag 2 _ 1 A.av (s.arr.set j _).length A.AV;rw[List.length_set];exact h.ar.keep hch (by omega)
 ·have hk':k<s.arr.length:=by simpa using hk
  show Ae _ B A.tag (12+3 * k) _ 2 (A.AV k) ((s.arr.set j ((s.arr.getD j []).set i v)).getD k []).length (Ar ((s.arr.set j ((s.arr.getD j []).set i v)).getD k []));by_cases e:k=j
  ·subst e;rw[Mu _ _ _ hk',List.length_set,hv];exact((hrow.set (i * 2) _).set (i * 2+1) _).congr (fun c _=>Hj _ _ _ hi c)
  ·rw[KM _ _ _ _ e];exact(h.arr k hk').keep hch (by omega)
theorem Sw(w:World)(B rb:Nat)(A:Ad)(s:Mc)(f:Fr)(rest:List Fr)(v i a:V)(st:List V)(hL:Al w B rb A s)(hs:s.fr=f::rest)(hst:f.stk=v::i::a::st)(ha:a.k=2->0<=a.n/\a.n<s.arr.length)(hB:B<=w.heap.size)(hn:st.length<=60)(hr:rest.length<=60)(hm:s.arr.length<=200000) :
  Calls prog 113 #[.pointer (some ⟨rb,0,none⟩),.int .i64 17] w fun e w' =>
   (AS s.arr a i≠0->e=.returned (.int .i64 (AS s.arr a i))/\Br w w' B rb A {s with fr:={f with stk:=st}::rest}) /\
   (AS s.arr a i=0->e=.returned (.int .i64 0)/\Br w w' B rb A {s with fr:={f with stk:=st}::rest,arr:=s.arr.set a.n.toNat ((s.arr.getD a.n.toNat []).set i.n.toNat v)}):=by
 have hcon:=C4 w B rb A s f rest v (i::a::st) hL hs hst hB (by simp;omega) (by omega);have HC:=Aa hcon;clear hcon;go_enter func113,ntmps113
 go_wp2_with fail
 refine HC.out.mono ?_;rintro e w0 ⟨rfl,A0,h0,p0,f0,_,_,_,ch0⟩;have HB0:=Aa (boxed v h0 p0 f0 (ch0.mono BY));clear h0 p0 f0 ch0 HC;go_wp2_with fail
 generalize w0.alloc (.cells #[.int .i64 v.k,.int .i64 v.n] 43)=W0 at *;generalize {A0 with tag:=Ac A0.tag w0.heap.size 5}=A0' at *;generalize w0.heap.size=bx0 at *;have hB0:B<=W0.heap.size:=by have:=HB0.out.ch.size;omega
 refine(C4 W0 B rb A0' {s with fr:={f with stk:=i::a::st}::rest} {f with stk:=i::a::st} rest i (a::st) HB0.out.lay rfl rfl hB0 (by simp;omega) (by omega)).mono ?_;rintro e w1 ⟨rfl,A1,h1,p1,f1,_,_,_,ch1⟩;have HB1:=Aa (boxed i h1 (p1.trans HB0.out.pv) (f1.trans HB0.out.fv) (HB0.out.ch.trans (ch1.mono BY)));have j0:=(ch1.box CU HB0.out.lt HB0.out.tag 0).trans HB0.out.box0;have j1:=(ch1.box CU HB0.out.lt HB0.out.tag 1).trans HB0.out.box1;have hx0:bx0<w1.heap.size:=by have:=ch1.size;have:=HB0.out.lt;omega
 have hbb1:Below w1.heap.size w1 (w1.alloc (.cells #[.int .i64 i.k,.int .i64 i.n] 43)):=(Tu _ _).alloc (Te _) _;have HM0:=Aa (Tc ((hbb1.cell (p:=⟨bx0,0,none⟩) hx0).trans j0) (Tc ((hbb1.cell (p:=⟨bx0,1,none⟩) hx0).trans j1) (show Ac A1.tag w1.heap.size 5 bx0=5 by rw[Ao _ _ _ _ (by omega)];exact(ch1.tags bx0 HB0.out.lt).trans HB0.out.tag)));have hsz1:(w1.alloc (.cells #[.int .i64 i.k,.int .i64 i.n] 43)).heap.size=w1.heap.size+1:=by simp
 have HS1:=Aa hsz1;clear h1 p1 f1 ch1 HB0 j0 j1 hbb1 hsz1;go_wp2_with fail
 generalize w1.alloc (.cells #[.int .i64 i.k,.int .i64 i.n] 43)=W1 at *;generalize hA1:({A1 with tag:=Ac A1.tag w1.heap.size 5}:Ad)=A1' at HB1;have HA1:Hid (Ac A1.tag w1.heap.size 5=A1'.tag):=by unfold Hid;rw[<-hA1]
 clear hA1;generalize w1.heap.size=bx1 at *;have hB1:B<=W1.heap.size:=by have:=HB1.out.ch.size;omega
 refine(C4 W1 B rb A1' {s with fr:={f with stk:=a::st}::rest} {f with stk:=a::st} rest a st HB1.out.lay rfl rfl hB1 (by omega) (by omega)).mono ?_;rintro e w2 ⟨rfl,A2,h2,p2,f2,_,_,_,ch2⟩;have HB2:=Aa (boxed a h2 (p2.trans HB1.out.pv) (f2.trans HB1.out.fv) (HB1.out.ch.trans (ch2.mono BY)));have tb0:A1'.tag bx0=5:=HA1.out ▸ HM0.out.2.2;have lt0:bx0<W1.heap.size:=by rw[HS1.out];omega
 have hx0':bx0<w2.heap.size:=by have:=ch2.size;omega
 have hx1':bx1<w2.heap.size:=by have:=ch2.size;have:=HB1.out.lt;omega
 have hbb2:Below w2.heap.size w2 (w2.alloc (.cells #[.int .i64 a.k,.int .i64 a.n] 43)):=(Tu _ _).alloc (Te _) _;have m0:=(hbb2.cell (p:=⟨bx0,0,none⟩) hx0').trans ((ch2.box CU lt0 tb0 0).trans HM0.out.1);have m1:=(hbb2.cell (p:=⟨bx0,1,none⟩) hx0').trans ((ch2.box CU lt0 tb0 1).trans HM0.out.2.1);have k2:=(ch2.box CU HB1.out.lt HB1.out.tag 0).trans HB1.out.box0;have k3:=(ch2.box CU HB1.out.lt HB1.out.tag 1).trans HB1.out.box1;have m2:=(hbb2.cell (p:=⟨bx1,0,none⟩) hx1').trans ((ch2.box CU HB1.out.lt HB1.out.tag 0).trans HB1.out.box0);have m3:=(hbb2.cell (p:=⟨bx1,1,none⟩) hx1').trans ((ch2.box CU HB1.out.lt HB1.out.tag 1).trans HB1.out.box1);have tt0:Ac A2.tag w2.heap.size 5 bx0=5:=by rw[Ao _ _ _ _ (by omega)];exact(ch2.tags bx0 lt0).trans tb0
 have tt1:Ac A2.tag w2.heap.size 5 bx1=5:=by rw[Ao _ _ _ _ (by omega)];exact(ch2.tags bx1 HB1.out.lt).trans HB1.out.tag
 have HM:=Aa (Tc m0 (Tc m1 (Tc m2 (Tc m3 (Tc tt0 tt1)))));have hsz2:(w2.alloc (.cells #[.int .i64 a.k,.int .i64 a.n] 43)).heap.size=w2.heap.size+1:=by simp
 have HS2:=Aa hsz2;clear h2 p2 f2 ch2 HB1 HM0 HA1 HS1 tb0 lt0 hbb2 m0 m1 m2 m3 tt0 tt1 hsz2;go_wp2_with fail
 generalize w2.alloc (.cells #[.int .i64 a.k,.int .i64 a.n] 43)=W at *;generalize hA2:({A2 with tag:=Ac A2.tag w2.heap.size 5}:Ad)=A2' at HB2;have HA2:Hid (Ac A2.tag w2.heap.size 5=A2'.tag):=by unfold Hid;rw[<-hA2]
 clear hA2;generalize hbx:w2.heap.size=bx2 at *;clear hbx;refine(J6 W B rb A2'.tag A2'.pv A2'.fv A2'.av A2'.ov A2'.hv A2'.LV A2'.SV A2'.AV {s with fr:={f with stk:=st}::rest} a i HB2.out.lay ha hm).mono ?_;rintro e w3 ⟨rfl,hB3⟩;have HL3:=Aa (Al.below HB2.out.lay hB3);have hch3:Ch B Be A.tag A2'.tag w w3:=HB2.out.ch.trans' hB3;have HC3:=Aa hch3;by_cases hw:AS s.arr a i=0
 ·rw[hw];obtain⟨wk,wi,i0,i1⟩:=GS hw;obtain⟨a0,a1⟩:=ha wk;obtain⟨ab,acap,p,cp,r2,c0,hAV,habz,habt,hab⟩:=Mn HL3.out (j:=a.n.toNat) (by show a.n.toNat<s.arr.length;omega);have hrow:=Ag.arr HL3.out a.n.toNat (by show a.n.toNat<s.arr.length;omega);rw[hAV] at hrow;obtain⟨xb,xcap,hxv,hxB,hxz,hxt,hxc⟩:=hrow.form (by show 1<=(s.arr.getD a.n.toNat []).length;omega);injection hxv with hx1 hx2 hx3;subst hx1;subst hx3;have y0:=hrow.cell (i:=i.n.toNat * 2) (by show i.n.toNat * 2<(s.arr.getD a.n.toNat []).length * 2;omega);have y1:=hrow.cell (i:=i.n.toNat * 2+1) (by show i.n.toNat * 2+1<(s.arr.getD a.n.toNat []).length * 2;omega);have z0:=hrow.frozen (i.n.toNat * 2);have z1:=hrow.frozen (i.n.toNat * 2+1);have hfin:=Al.arrset HL3.out (j:=a.n.toNat) (i:=i.n.toNat) (xb:=xb) (cap:=cp) (by show a.n.toNat<s.arr.length;omega) hAV (by show i.n.toNat<(s.arr.getD a.n.toNat []).length;omega) v;have hbW0:bx0<W.heap.size:=by rw[HS2.out];omega
  have hbW1:bx1<W.heap.size:=by rw[HS2.out];omega
  have n0:=(hB3.cell (p:=⟨bx0,0,none⟩) hbW0).trans HM.out.1;have n1:=(hB3.cell (p:=⟨bx0,1,none⟩) hbW0).trans HM.out.2.1;have n2:=(hB3.cell (p:=⟨bx1,1,none⟩) hbW1).trans HM.out.2.2.2.1;have n3:=(hB3.cell (p:=⟨bx2,1,none⟩) HB2.out.lt).trans HB2.out.box1;have tx:∀ b,A2'.tag b≠12+3 * a.n.toNat->¬b=xb:=by intro b hb e;rw[e] at hb;exact hb hxt
  have e1:=tx rb (by rw[(Ag.own HL3.out).2];omega);have e2:=tx ab (by rw[habt];omega);have e3:=tx bx0 (by rw[<-HA2.out,HM.out.2.2.2.2.1];omega);have e4:=tx bx1 (by rw[<-HA2.out,HM.out.2.2.2.2.2];omega);have e5:=tx bx2 (by rw[HB2.out.tag];omega);have e1':¬xb=rb:=fun h=>e1 h.symm
  have e2':¬xb=ab:=fun h=>e2 h.symm
  have e3':¬xb=bx0:=fun h=>e3 h.symm
  have e4':¬xb=bx1:=fun h=>e4 h.symm
  have e5':¬xb=bx2:=fun h=>e5 h.symm
  have HQ:Hid (Br w (((w3.setCell ⟨xb,i.n.toNat * 2,none⟩ (.int .i64 v.k)).setCell ⟨xb,i.n.toNat * 2+1,none⟩ (.int .i64 v.n)).drew) B rb A {s with fr:={f with stk:=st}::rest,arr:=s.arr.set a.n.toNat ((s.arr.getD a.n.toNat []).set i.n.toNat v)}) :=
   ⟨A2',Al.below hfin.1 ((Tu _ _).drew),HB2.out.pv,HB2.out.fv,(HC3.out.trans (hfin.2.mono (fun c hc=>by intro h;omega))).drew⟩
  have HW:=Aa hw;have u0:a.n<(s.arr.length:Int):=a1;have hll:i.n<((s.arr.getD a.n.toNat []).length:Int):=i1;clear hfin hrow hw HL3 HC3 hch3 hB3 hAV hL hst hs ha HM HB2 HS2 HA2 wk wi habt hxt tx;generalize Ar (s.arr.getD a.n.toNat []) (i.n.toNat * 2)=o0 at *;generalize Ar (s.arr.getD a.n.toNat []) (i.n.toNat * 2+1)=o1 at *;generalize (s.arr.getD a.n.toNat []).length=ln at *;generalize s.arr.length=na at *;go_wp2;go_region_held3 (fun w'=>w'.cell? ⟨rb,2,none⟩=some (.slice (some ⟨ab,0,none⟩) na acap)/\w'.cell? ⟨ab,a.n.toNat,none⟩=some (.slice (some ⟨xb,0,none⟩) ln cp)/\w'.cell? ⟨bx2,1,none⟩=some (.int .i64 a.n)/\w'.cell? ⟨bx1,1,none⟩=some (.int .i64 i.n)/\w'.cell? ⟨bx0,0,none⟩=some (.int .i64 v.k)/\w'.cell? ⟨bx0,1,none⟩=some (.int .i64 v.n)) (go_keep) (fail)
  rename_i hheld;clear hheld;go_wp2;go_ret;exact⟨fun h=>absurd HW.out h,fun _=>⟨rfl,HQ.out⟩⟩
 ·have hne:(AS s.arr a i != 0)=true:=by simpa using hw
  have HW:=Aa hw;have HQ:Hid (Br w w3 B rb A {s with fr:={f with stk:=st}::rest}):=⟨A2',HL3.out,HB2.out.pv,HB2.out.fv,HC3.out⟩
  clear hw hch3 hB3;go_wp2;go_ret;exact⟨fun _=>⟨rfl,HQ.out⟩,fun h=>absurd h HW.out⟩
theorem Tryz.info44:(prog.info? 44).map (fun i=>(i.zero,i.size,i.bytes))=some (some (.slice none 0 0),1,24):=by kernel_rfl
theorem K6{W w1:World}{o o':Obj}{row:Option Nat}(hg:((W.drew.alloc o).alloc o').grownBy w1 row){a:Addr}(ha:a.block<W.heap.size)(hne:some a.block≠row):w1.cell? a=W.cell? a:=by
 have h1:w1.heap[a.block]?=((W.drew.alloc o).alloc o').heap[a.block]?:=hg.block a.block (by show a.block<((W.heap.push o).push o').size;simp;omega) hne;have h2:((W.drew.alloc o).alloc o').heap[a.block]?=W.heap[a.block]?:=(((Tu W.heap.size W).drew.alloc (Te _) o).alloc (by simp) o').block a.block ha;exact Tw (h1.trans h2)
theorem KT{W w1:World}{o o':Obj}{row:Option Nat}(hg:((W.drew.alloc o).alloc o').grownBy w1 row){a:Addr}(ha:a.block<W.heap.size)(hne:some a.block≠row):w1.frozen? a=W.frozen? a:=by
 have h1:w1.heap[a.block]?=((W.drew.alloc o).alloc o').heap[a.block]?:=hg.block a.block (by show a.block<((W.heap.push o).push o').size;simp;omega) hne;have h2:((W.drew.alloc o).alloc o').heap[a.block]?=W.heap[a.block]?:=(((Tu W.heap.size W).drew.alloc (Te _) o).alloc (by simp) o').block a.block ha;exact World.frozen?_of_block (h1.trans h2)
def Bm(n:Nat):Array Value:=madeCells #[.int .i64 0,.int .i64 0] (n * 2)
theorem Fs(n:Int)(h0:0<=n)(hn:n<=1000)(wx:World):(Instr.makeSlice 44 (.int .i64 n) (.int .i64 n)).run prog wx=.ok (.slice (some ⟨wx.heap.size,0,none⟩) n.toNat n.toNat) (wx.alloc (.cells (Bm n.toNat) 43)):=by
 have h:=Fo (P:=prog) 44 43 _ _ 2 16 underlying44 Tryz.info43 rfl .i64 .i64 n.toNat (by omega) (by omega) wx;rw[show ((n.toNat:Nat):Int)=n by omega] at h;exact h
theorem MH{B:Nat}{tag:Nat->Nat}{c:Nat}(w:World)(n:Nat)(hB:B<=w.heap.size)(hn:n<=maxLen)(ht:tag w.heap.size=c):Ae (w.alloc (.cells (Bm n) 43)) B tag c 43 2 (.slice (some ⟨w.heap.size,0,none⟩) n n) n (Ar (List.replicate n As)):=by
 refine Or.inr ⟨w.heap.size,n,Bm n,rfl,hB,ht,Tv _ _,Te _,hn,by simp[Bm,size_madeCells],fun i hi=>?_⟩;have h2:i / 2<n:=by omega
 have:i % 2=0\/i % 2=1:=by omega
 rcases this with e|e<;>simp[Bm,madeCells,hi,e,Ar,List.getD_eq_getElem?_getD,h2,As]
theorem Mo(w:World)(o:Obj)(v:Value)(t:TypeId):∀ j u,[v][j]?=some u->((w.alloc o).alloc (.cells #[v] t)).drew.cell? ((⟨w.heap.size+1,0,none⟩:Addr).add j)=some u:=by
 have hb:((w.alloc o).alloc (.cells #[v] t)).drew.heap[w.heap.size+1]?=some (.cells #[v] t (0,0)):=by
  have h:=Tv (w.alloc o) (.cells #[v] t);have e:(w.alloc o).heap.size=w.heap.size+1:=by simp
  rw[e] at h;exact h
 exact World.news_of_block hb
theorem Al.arrnew{w w':World}{B rb:Nat}{A:Ad}{s:Mc}(h:Al w B rb A s){tag':Nat->Nat}(hc:Ch B (fun c=>c=0\/c=2) A.tag tag' w w'){av' nv:Value}{l:List V}
  (hrun:w'.heap[rb]?=some (.cells (CQ A.pv A.fv av' A.ov A.hv s) 155 (0,0))) (har:Ae w' B tag' 2 44 1 av' (s.arr.length+1) (Ac A.AV s.arr.length nv))
  (hnew:Ae w' B tag' (12+3 * s.arr.length) 43 2 nv l.length (Ar l)) :
  Al w' B rb {A with tag:=tag',av:=av',AV:=Ac A.AV s.arr.length nv} {s with arr:=s.arr++[l]}:=by
 refine⟨hrun,⟨h.own.1,(hc.tags rb (Ag.lt h)).trans h.own.2⟩,h.fr.keep hc (by omega),?_,h.out.keep hc (by omega),h.hi.keep hc (by omega),fun i hi=>(h.loc i hi).keep hc (by omega),fun i hi=>(h.stk i hi).keep hc (by omega),fun j hj=>?_⟩
 ·show Ae w' B tag' 2 _ 1 av' (s.arr++[l]).length _;rw[List.length_append];exact har
 ·have hj':j<s.arr.length+1:=by simpa using hj
  show Ae w' B tag' (12+3 * j) _ 2 (Ac A.AV s.arr.length nv j) ((s.arr++[l]).getD j []).length (Ar ((s.arr++[l]).getD j []));by_cases e:j=s.arr.length
  ·subst e;have e2:(s.arr++[l]).getD s.arr.length []=l:=by simp[List.getD_eq_getElem?_getD]
   rw[e2,Au];exact hnew
  ·have e2:(s.arr++[l]).getD j []=s.arr.getD j []:=by rw[Tj,Tj,Tq (by omega)]
   rw[e2,Ao _ _ _ _ e];exact(h.arr j (by omega)).keep hc (by omega)
theorem CD{w:World}{b i:Nat}{cs:Array Value}{e:TypeId}{z:Nat × Nat}(h:w.heap[b]?=some (.cells cs e z))(v:Value):(w.setCell ⟨b,i,none⟩ v).heap[b]?=some (.cells (cs.setIfInBounds i v) e z):=by
 simp[World.setCell,Array.getElem?_modify,h]
theorem Al.arrgrew{w5 w6:World}{B rb:Nat}{A5:Ad}{s:Mc}(h:Al w5 B rb A5 s)(hB5:B<=w5.heap.size){n na:Nat}(hn:n<=1000)(hna:s.arr.length=na){pa:Option Addr}{acap:Nat}(hav:A5.av=.slice pa na acap){g cap:Nat}
  (hown:w6.ownsRow B 44 1 (.slice (some ⟨g,0,none⟩) (na+1) cap) (na+1) (List.map A5.AV (List.range (na * 1))++[.slice (some ⟨w5.heap.size,0,none⟩) n n]))
  (hgrow:((w5.alloc (.cells (Bm n) 43)).alloc (.cells #[.slice (some ⟨w5.heap.size,0,none⟩) n n] 44)).drew.grownBy w6 (Value.slice pa na acap).ownBlock) (hat:(Value.slice pa na acap).ownBlock=some g\/g=w5.heap.size+2) :
  ∃ A7,Al (w6.setCell ⟨rb,2,none⟩ (.slice (some ⟨g,0,none⟩) (na+1) cap)) B rb A7 {s with arr:=s.arr++[List.replicate n As]}/\A7.pv=A5.pv/\A7.fv=A5.fv/\Ch B Be A5.tag A7.tag w5 (w6.setCell ⟨rb,2,none⟩ (.slice (some ⟨g,0,none⟩) (na+1) cap)):=by
 subst hna;have hrb:=Ag.lt h;generalize hT:Ac (Ac A5.tag w5.heap.size (12+3 * s.arr.length)) (w5.heap.size+1) 5=T;have hT0:∀ b,b<w5.heap.size->T b=A5.tag b:=fun b hb=>by rw[<-hT,Ao _ _ _ _ (by omega),Ao _ _ _ _ (by omega)]
 have hT1:T w5.heap.size=12+3 * s.arr.length:=by rw[<-hT,Ao _ _ _ _ (by omega),Au]
 have hnewrow:=MH (B:=B) (tag:=T) w5 n hB5 (by unfold maxLen;omega) hT1;have hbX:Below w5.heap.size w5 ((w5.alloc (.cells (Bm n) 43)).alloc (.cells #[.slice (some ⟨w5.heap.size,0,none⟩) n n] 44)).drew:=(((Tu _ _).alloc (Te _) _).alloc (by simp) _).drew;have hbX1:Below (w5.alloc (.cells (Bm n) 43)).heap.size (w5.alloc (.cells (Bm n) 43)) ((w5.alloc (.cells (Bm n) 43)).alloc (.cells #[.slice (some ⟨w5.heap.size,0,none⟩) n n] 44)).drew:=((Tu _ _).alloc (Te _) _).drew;have hcX:Ch B (fun _=>False) A5.tag T w5 ((w5.alloc (.cells (Bm n) 43)).alloc (.cells #[.slice (some ⟨w5.heap.size,0,none⟩) n n] 44)).drew:=Ch.of_tags hbX hT0;have hnewX:=hnewrow.below hbX1;have hszX:((w5.alloc (.cells (Bm n) 43)).alloc (.cells #[.slice (some ⟨w5.heap.size,0,none⟩) n n] 44)).drew.heap.size=w5.heap.size+2:=by simp
 generalize ((w5.alloc (.cells (Bm n) 43)).alloc (.cells #[.slice (some ⟨w5.heap.size,0,none⟩) n n] 44)).drew=X at *;have hrow:=h.ar;rw[hav] at hrow;have hrowX:=hrow.keep hcX (fun h=>h);obtain⟨tag',har,hgc⟩:=hrowX.grew hown hgrow (by rcases hat with h|h;exact Or.inl h;right;rw[h,hszX]) rfl;have hc6:Ch B (fun c=>c=0\/c=2) A5.tag tag' w5 w6:=(hcX.mono (fun _ h=>h.elim)).trans (hgc.mono (fun _ h=>Or.inr h));have htr:tag' rb=0:=(hc6.tags rb hrb).trans h.own.2;have hcs:Ch B (fun c=>c=0) tag' tag' w6 (w6.setCell ⟨rb,2,none⟩ (.slice (some ⟨g,0,none⟩) (s.arr.length+1) cap)):=Ch.set w6 rb _ _ h.own.1 htr;have hc7:=hc6.trans (hcs.mono (fun _ h=>Or.inl h));have hrun6:w6.heap[rb]?=some (.cells (CQ A5.pv A5.fv A5.av A5.ov A5.hv s) 155 (0,0)) :=
  (hgc.block rb (by rw[hszX];omega) (Or.inr (by rw[hT0 rb hrb,h.own.2];omega))).trans ((hcX.block rb hrb (Or.inr (fun h=>h))).trans h.run)
 refine⟨_,Al.arrnew h hc7 (av':=.slice (some ⟨g,0,none⟩) (s.arr.length+1) cap) (nv:=.slice (some ⟨w5.heap.size,0,none⟩) n n) (l:=List.replicate n As) (CD hrun6 _) ?_ ?_,rfl,rfl,hc7.mono (fun c hc=>by intro h;omega)⟩
 ·refine(har.keep hcs (by omega)).congr (fun i hi=>?_);by_cases e:i=s.arr.length
  ·subst e;rw[if_neg (by omega),Au];simp
  ·rw[if_pos (by omega),Ao _ _ _ _ e]
 ·rw[List.length_replicate];exact(hnewX.keep hgc (by omega)).keep hcs (by omega)
theorem Np(w:World)(B rb:Nat)(A:Ad)(s:Mc)(f:Fr)(rest:List Fr)(x:V)(st:List V)(hL:Al w B rb A s)(hs:s.fr=f::rest)(hst:f.stk=x::st)(hB:B<=w.heap.size)(hn:st.length<=60)(hr:rest.length<=60)(hm:s.arr.length<=150000)(hc:AL s.arr<=200) :
  Calls prog 113 #[.pointer (some ⟨rb,0,none⟩),.int .i64 15] w fun e w' =>
   (x.k≠1->e=.returned (.int .i64 3)/\Br w w' B rb A {s with fr:={f with stk:=st}::rest}) /\
   (x.k=1->x.n<0->e=.returned (.int .i64 5)/\Br w w' B rb A {s with fr:={f with stk:=st}::rest}) /\
   (x.k=1->0<=x.n->200-AL s.arr<x.n->e=.returned (.int .i64 8)/\Br w w' B rb A {s with fr:={f with stk:=st}::rest}) /\
   (x.k=1->0<=x.n->x.n<=200-AL s.arr->e=.returned (.int .i64 0)/\Br w w' B rb A {s with fr:={f with stk:=⟨2,(s.arr.length:Int)⟩::st}::rest,arr:=s.arr++[List.replicate x.n.toNat As]}):=by
 have hcon:=C4 w B rb A s f rest x st hL hs hst hB (by omega) (by omega);have HC:=Aa hcon;clear hcon;go_enter func113,ntmps113
 go_wp2_with fail
 refine HC.out.mono ?_;rintro e w1 ⟨rfl,A1,h1,p1,f1,_,_,_,ch1⟩;have HB:=Aa (boxed x h1 p1 f1 (ch1.mono BY));clear h1 p1 f1 ch1 HC;have HQ0:Hid (Br w (w1.alloc (.cells #[.int .i64 x.k,.int .i64 x.n] 43)) B rb A {s with fr:={f with stk:=st}::rest}):=⟨_,HB.out.lay,HB.out.pv,HB.out.fv,HB.out.ch⟩
 clear hL hst hs;by_cases hk:x.k=1
 ·have e1:(x.k != 1)=false:=by simpa using hk
  have HK:=Aa hk;clear hk;by_cases hneg:x.n<0
  ·go_wp2;go_ret;exact⟨fun h=>absurd HK.out h,fun _ _=>⟨rfl,HQ0.out⟩,fun _ h=>absurd hneg (by omega),fun _ h=>absurd hneg (by omega)⟩
  ·go_wp2_with fail
   generalize w1.alloc (.cells #[.int .i64 x.k,.int .i64 x.n] 43)=W at *;generalize {A1 with tag:=Ac A1.tag w1.heap.size 5}=A' at *;generalize w1.heap.size=bx at *;have hcl:=Ik s.arr;have HCL:=Aa (PT W B rb A'.tag A'.pv A'.fv A'.av A'.ov A'.hv A'.LV A'.SV A'.AV {s with fr:={f with stk:=st}::rest} HB.out.lay hc (by show s.arr.length<=200000;omega));have b1:=HB.out.box1;refine HCL.out.mono ?_;rintro e w2 ⟨rfl,rfl⟩;have hcc:AL ({s with fr:={f with stk:=st}::rest}:Mc).arr=AL s.arr:=rfl;rw[hcc];clear hcc HCL;by_cases hfree:200-AL s.arr<x.n
   ·go_wp2;go_ret;exact⟨fun h=>absurd HK.out h,fun _ h=>absurd h (by omega),fun _ _ _=>⟨rfl,HQ0.out⟩,fun _ _ h=>absurd hfree (by omega)⟩
   ·have HF:=Aa hfree;obtain⟨pa,acap,hav,hacap⟩:=(Ag.ar HB.out.lay).any;have r2:w2.cell? ⟨rb,2,none⟩=some (.slice pa s.arr.length acap):=by rw[Ag.cell HB.out.lay 2];show some A'.av=_;rw[hav]
    have hpush:∀ X,Below w2.heap.size w2 X ->
      Calls prog 111 #[.pointer (some ⟨rb,0,none⟩),.agg #[.int .i64 2,.int .i64 (s.arr.length:Int)]] X fun e w'=>e=.returned (.tuple #[]) /\
       ∃ A5,Al w' B rb A5 {s with fr:={f with stk:=⟨2,(s.arr.length:Int)⟩::st}::rest}/\A5.pv=A'.pv/\A5.fv=A'.fv/\A5.av=A'.av/\Ch B (fun c=>c=1\/c=11+3 * rest.length) A'.tag A5.tag w2 w' :=
     fun X hX=>by
      refine(Ea X B rb A' {s with fr:={f with stk:=st}::rest} {f with stk:=st} rest ⟨2,(s.arr.length:Int)⟩ (Al.below HB.out.lay hX) rfl (by have:=hX.size;have:=HB.out.ch.size;omega) (by show st.length<=64;omega) (by omega)).mono ?_;rintro e w' ⟨rfl,A5,g1,g2,g3,g4,g5,g6,g7⟩;exact⟨rfl,A5,g1,g2,g3,g4,(Ch.of_below hX).trans g7⟩
    have HP:=Aa hpush;have hrb:=Ag.lt HB.out.lay;have hbx:=HB.out.lt;have HT:=Aa (Tc (Ag.own HB.out.lay).2 HB.out.tag);have hna:s.arr.length<=150000:=hm;have HV:=Aa hav;clear hpush hav;generalize hnn:s.arr.length=na at *;have Hna:=Aa hnn;clear hnn;go_wp2_with fail
    refine(HP.out _ ?_).mono ?_;exact(by repeat (first|exact Tu _ _|refine Below.drew ?_|refine Below.alloc ?_ (by first|omega|(simp;done)|(simp;omega)) _));rintro e w5 ⟨rfl,A5,h5,p5,f5,a5,ch5⟩;have q0:=(ch5.cell (a:=⟨rb,2,none⟩) hrb (by show ¬(_\/_);rw[HT.out.1];omega)).trans r2;have q1:=(ch5.cell (a:=⟨bx,1,none⟩) hbx (by show ¬(_\/_);rw[HT.out.2];omega)).trans b1;have HH:=Aa h5;have HC5:=Aa ch5;clear h5 ch5 r2 b1;go_wp2;obtain⟨inf,hi,hz0,hz1,hz2⟩:∃ i,prog.info? 44=some i/\i.zero=some (.slice none 0 0)/\i.size=1/\i.bytes=24:=by
     obtain⟨i,hi,hzz⟩:=Tp.1 Tryz.info44;simp only[Prod.mk.injEq] at hzz;exact⟨i,hi,hzz.1,hzz.2.1,hzz.2.2⟩
    have hx0:0<=x.n:=by omega
    have hx1:x.n<=200:=by omega
    have hmk:=Fs x.n hx0 (by omega);have HR:Hid (Ae w5 B A5.tag 2 44 1 (.slice pa na acap) na A5.AV):=by
     have h:=Ag.ar HH.out;rw[a5,HV.out] at h;have hl:({s with fr:={f with stk:=⟨2,(na:Int)⟩::st}::rest}:Mc).arr.length=na:=Hna.out;rw[hl] at h;exact h
    have hB5:B<=w5.heap.size:=by have:=HC5.out.size;have:=HB.out.ch.size;omega
    have hrb5:rb<w5.heap.size:=Ag.lt HH.out;have hne1:some rb≠(Value.slice pa na acap).ownBlock:=HR.out.other (by rw[(Ag.own HH.out).2];omega);have z2:=Ag.frozen HH.out 2;have HZ:=Aa z2;clear z2;go_region_law ((refine step_append_lies _ (by rfl) _ _ _ (by rfl) B 44 inf _ 1 24 underlying51 hi hz0 hz1 hz2 rfl (by decide) (.slice pa na acap) na _ (by rfl) (by exact((HR.out.owns.drew).alloc _).alloc _) ⟨w5.heap.size+1,0,none⟩ 1 1 [.slice (some ⟨w5.heap.size,0,none⟩) x.n.toNat x.n.toNat] (by rfl) (by rfl) (by exact Mo _ _ _ _) (by intro u hu;simp at hu;subst hu;rfl) (by omega) (by unfold maxLen;omega) (by omega) (by simp;omega) (w5.heap.size+2) (by simp) ?_;intro g cap w6 hown1 hgrow hat hlt;have y0:=(K6 hgrow (a:=⟨rb,2,none⟩) hrb5 hne1).trans q0;have y1:=(KT hgrow (a:=⟨rb,2,none⟩) hrb5 hne1).trans HZ.out))
    all_goals
     have hfin:=Al.arrgrew (s:={s with fr:={f with stk:=⟨2,(na:Int)⟩::st}::rest}) (n:=x.n.toNat) HH.out hB5 (by omega) (na:=na) Hna.out (a5.trans HV.out) hown1 hgrow hat;have HQ:=Aa hfin;clear hfin hown1 hgrow y0 y1;go_wp2;go_ret;obtain⟨A7,g1,g2,g3,g4⟩:=HQ.out;have hF2:=HF.out;refine⟨fun h=>absurd HK.out h,by intros;omega,by intros;omega,?_⟩;intros;refine⟨rfl,A7,?_,?_,?_,?_⟩
     ·have e:=Hna.out;rw[e];exact g1
     ·exact g2.trans (p5.trans HB.out.pv)
     ·exact g3.trans (f5.trans HB.out.fv)
     ·exact(HB.out.ch.trans (HC5.out.mono BY)).trans g4
 ·have e1:(x.k != 1)=true:=by simpa using hk
  have HK:=Aa hk;clear hk;go_wp2;go_ret;exact⟨fun _=>⟨rfl,HQ0.out⟩,fun h=>absurd h HK.out,fun h=>absurd h HK.out,fun h=>absurd h HK.out⟩
end Go.Proofs.YtkafkipjedpohaaGreatDoor

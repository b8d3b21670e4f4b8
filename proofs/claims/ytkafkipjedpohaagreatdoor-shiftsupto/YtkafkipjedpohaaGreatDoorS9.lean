import Derived.Test.YtkafkipjedpohaaGreatDoorS2
namespace Go.Proofs.YtkafkipjedpohaaGreatDoor
open Go.RowKit _root_.Go.Proofs.Tryz
theorem Br.from{w X w':World}{B rb:Nat}{A:Ad}{s':Mc}(hX:Below w.heap.size w X)(h:Br X w' B rb A s'):Br w w' B rb A s':=by
 obtain⟨A',h1,h2,h3,h4⟩:=h;exact⟨A',h1,h2,h3,(Ch.of_below hX).trans h4⟩
def Ic(w:World)(B rb:Nat)(A:Ad)(s:Mc)(rest:List Fr)(x:Fr × List (List V) × List V × Int)(e:Ending)(w':World):Prop :=
 e=.returned (.int .i64 x.2.2.2)/\Br w w' B rb A {s with fr:=x.1::rest,arr:=x.2.1,out:=x.2.2.1}
theorem Ia(w:World)(B rb:Nat)(A:Ad)(s:Mc)(f:Fr)(rest:List Fr)(op a:Int)(x:Fr × List (List V) × List V × Int)(hop:op=15\/op=16\/op=17\/op=18)(hL:Al w B rb A s)(hs:s.fr=f::rest)(hr:rest.length<=60)
  (hA:∀ X,Al X B rb A s->w.heap.size<=X.heap.size->Calls prog 113 #[.pointer (some ⟨rb,0,none⟩),.int .i64 op] X (Ic X B rb A s rest x)) :
  Calls prog 101 #[.pointer (some ⟨rb,0,none⟩),.agg #[.int .i64 op,.int .i64 a]] w (Ic w B rb A s rest x):=by
 refine(SF w B rb A s f rest op a hop hL hs hr (fun t w'=>t=x.2.2.2/\Br w w' B rb A {s with fr:=x.1::rest,arr:=x.2.1,out:=x.2.2.1}) (fun X hX=>?_)).mono ?_
 ·refine(hA X (hL.below hX) hX.size).mono ?_;rintro e w' ⟨h1,h2⟩;exact⟨_,h1,rfl,h2.from hX⟩
 ·rintro e w' ⟨t,h1,rfl,h2⟩;exact⟨h1,h2⟩
theorem PG(w:World)(B rb:Nat)(A:Ad)(s:Mc)(f:Fr)(rest:List Fr)(op a:Int)(m:Nat)(locals n:Int)(hl:Bz op a locals n m=true)(h10:op≠10)(h11:op≠11)(h13:op≠13)(h14:op≠14)
  (hp:At op a<=f.stk.length) (hok:By m s.arr.length f.stk) (hloc:(f.loc.length:Int)=locals) (hl8:locals<=8) (hh:f.stk.length<=40) (hr:rest.length<=60) (hL:Al w B rb A s) (hs:s.fr=f::rest) (hB:B<=w.heap.size) (ho:s.out.length<=100000) (hm:s.arr.length<=150000) (hc:AL s.arr<=200) (hla:∀ j,(s.arr.getD j []).length<=200) :
  Calls prog 101 #[.pointer (some ⟨rb,0,none⟩),.agg #[.int .i64 op,.int .i64 a]] w (Ic w B rb A s rest (Ak op a f s.arr s.out)):=by
 have hrg:=E3 hl;by_cases e:op=0
 ·subst e;exact Rl w B rb A s f rest a hL hs hB (by omega) hr
 by_cases e:op=1
 ·subst e;exact N4 w B rb A s f rest a hL hs hB (by omega) hr
 by_cases e:op=12
 ·subst e;exact Ni w B rb A s f rest a hL hs hB (by omega) hr
 by_cases e:op=2
 ·subst e;have hf:0<=a/\a<locals:=by simpa [Bz] using hl
  exact Ng w B rb A s f rest a (by omega) (by omega) (by omega) hL hs hB (by omega) hr
 have hp1:1<=f.stk.length:=by
  have:1<=At op a:=by unfold At A6;rw[if_neg h13,if_neg (by omega)];split<;>(try split)<;>omega
  omega
 obtain⟨x,r,hst⟩:∃ x r,f.stk=x::r:=by
  cases hc:f.stk with
  |nil=>rw[hc] at hp1;simp at hp1
  |cons x r=>exact⟨x,r,rfl⟩
 have hlr:r.length+1=f.stk.length:=by rw[hst];rfl
 by_cases e:op=3
 ·subst e;have hf:0<=a/\a<locals:=by simpa [Bz] using hl
  have ex:Ak 3 a f s.arr s.out=({f with stk:=r,loc:=f.loc.set a.toNat x},s.arr,s.out,0):=by simp[Ak,hst]
  rw[ex];exact MS w B rb A s f rest a x r (by omega) (by omega) (by omega) hL hs hst hB (by omega) hr
 have hxk:x.k=2->0<=x.n/\x.n<s.arr.length:=(hok x (by rw[hst];exact Ti)).1;by_cases e:op=19
 ·subst e;have ex:Ak 19 a f s.arr s.out=({f with stk:=r},s.arr,s.out++[x],0):=by simp[Ak,hst]
  rw[ex];exact R3 w B rb A s f rest a x r hL hs hst hB (by omega) hr (by omega)
 by_cases e:op=20
 ·subst e;have ex:Ak 20 a f s.arr s.out=({f with stk:=r},s.arr,s.out,0):=by simp[Ak,hst]
  rw[ex];exact Qm w B rb A s f rest a x r hL hs hst hB (by omega) hr
 by_cases e:op=21
 ·subst e;have ex:Ak 21 a f s.arr s.out=({f with stk:=x::x::r},s.arr,s.out,0):=by simp[Ak,hst]
  rw[ex];exact Py w B rb A s f rest a x r hL hs hst hB (by omega) hr
 by_cases e:op=15
 ·subst e;refine Ia w B rb A s f rest 15 a _ (by omega) hL hs hr (fun X hX hz=>?_);refine(Np X B rb A s f rest x r hX hs hst (by omega) (by omega) hr hm hc).mono ?_;rintro e w' ⟨k1,k2,k3,k4⟩;by_cases q1:x.k≠1
  ·have ex:Ak 15 a f s.arr s.out=({f with stk:=r},s.arr,s.out,3):=by simp[Ak,hst,q1]
   rw[ex];exact k1 q1
  have q1':x.k=1:=by omega
  by_cases q2:x.n<0
  ·have ex:Ak 15 a f s.arr s.out=({f with stk:=r},s.arr,s.out,5):=by simp[Ak,hst,q1',q2]
   rw[ex];exact k2 q1' q2
  by_cases q3:200-AL s.arr<x.n
  ·have ex:Ak 15 a f s.arr s.out=({f with stk:=r},s.arr,s.out,8):=by simp[Ak,hst,q1',q2,q3]
   rw[ex];exact k3 q1' (by omega) q3
  ·have ex:Ak 15 a f s.arr s.out=({f with stk:=⟨2,(s.arr.length:Int)⟩::r},s.arr++[List.replicate x.n.toNat As],s.out,0):=by simp[Ak,hst,q1',q2,q3]
   rw[ex];exact k4 q1' (by omega) (by omega)
 by_cases e:op=18
 ·subst e;refine Ia w B rb A s f rest 18 a _ (by omega) hL hs hr (fun X hX hz=>?_);refine(Ps X B rb A s f rest x r hX hs hst hxk (by omega) (by omega) hr (by omega)).mono ?_;rintro e w' ⟨k1,k2⟩;by_cases q1:x.k≠2
  ·have ex:Ak 18 a f s.arr s.out=({f with stk:=r},s.arr,s.out,3):=by simp[Ak,hst,q1]
   rw[ex];exact k1 q1
  ·have q1':x.k=2:=by omega
   have ex:Ak 18 a f s.arr s.out=({f with stk:=Bn ((s.arr.getD x.n.toNat []).length:Int)::r},s.arr,s.out,0):=by simp[Ak,hst,q1']
   rw[ex];exact k2 q1'
 have hp2:2<=f.stk.length:=by
  have:2<=At op a:=by unfold At A6;rw[if_neg h13,if_neg (by omega)];split<;>(try split)<;>omega
  omega
 obtain⟨y,q,hst2⟩:∃ y q,r=y::q:=by
  cases hc:r with
  |nil=>rw[hc] at hlr;simp at hlr;omega
  |cons x r=>exact⟨x,r,rfl⟩
 subst hst2;have hlq:q.length+1=(y::q).length:=rfl;have hyk:y.k=2->0<=y.n/\y.n<s.arr.length:=(hok y (by rw[hst];simp)).1;by_cases e:op=16
 ·subst e;refine Ia w B rb A s f rest 16 a _ (by omega) hL hs hr (fun X hX hz=>?_);refine(RR X B rb A s f rest x y q hX hs hst hyk (by omega) (by omega) hr (by omega) hla).mono ?_;rintro e w' ⟨k1,k2⟩;by_cases q1:AS s.arr y x=0
  ·have ex:Ak 16 a f s.arr s.out=({f with stk:=(s.arr.getD y.n.toNat []).getD x.n.toNat As::q},s.arr,s.out,0):=by simp[Ak,hst,q1]
   rw[ex];exact k2 q1
  ·have ex:Ak 16 a f s.arr s.out=({f with stk:=q},s.arr,s.out,AS s.arr y x):=by simp[Ak,hst,q1]
   rw[ex];exact k1 q1
 by_cases e:op=17
 ·subst e;have hp3:3<=f.stk.length:=by
   have:3<=At 17 a:=by simp[At,A6]
   omega
  obtain⟨z,p,hst3⟩:∃ z p,q=z::p:=by
   cases hc:q with
   |nil=>rw[hc] at hlq hlr;simp at hlr;omega
   |cons x r=>exact⟨x,r,rfl⟩
  subst hst3;have hzk:z.k=2->0<=z.n/\z.n<s.arr.length:=(hok z (by rw[hst];simp)).1;refine Ia w B rb A s f rest 17 a _ (by omega) hL hs hr (fun X hX hz=>?_);refine(Sw X B rb A s f rest x y z p hX hs hst hzk (by omega) (by simp at hlr;omega) hr (by omega)).mono ?_;rintro e w' ⟨k1,k2⟩;by_cases q1:AS s.arr z y=0
  ·have ex:Ak 17 a f s.arr s.out=({f with stk:=p},s.arr.set z.n.toNat ((s.arr.getD z.n.toNat []).set y.n.toNat x),s.out,0):=by simp[Ak,hst,q1]
   rw[ex];exact k2 q1
  ·have ex:Ak 17 a f s.arr s.out=({f with stk:=p},s.arr,s.out,AS s.arr z y):=by simp[Ak,hst,q1]
   rw[ex];exact k1 q1
 refine(RM w B rb A s f rest op a y x q (by omega) hL hs hst hB (by omega) hr).mono ?_;rintro e' w' ⟨k1,k2⟩;have n17:=e;rename_i n0 n1 n12 n2 n3 n19 n20 n21 n15 n18 n16;by_cases q1:(AE op y x).2=0
 ·have ex:Ak op a f s.arr s.out=({f with stk:=(AE op y x).1::q},s.arr,s.out,0):=by
   simp[Ak,hst,q1,n0,n1,n12,n2,n3,n19,n20,n21,n15,n18,n16,n17]
  rw[ex];exact k2 q1
 ·have ex:Ak op a f s.arr s.out=({f with stk:=q},s.arr,s.out,(AE op y x).2):=by
   simp[Ak,hst,q1,n0,n1,n12,n2,n3,n19,n20,n21,n15,n18,n16,n17]
  rw[ex];exact k1 q1
theorem RN(f:Fr)(rest:List Fr)(LV SV:Nat->Value)(pc:Nat)(i:Nat)(hi:i<(rest.length+1) * 4):Ac (BG (f::rest) LV SV) (rest.length * 4+1) (.int .i64 pc) i=BG ({f with pc:=pc}::rest) LV SV i:=by
 by_cases e:i=rest.length * 4+1
 ·subst e;rw[Au,E6,Bg]
 ·rw[Ao _ _ _ _ e];unfold BG;by_cases e2:i / 4=rest.length
  ·rw[e2,Bg,Bg];have:i % 4=0\/i % 4=2\/i % 4=3:=by omega
   rcases this with h|h|h<;>simp[h]
  ·rw[B9 _ _ _ (by omega),B9 _ _ _ (by omega)]
theorem Al.goto{w:World}{B rb:Nat}{A:Ad}{s:Mc}{f:Fr}{rest:List Fr}(h:Al w B rb A s)(hs:s.fr=f::rest){fb fcap:Nat}(hfv:A.fv=.slice (some ⟨fb,0,none⟩) (rest.length+1) fcap)(pc:Nat) :
  Al (w.setCell ⟨fb,rest.length * 4+1,none⟩ (.int .i64 pc)) B rb A {s with fr:={f with pc:=pc}::rest}/\Ch B (fun d=>d=1) A.tag A.tag w (w.setCell ⟨fb,rest.length * 4+1,none⟩ (.int .i64 pc)):=by
 have hlen:s.fr.length=rest.length+1:=by rw[hs];rfl
 have hfr:=h.fr;rw[hlen,hfv] at hfr;obtain⟨fb',fcap',e1,hfb,hfz,hft,hfc⟩:=hfr.form (by omega);injection e1 with e1 _ _;injection e1 with e1;injection e1 with e1 _ _;subst e1;have hc:Ch B (fun d=>d=1) A.tag A.tag w (w.setCell ⟨fb,rest.length * 4+1,none⟩ (.int .i64 pc)):=Ch.set w _ _ _ hfb hft;have hfa:∀ i,i<rest.length+1->(Am ({f with pc:=pc}::rest) i).loc=(Am s.fr i).loc/\(Am ({f with pc:=pc}::rest) i).stk=(Am s.fr i).stk:=by
  intro i hi;rw[hs];by_cases e:i=rest.length
  ·subst e;rw[Bg,Bg];exact⟨rfl,rfl⟩
  ·rw[B9 _ _ _ (by omega),B9 _ _ _ (by omega)];exact⟨rfl,rfl⟩
 obtain⟨r1,r2,r3⟩:=Ag.runKeep h hc (by omega);refine⟨⟨r1,⟨r2,r3⟩,?_,h.ar.keep hc (by omega),h.out.keep hc (by omega),h.hi.keep hc (by omega),fun i hi=>?_,fun i hi=>?_,fun j hj=>(h.arr j hj).keep hc (by omega)⟩,hc⟩
 ·rw[hfv];refine(hfr.set (rest.length * 4+1) (.int .i64 pc)).congr (fun i hi=>?_);rw[hs];exact RN f rest A.LV A.SV pc i hi
 ·have hi':i<rest.length+1:=hi;obtain⟨a1,_⟩:=hfa i hi';show Ae _ B A.tag _ _ 2 (A.LV i) (Am ({f with pc:=pc}::rest) i).loc.length (Ar (Am ({f with pc:=pc}::rest) i).loc);rw[a1];exact(h.loc i (by omega)).keep hc (by omega)
 ·have hi':i<rest.length+1:=hi;obtain⟨_,a1⟩:=hfa i hi';show Ae _ B A.tag _ _ 2 (A.SV i) (Am ({f with pc:=pc}::rest) i).stk.length (Ar (Am ({f with pc:=pc}::rest) i).stk.reverse);rw[a1];exact(h.stk i (by omega)).keep hc (by omega)
theorem Al.pushedF{w w':World}{B rb:Nat}{A:Ad}{s:Mc}{f0:Fr}{b0:Bool}{tag':Nat->Nat}{fv hv lv:Value}(h:Al w B rb A s)(k:Ch B (fun d=>d=0\/d=1\/d=4) A.tag tag' w w')
  (hrun:w'.heap[rb]?=some (.cells (CQ A.pv fv A.av A.ov hv {s with fr:=f0::s.fr,high:=b0::s.high}) 155 (0,0)))
  (hfr:Ae w' B tag' 1 73 4 fv (s.fr.length+1) (BG (f0::s.fr) (Ac A.LV s.fr.length lv) (Ac A.SV s.fr.length (.slice none 0 0))))
  (hhi:Ae w' B tag' 4 4 1 hv (s.high.length+1) (fun i=>.bool ((b0::s.high).reverse.getD i false)))
  (hlo:Ae w' B tag' (10+3 * s.fr.length) 43 2 lv f0.loc.length (Ar f0.loc)) (hst:f0.stk=[]) :
  Al w' B rb {A with tag:=tag',fv:=fv,hv:=hv,LV:=Ac A.LV s.fr.length lv,SV:=Ac A.SV s.fr.length (.slice none 0 0)} {s with fr:=f0::s.fr,high:=b0::s.high}:=by
 refine⟨hrun,⟨h.own.1,(k.tags rb (Ag.lt h)).trans h.own.2⟩,hfr,h.ar.keep k (by omega),h.out.keep k (by omega),hhi,fun i hi=>?_,fun i hi=>?_,fun j hj=>(h.arr j hj).keep k (by omega)⟩
 ·have hi':i<s.fr.length+1:=hi;show Ae w' B tag' _ _ 2 (Ac A.LV s.fr.length lv i) (Am (f0::s.fr) i).loc.length (Ar (Am (f0::s.fr) i).loc);by_cases e:i=s.fr.length
  ·subst e;rw[Bg,Au];exact hlo
  ·rw[B9 _ _ _ (by omega),Ao _ _ _ _ e];exact(h.loc i (by omega)).keep k (by omega)
 ·have hi':i<s.fr.length+1:=hi;show Ae w' B tag' _ _ 2 (Ac A.SV s.fr.length (.slice none 0 0) i) (Am (f0::s.fr) i).stk.length (Ar (Am (f0::s.fr) i).stk.reverse);by_cases e:i=s.fr.length
  ·subst e;rw[Bg,Au,hst];exact Ae.nil _ _ _ _ _ _ _
  ·rw[B9 _ _ _ (by omega),Ao _ _ _ _ e];exact(h.stk i (by omega)).keep k (by omega)
theorem Qf(fr:List Fr)(f0:Fr)(LV SV:Nat->Value)(lv sv:Value)(i:Nat)(hi:i<(fr.length+1) * 4) :
  (if i<fr.length * 4 then BG fr LV SV i else [Value.int .i64 f0.fn,.int .i64 f0.pc,lv,sv].getD (i-fr.length * 4) (.bool false))=BG (f0::fr) (Ac LV fr.length lv) (Ac SV fr.length sv) i:=by
 by_cases hlt:i<fr.length * 4
 ·rw[if_pos hlt];unfold BG;rw[B9 _ _ _ (by omega),Ao _ _ _ _ (by omega),Ao _ _ _ _ (by omega)]
 ·rw[if_neg hlt];have e4:i / 4=fr.length:=by omega
  unfold BG;rw[e4,Au,Au,Bg];have:i-fr.length * 4=0\/i-fr.length * 4=1\/i-fr.length * 4=2\/i-fr.length * 4=3:=by omega
  rcases this with e|e|e|e
  ·rw[if_pos (by omega),e];rfl
  ·rw[if_neg (by omega),if_pos (by omega),e];rfl
  ·rw[if_neg (by omega),if_neg (by omega),if_pos (by omega),e];rfl
  ·rw[if_neg (by omega),if_neg (by omega),if_neg (by omega),e];rfl
theorem Of(hs:List Bool)(b0:Bool)(i:Nat)(hi:i<hs.length+1) :
  (if i<hs.length * 1 then Value.bool (hs.reverse.getD i false) else [Value.bool b0].getD (i-hs.length * 1) (.bool false))=.bool ((b0::hs).reverse.getD i false):=by
 rw[List.reverse_cons];by_cases hlt:i<hs.length
 ·rw[if_pos (by omega),Tj,Tj,Tq (by simpa using hlt)]
 ·obtain rfl:i=hs.length:=by omega
  rw[if_neg (by omega),Tj,Tj,List.getElem?_append_right (by simp)];simp
theorem QU(pv fv av ov hv:Value)(s:Mc)(n:Nat)(hn:n<8)(b:Bool):(CQ pv fv av ov hv s).setIfInBounds (9+n) (.bool b)=CQ pv fv av ov hv {s with made:=Ac s.made n b}:=by
 have:n=0\/n=1\/n=2\/n=3\/n=4\/n=5\/n=6\/n=7:=by omega
 rcases this with rfl|rfl|rfl|rfl|rfl|rfl|rfl|rfl<;>simp[CQ,Ac]
theorem Al.made{w:World}{B rb:Nat}{A:Ad}{s:Mc}(h:Al w B rb A s)(n:Nat)(hn:n<8)(b:Bool):Al (w.setCell ⟨rb,9+n,none⟩ (.bool b)) B rb A {s with made:=Ac s.made n b}/\Ch B (fun c=>c=0) A.tag A.tag w (w.setCell ⟨rb,9+n,none⟩ (.bool b)) :=
 h.ownset (9+n) (.bool b) (QU _ _ _ _ _ s n hn b) rfl rfl rfl rfl
theorem JU(pv fv av ov hv:Value)(s:Mc)(n:Nat)(hn:n<8):(CQ pv fv av ov hv s)[9+n]?=some (.bool (s.made n)):=by
 have:n=0\/n=1\/n=2\/n=3\/n=4\/n=5\/n=6\/n=7:=by omega
 rcases this with rfl|rfl|rfl|rfl|rfl|rfl|rfl|rfl<;>simp[CQ]
theorem Al.hiset{w:World}{B rb:Nat}{A:Ad}{s:Mc}(h:Al w B rb A s){hb hcap:Nat}(hhv:A.hv=.slice (some ⟨hb,0,none⟩) s.high.length hcap)(i:Nat)(hi:i<s.high.length)(b:Bool)(hs':List Bool)(hl:hs'.length=s.high.length)(hu:∀ j,j<s.high.length->AU hs' j=if j=i then b else AU s.high j) :
  Al (w.setCell ⟨hb,i,none⟩ (.bool b)) B rb A {s with high:=hs'}/\Ch B (fun c=>c=4) A.tag A.tag w (w.setCell ⟨hb,i,none⟩ (.bool b)):=by
 have hrow:=h.hi;obtain⟨hb',hcap',e1,hhB,_,hht,_⟩:=hrow.form (by omega);rw[hhv] at e1 hrow;injection e1 with e1 _ _;injection e1 with e1;injection e1 with e1 _ _;subst e1;have hc:Ch B (fun c=>c=4) A.tag A.tag w (w.setCell ⟨hb,i,none⟩ (.bool b)):=Ch.set w _ _ _ hhB hht;obtain⟨r1,r2,r3⟩:=Ag.runKeep h hc (by omega);refine⟨⟨r1,⟨r2,r3⟩,h.fr.keep hc (by omega),h.ar.keep hc (by omega),h.out.keep hc (by omega),?_,fun j hj=>(h.loc j hj).keep hc (by omega),fun j hj=>(h.stk j hj).keep hc (by omega),fun j hj=>(h.arr j hj).keep hc (by omega)⟩,hc⟩;show Ae _ B A.tag 4 _ 1 A.hv hs'.length _;rw[hl,hhv];refine(hrow.set i (.bool b)).congr (fun j hj=>?_);have hu2:=hu j (by omega);unfold AU at hu2;show Ac _ i (Value.bool b) j=Value.bool (hs'.reverse.getD j false);rw[hu2];by_cases e:j=i
 ·subst e;rw[Au,if_pos rfl]
 ·rw[Ao _ _ _ _ e,if_neg e]
structure Sc (w:World) (rb fb fcap hb hcap k:Nat) (f:Fr) (lp sp:Option Addr) (ln lc sn sc:Nat):Prop where
 r1:w.cell? ⟨rb,1,none⟩=some (.slice (some ⟨fb,0,none⟩) (k+1) fcap)
 r8:w.cell? ⟨rb,8,none⟩=some (.slice (some ⟨hb,0,none⟩) (k+1) hcap)
 c0:w.cell? ⟨fb,k * 4,none⟩=some (.int .i64 f.fn)
 c1:w.cell? ⟨fb,k * 4+1,none⟩=some (.int .i64 f.pc)
 c2:w.cell? ⟨fb,k * 4+2,none⟩=some (.slice lp ln lc)
 c3:w.cell? ⟨fb,k * 4+3,none⟩=some (.slice sp sn sc)
 blk:rb<w.heap.size/\fb<w.heap.size/\hb<w.heap.size
 ne:¬rb=fb/\¬rb=hb/\¬hb=fb
theorem IW{w:World}{B rb:Nat}{A:Ad}{s:Mc}{f:Fr}{rest:List Fr}(hL:Al w B rb A s)(hs:s.fr=f::rest)(hh:s.high.length=s.fr.length) :
  ∃ fb fcap hb hcap lp sp ln lc sn sc,Sc w rb fb fcap hb hcap rest.length f lp sp ln lc sn sc/\A.fv=.slice (some ⟨fb,0,none⟩) (rest.length+1) fcap/\A.hv=.slice (some ⟨hb,0,none⟩) (rest.length+1) hcap/\B<=hb/\A.tag hb=4:=by
 have hlen:s.fr.length=rest.length+1:=by rw[hs];rfl
 have hfr:=Ag.fr hL;rw[hlen] at hfr;obtain⟨fb,fcap,hfv,hfB,hfz,hft,_⟩:=hfr.form (by omega);have hhi:=Ag.hi hL;rw[hh,hlen] at hhi;obtain⟨hb,hcap,hhv,hhB,hhz,hht,_⟩:=hhi.form (by omega);have hrt:=(Ag.own hL).2;have hfr2:=hfr;rw[hfv] at hfr2;have c0:=hfr2.cell (i:=rest.length * 4) (by omega);have c1:=hfr2.cell (i:=rest.length * 4+1) (by omega);have c2:=hfr2.cell (i:=rest.length * 4+2) (by omega);have c3:=hfr2.cell (i:=rest.length * 4+3) (by omega);rw[Iu,hs,Bg] at c0;rw[E6,hs,Bg] at c1;rw[Gb] at c2;rw[Gd] at c3;obtain⟨lp,lc,e2,_⟩:=(Ag.loc hL rest.length (by omega)).any;obtain⟨sp,sc,e3,_⟩:=(Ag.stk hL rest.length (by omega)).any;rw[e2] at c2;rw[e3] at c3;refine⟨fb,fcap,hb,hcap,lp,sp,_,lc,_,sc,⟨by rw[Ag.cell hL 1,<-hfv];rfl,by rw[Ag.cell hL 8,<-hhv];rfl,c0,c1,c2,c3,⟨Ag.lt hL,hfz,hhz⟩,fun e=>?_,fun e=>?_,fun e=>?_⟩,hfv,hhv,hhB,hht⟩
 ·rw[e,hft] at hrt;omega
 ·rw[e,hht] at hrt;omega
 ·rw[e,hft] at hht;omega
set_option maxRecDepth 100000
set_option maxHeartbeats 16000000
structure FL (w:World) (B rb:Nat) (A:Ad) (s:Mc) (f:Fr) (st kd n:Int) (wc:World):Prop where
 lay:∃ A1:Ad,Al wc B rb A1 s/\A1.pv=A.pv/\A1.fv=A.fv/\A1.hv=A.hv/\A1.tag w.heap.size=5/\A1.tag (w.heap.size+1)=5/\Ch B Be A.tag A1.tag w wc
 ev:wc.heap[w.heap.size]?=some (.cells #[.int .i64 st,.int .i64 kd,.int .i64 n] 65 (0,0))
 fb:∃ x y,wc.heap[w.heap.size+1]?=some (.cells #[.int .i64 f.fn,.int .i64 f.pc,x,y] 73 (0,0))
 bl:Below w.heap.size w wc
theorem FL.of{w:World}{B rb:Nat}{A:Ad}{s:Mc}(hL:Al w B rb A s)(f:Fr)(st kd n:Int)(x y:Value) :
  FL w B rb A s f st kd n ((w.alloc (.cells #[.int .i64 st,.int .i64 kd,.int .i64 n] 65)).alloc (.cells #[.int .i64 f.fn,.int .i64 f.pc,x,y] 73)):=by
 obtain⟨W1,h1⟩:∃ W,W=w.alloc (.cells #[.int .i64 st,.int .i64 kd,.int .i64 n] 65):=⟨_,rfl⟩
 have b1:Below w.heap.size w W1:=by rw[h1];exact(Tu _ _).alloc (Te _) _
 have z1:W1.heap.size=w.heap.size+1:=by rw[h1];simp
 have e1:W1.heap[w.heap.size]?=some (.cells #[.int .i64 st,.int .i64 kd,.int .i64 n] 65 (0,0)):=by rw[h1];exact Tv _ _
 have l1:=Al.box hL (.cells #[.int .i64 st,.int .i64 kd,.int .i64 n] 65);rw[<-h1] at l1 ⊢;have l2:=Al.box l1 (.cells #[.int .i64 f.fn,.int .i64 f.pc,x,y] 73);have b2:Below W1.heap.size W1 (W1.alloc (.cells #[.int .i64 f.fn,.int .i64 f.pc,x,y] 73)):=(Tu _ _).alloc (Te _) _;refine⟨⟨_,l2,rfl,rfl,rfl,?_,?_,?_⟩,?_,⟨x,y,?_⟩,b1.trans (b2.mono b1.size)⟩
 ·show Ac (Ac A.tag w.heap.size 5) W1.heap.size 5 w.heap.size=5;rw[Ao _ _ _ _ (by omega),Au]
 ·show Ac (Ac A.tag w.heap.size 5) W1.heap.size 5 (w.heap.size+1)=5;rw[z1,Au]
 ·refine Ch.of_tags (b1.trans (b2.mono b1.size)) (fun b hb=>?_);show Ac (Ac A.tag w.heap.size 5) W1.heap.size 5 b=_;rw[Ao _ _ _ _ (by omega),Ao _ _ _ _ (by omega)]
 ·rw[b2.block w.heap.size (by omega)];exact e1
 ·rw[<-z1];exact Tv _ _
theorem P9(w:World)(B rb:Nat)(A:Ad)(s:Mc)(F:Nat->PF)(f:Fr)(rest:List Fr)(st:Int)(n:Nat)(hL:Al w B rb A s)(hs:s.fr=f::rest)(hh:s.high.length=s.fr.length)(hn:n<8)(hr:rest.length<=60) :
  Calls prog 81 #[.pointer (some ⟨rb,0,none⟩),.agg #[.int .i64 st,.int .i64 1,.int .i64 n]] w fun e w'=>e=.returned (.tuple #[])/\Bo w w' B rb A (Bu F 1 n s):=by
 obtain⟨fb,fcap,hb,hcap,lp,sp,ln,lc,sn,sc,hR,hfv,hhv,_,_⟩:=IW hL hs hh;obtain⟨r1,r8,c0,c1,c2,c3,⟨k1,k2,k3⟩,n1,n2,n3⟩:=hR;have hcm:Bu F 1 n s={s with made:=Ac s.made n true}:=by unfold Bu;rw[if_pos rfl];rfl
 generalize Bu F 1 n s=s' at *;have HC:=Aa hcm;clear hcm;have HB:=Aa (FL.of hL f st 1 n (.slice lp ln lc) (.slice sp sn sc));have HX:=Aa (Tc hL (Tc hs hh));clear hL hs hh hfv hhv r8 k3 n2 n3;generalize hk:rest.length=k at *;generalize f.fn=fx at *;generalize f.pc=px at *;clear hk;go_enter func81,ntmps81
 go_wp2_with fail
 generalize (w.alloc (.cells #[.int .i64 st,.int .i64 1,.int .i64 n] 65)).alloc (.cells #[.int .i64 fx,.int .i64 px,.slice lp ln lc,.slice sp sn sc] 73)=W at *;clear c0 c1 c2 c3 r1 k1 k2 n1;obtain⟨⟨A1,l1,p1,_,_,t5,_,q1⟩,hev,_,_⟩:=HB.out;have y2:W.cell? ⟨w.heap.size,2,none⟩=some (.int .i64 n):=(Ab hev).trans rfl;have ym:W.cell? ⟨rb,9+n,none⟩=some (.bool (s.made n)):=by rw[Ag.cell l1 (9+n)];exact JU _ _ _ _ _ _ n hn
 have zm:W.frozen? ⟨rb,9+n,none⟩=false:=Ag.frozen l1 (9+n);have hrz:rb<W.heap.size:=Ag.lt l1;have hez:w.heap.size<W.heap.size:=Ah hev;have HQ:=Aa (fun (X:World) (hX:Below W.heap.size W X)=>(show Bo w (X.setCell ⟨rb,9+n,none⟩ (.bool true)) B rb A s' from by
  obtain⟨l2,c2⟩:=(l1.below hX).made n hn true;rw[HC.out];exact⟨A1,l2,p1,(q1.trans (Ch.of_below hX)).trans (c2.mono (fun d hd=>by unfold Be;omega))⟩))
 generalize s.made n=mn at *;have i0:(0:Int)<=(n:Int):=by omega
 have i1:(n:Int)<8:=by omega
 have HNE:=Aa (show ∀ v:Value,(W.setCell ⟨rb,9+n,none⟩ v).cell? ⟨w.heap.size,2,none⟩=some (.int .i64 n) from fun v=>by
  refine(Tw (a:=⟨w.heap.size,2,none⟩) (Tx W ⟨rb,9+n,none⟩ v w.heap.size (fun e=>?_))).trans y2;have h0:=(Ag.own l1).2;rw[show rb=w.heap.size from e.symm,t5] at h0;omega)
 have HY:=Aa y2;clear l1 p1 q1 hev HB HX hn t5 y2;refine AG (fun w'=>w'.cell? ⟨w.heap.size,2,none⟩=some (.int .i64 n)) TD (by kernel_rfl) (by kernel_rfl) (fun c0 a0 d0 v0 x0 h0=>A8 (P:=prog) f81 (fun e w'=>e=.returned (.tuple #[])/\Bo w w' B rb A s') c0 a0 d0 v0 x0 h0) HY.out ?_;simp only[TD,lexL,Tl,Tm];iterate 6 (refine Aw (by rfl) (by intro w' hS';go_simp;exact rfl) ?_;simp only[Act.put,Td,Th,Tg])
 refine Az (fun K hK=>?_);go_simp;refine hK.out _ _ (HNE.out _) ?_;clear hK K;refine AF ?_;have HR:=Aa (show Bo w (W.setCell ⟨rb,9+n,none⟩ (.bool true)).drew B rb A s' from HQ.out W.drew (Tu _ _).drew);clear HQ ym zm;go_wp2;go_end0;exact⟨rfl,HR.out⟩
section
variable {B rb:Nat}{A:Ad}{s:Mc}{w:World}
theorem Al.keep5{w':World}{tag':Nat->Nat}(h:Al w B rb A s)(k:Ch B (fun d=>d=5) A.tag tag' w w'):Al w' B rb {A with tag:=tag'} s:=by
 obtain⟨r1,r2,r3⟩:=Ag.runKeep h k (by omega);exact⟨r1,⟨r2,r3⟩,h.fr.keep k (by omega),h.ar.keep k (by omega),h.out.keep k (by omega),h.hi.keep k (by omega),fun i hi=>(h.loc i hi).keep k (by omega),fun i hi=>(h.stk i hi).keep k (by omega),fun j hj=>(h.arr j hj).keep k (by omega)⟩
theorem Al.keepN{w':World}{tag':Nat->Nat}(h:Al w B rb A s)(k:Ch B (fun _=>False) A.tag tag' w w'):Al w' B rb {A with tag:=tag'} s :=
 h.keep5 (k.mono (fun _ h=>h.elim))
theorem LZ(pv fv av ov hv:Value)(s:Mc)(k:Nat)(hk:k<8):(CQ pv fv av ov hv s)[9+k]?=some (.bool (s.made k)):=by
 have:k=0\/k=1\/k=2\/k=3\/k=4\/k=5\/k=6\/k=7:=by omega
 rcases this with rfl|rfl|rfl|rfl|rfl|rfl|rfl|rfl<;>rfl
theorem Tryz.infoBool:(prog.info? 4).map (fun i=>(i.zero,i.size,i.bytes))=some (some (.bool false),1,1):=by kernel_rfl
theorem Al.newFrame{V3 V4 w5 w6 w7:World}{f0:Fr}{b0:Bool}{fb fcap hb hcap g1 cap1 g2 cap2:Nat}{lv:Value}(h:Al w B rb A s)(hB:B<=w.heap.size)(hst:f0.stk=[])(hpc:f0.pc=0)(hlen:s.high.length=s.fr.length)
  (hV3:Below w.heap.size w V3) (hlo:Ae V3 w.heap.size (fun _=>10+3 * s.fr.length) (10+3 * s.fr.length) 43 2 lv f0.loc.length (Ar f0.loc))
  (_hfv:A.fv=.slice (some ⟨fb,0,none⟩) s.fr.length fcap) (_hhv:A.hv=.slice (some ⟨hb,0,none⟩) s.fr.length hcap)
  (hV4:Below V3.heap.size V3 V4)
  (hown:w5.ownsRow B 73 4 (.slice (some ⟨g1,0,none⟩) (s.fr.length+1) cap1) (s.fr.length+1) ((List.range (s.fr.length * 4)).map (BG s.fr A.LV A.SV)++[.int .i64 f0.fn,.int .i64 0,lv,.slice none 0 0])) (hgrow:V4.grownBy w5 A.fv.ownBlock) (hat:A.fv.ownBlock=some g1\/g1=V4.heap.size)
  (h6:Below (w5.setCell ⟨rb,1,none⟩ (.slice (some ⟨g1,0,none⟩) (s.fr.length+1) cap1)).heap.size (w5.setCell ⟨rb,1,none⟩ (.slice (some ⟨g1,0,none⟩) (s.fr.length+1) cap1)) w6)
  (hown2:w7.ownsRow B 4 1 (.slice (some ⟨g2,0,none⟩) (s.fr.length+1) cap2) (s.fr.length+1) ((List.range (s.fr.length * 1)).map (fun i=>.bool (s.high.reverse.getD i false))++[.bool b0])) (hgrow2:w6.grownBy w7 A.hv.ownBlock) (hat2:A.hv.ownBlock=some g2\/g2=w6.heap.size) :
  ∃ A',Al (w7.setCell ⟨rb,8,none⟩ (.slice (some ⟨g2,0,none⟩) (s.fr.length+1) cap2)) B rb A' {s with fr:=f0::s.fr,high:=b0::s.high}/\A'.pv=A.pv/\Ch B Be A.tag A'.tag w (w7.setCell ⟨rb,8,none⟩ (.slice (some ⟨g2,0,none⟩) (s.fr.length+1) cap2)):=by
 have hz3:=hV3.size;have hz4:=hV4.size;obtain⟨t1,ht1⟩:∃ t1:Nat->Nat,t1=fun b=>if b<w.heap.size then A.tag b else 10+3 * s.fr.length:=⟨_,rfl⟩
 have c1:Ch B (fun _=>False) A.tag t1 w V4:=Ch.of_tags (hV3.trans (hV4.mono hz3)) (fun b hb=>by rw[ht1];show (if b<w.heap.size then A.tag b else _)=_;rw[if_pos hb]);have l1:=h.keepN c1;have lo1:Ae V4 B t1 (10+3 * s.fr.length) 43 2 lv f0.loc.length (Ar f0.loc):=by
  rcases hlo.below hV4 with h|⟨b,cap,cur,hv,hb,ht,hh,hr⟩
  ·exact Or.inl h
  ·exact Or.inr ⟨b,cap,cur,hv,by omega,by rw[ht1];show (if b<w.heap.size then A.tag b else _)=_;rw[if_neg (by omega)],hh,hr⟩
 have hfr1:=Ag.fr l1;obtain⟨hfr2,c2⟩:=hfr1.grewN (k:=1) hown hgrow hat (by simp);generalize ht2:(fun b=>if b<V4.heap.size then t1 b else 1)=t2 at hfr2 c2;have hrb4:=Ag.lt l1;have htr2:t2 rb=0:=(c2.tags rb hrb4).trans (Ag.own l1).2;have run2:w5.heap[rb]?=some (.cells (CQ A.pv A.fv A.av A.ov A.hv s) 155 (0,0)):=(c2.block rb hrb4 (Or.inr (by rw[(Ag.own l1).2];omega))).trans (Ag.run l1);have c3:Ch B (fun d=>d=0) t2 t2 w5 (w5.setCell ⟨rb,1,none⟩ (.slice (some ⟨g1,0,none⟩) (s.fr.length+1) cap1)):=Ch.set w5 _ _ _ h.own.1 htr2;have run3:=CD (i:=1) run2 (.slice (some ⟨g1,0,none⟩) (s.fr.length+1) cap1);have c4:Ch B (fun _=>False) t2 t2 (w5.setCell ⟨rb,1,none⟩ (.slice (some ⟨g1,0,none⟩) (s.fr.length+1) cap1)) w6:=Ch.of_below h6;have call:Ch B (fun d=>d=0\/d=1\/d=4) t1 t2 V4 w6:=((c2.mono (q:=fun d=>d=0\/d=1\/d=4) (fun d hd=>Or.inr (Or.inl hd))).trans (c3.mono (fun d hd=>Or.inl hd))).trans (c4.mono (fun _ h=>h.elim));have hz5:=c2.size;have hz6:w5.heap.size<=w6.heap.size:=by have:=c3.size;have:=c4.size;omega
 have run4:=(h6.block rb (by have:=(Array.getElem?_eq_some_iff.1 run3).1;exact this)).trans run3;have hhi1:Ae w6 B t2 4 4 1 A.hv s.high.length (fun i=>.bool (s.high.reverse.getD i false)):=(((Ag.hi l1).keep c2 (by omega)).keep c3 (by omega)).keep c4 (fun h=>h);rw[hlen] at hhi1;obtain⟨hhi2,c5⟩:=hhi1.grewN (k:=1) hown2 hgrow2 hat2 (by simp);generalize ht3:(fun b=>if b<w6.heap.size then t2 b else 4)=t3 at hhi2 c5;have hrb6:rb<w6.heap.size:=by omega
 have htr3:t3 rb=0:=(c5.tags rb hrb6).trans htr2;have run5:w7.heap[rb]?=_:=(c5.block rb hrb6 (Or.inr (by rw[htr2];omega))).trans run4;have c6:Ch B (fun d=>d=0) t3 t3 w7 (w7.setCell ⟨rb,8,none⟩ (.slice (some ⟨g2,0,none⟩) (s.fr.length+1) cap2)):=Ch.set w7 _ _ _ h.own.1 htr3;have run6:=CD (i:=8) run5 (.slice (some ⟨g2,0,none⟩) (s.fr.length+1) cap2);have cfin:Ch B (fun d=>d=0\/d=1\/d=4) t1 t3 V4 (w7.setCell ⟨rb,8,none⟩ (.slice (some ⟨g2,0,none⟩) (s.fr.length+1) cap2)):=(call.trans (c5.mono (fun d hd=>Or.inr (Or.inr hd)))).trans (c6.mono (fun d hd=>Or.inl hd));have c45:Ch B (fun d=>d=0\/d=4) t2 t3 w5 (w7.setCell ⟨rb,8,none⟩ (.slice (some ⟨g2,0,none⟩) (s.fr.length+1) cap2)):=(((c3.mono (q:=fun d=>d=0\/d=4) (fun d hd=>Or.inl hd)).trans (c4.mono (fun _ h=>h.elim))).trans (c5.mono (fun d hd=>Or.inr hd))).trans (c6.mono (fun d hd=>Or.inl hd));have hfin:=l1.pushedF (f0:=f0) (b0:=b0) (lv:=lv) (fv:=.slice (some ⟨g1,0,none⟩) (s.fr.length+1) cap1) (hv:=.slice (some ⟨g2,0,none⟩) (s.fr.length+1) cap2) cfin (by rw[run6];rfl)
  ((hfr2.keep c45 (by omega)).congr (fun i hi=>by
   have:=Qf s.fr f0 A.LV A.SV lv (.slice none 0 0) i hi;rw[hpc] at this;exact this))
  (by
   rw[hlen];refine(hhi2.keep c6 (by omega)).congr (fun i hi=>?_);have:=Of s.high b0 i (by omega);rw[hlen] at this;exact this)
  (lo1.keep cfin (by omega)) hst
 refine⟨_,hfin,rfl,(c1.mono (fun _ h=>h.elim)).trans (cfin.mono (fun d hd=>?_))⟩;unfold Be;omega
theorem Al.hiRow{X V4 w5:World}{g1 cap1:Nat}{news:List Value}(h:Al X B rb A s)(hV4:Below X.heap.size X V4)(hnl:news.length=4)
  (hown:w5.ownsRow B 73 4 (.slice (some ⟨g1,0,none⟩) (s.fr.length+1) cap1) (s.fr.length+1) ((List.range (s.fr.length * 4)).map (BG s.fr A.LV A.SV)++news)) (hgrow:V4.grownBy w5 A.fv.ownBlock) (hat:A.fv.ownBlock=some g1\/g1=V4.heap.size) (v:Value) :
  (∃ t2,Ae (w5.setCell ⟨rb,1,none⟩ v) B t2 4 4 1 A.hv s.high.length (fun i=>.bool (s.high.reverse.getD i false))) /\
  (w5.setCell ⟨rb,1,none⟩ v).heap[rb]?=some (.cells (CQ A.pv v A.av A.ov A.hv s) 155 (0,0)) /\
  w5.heap[rb]?=some (.cells (CQ A.pv A.fv A.av A.ov A.hv s) 155 (0,0)) /\
  (∀ b,b<X.heap.size->A.tag b≠0->A.tag b≠1->w5.heap[b]?=X.heap[b]?/\(w5.setCell ⟨rb,1,none⟩ v).heap[b]?=X.heap[b]?)/\X.heap.size<=w5.heap.size:=by
 have c1:Ch B (fun _=>False) A.tag A.tag X V4:=Ch.of_below hV4;have l1:=h.keepN c1;obtain⟨_,c2⟩:=(Ag.fr l1).grewN (k:=1) hown hgrow hat hnl;generalize (fun b=>if b<V4.heap.size then A.tag b else 1)=t2 at c2;have hrb4:=Ag.lt l1;have htr2:t2 rb=0:=(c2.tags rb hrb4).trans h.own.2;have run2:w5.heap[rb]?=some (.cells (CQ A.pv A.fv A.av A.ov A.hv s) 155 (0,0)):=(c2.block rb hrb4 (Or.inr (by show ¬A.tag rb=1;rw[h.own.2];omega))).trans (Ag.run l1);have c3:Ch B (fun d=>d=0) t2 t2 w5 (w5.setCell ⟨rb,1,none⟩ v):=Ch.set w5 _ _ _ h.own.1 htr2;have hz:X.heap.size<=w5.heap.size:=Nat.le_trans hV4.size c2.size;refine⟨⟨t2,((Ag.hi l1).keep c2 (by omega)).keep c3 (by omega)⟩,?_,run2,fun b hb h0 h1=>?_,hz⟩
 ·rw[CD run2 _];rfl
 ·have hbV:b<V4.heap.size:=Ts hb hV4.size;have k1:w5.heap[b]?=X.heap[b]?:=(c2.block b hbV (Or.inr (fun h=>h1 h))).trans (hV4.block b hb);refine⟨k1,?_⟩;rw[c3.block b (by omega) (Or.inr (by rw[c2.tags b hbV];exact h0))];exact k1
end
end Go.Proofs.YtkafkipjedpohaaGreatDoor

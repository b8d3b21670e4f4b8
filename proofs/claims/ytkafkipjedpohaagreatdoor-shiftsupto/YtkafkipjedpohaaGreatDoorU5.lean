import Derived.Test.YtkafkipjedpohaaGreatDoorU10
namespace Go.Proofs.YtkafkipjedpohaaGreatDoor
set_option maxRecDepth 100000
set_option maxHeartbeats 16000000
open Go.RowKit _root_.Go.Proofs.Tryz
def E8(q j:Nat)(f:Nat->Value)(i:Nat):Value:=if i<j then .int .i64 (Cs q) else f i
theorem O9(q j:Nat)(f:Nat->Value)(i:Nat):Ac (E8 q j f) j (.int .i64 (Cs q)) i=E8 q (j+1) f i:=by
 by_cases h1:i=j
 ·subst h1;rw[Au];unfold E8;rw[if_pos (by omega)]
 ·rw[Ao _ _ _ _ h1];unfold E8;by_cases h3:i<j
  ·rw[if_pos h3,if_pos (by omega)]
  ·rw[if_neg h3,if_neg (by omega)]
def Lk(w:World)(B:Nat)(t:Nat->Nat)(c:Nat)(lv:Value)(nl q j:Nat)(f:Nat->Value)(wr:World):Prop :=
 Ae wr B t c 3 1 lv nl (E8 q j f)/\Ch B (fun d=>d=c) t t w wr
theorem Jx(q:Nat)(mv:Int)(hm:Cs q=mv)(k:Nat)(hk:k=1\/k=2\/k=3):∃ news:List Value,news=(if k=1 then [.int .i64 mv] else if k=2 then [.int .i64 mv,.int .i64 mv] else [.int .i64 mv,.int .i64 mv,.int .i64 mv])/\news.length=k * 1/\(∀ r,r<k * 1->news[r]?=some (Fp q (r % 1)))/\∀ u,u∈news->u.oneCell'=true:=by
 have v0:∀ i,Fp q i=.int .i64 mv:=fun i=>by unfold Fp;rw[hm]
 rcases hk with rfl|rfl|rfl
 ·refine⟨_,rfl,rfl,fun r hr=>?_,fun u hu=>?_⟩
  ·obtain rfl:r=0:=by omega
   exact congrArg some (v0 _).symm
  ·simp at hu;rw[hu];rfl
 ·refine⟨_,rfl,rfl,fun r hr=>?_,fun u hu=>?_⟩
  ·have:r=0\/r=1:=by omega
   rcases this with rfl|rfl
   ·exact congrArg some (v0 _).symm
   ·exact congrArg some (v0 _).symm
  ·simp at hu;rw[hu];rfl
 ·refine⟨_,rfl,rfl,fun r hr=>?_,fun u hu=>?_⟩
  ·have:r=0\/r=1\/r=2:=by omega
   rcases this with rfl|rfl|rfl
   ·exact congrArg some (v0 _).symm
   ·exact congrArg some (v0 _).symm
   ·exact congrArg some (v0 _).symm
  ·simp at hu;rw[hu];rfl
theorem Tryz.infoIntU:(prog.info? 3).map (fun i=>(i.zero,i.size,i.bytes))=some (some (.int .i64 0),1,8):=by kernel_rfl
theorem Ob(w:World)(B wb:Nat)(A:AN)(Kd:Nat->Prop)(n:Nat->Nat)(q c:Nat)(lp:Option Addr)(lc nl:Nat)(f:Nat->Value)(h:AZ w B wb A Kd n)(hq:n 3=4 * q)(hq2:q<=1000000000000)(hl:Ae w B A.tag c 3 1 (.slice lp nl lc) nl f)(hnl:nl<=200000)(hck:¬Kd c)(hcw:¬Wt c) :
  Calls prog 55 #[.pointer (some ⟨wb,2,none⟩),.slice lp nl lc] w fun e w'=>e=.returned (.tuple #[]) /\
   ∃ A':AN,AZ w' B wb A' (fun d=>Kd d\/d=c) (Ac n 3 (4 * (q+1)))/\A'.cv=A.cv/\A'.pv=A.pv/\A'.XB=A.XB/\Ch B (fun d=>d=0\/d=8\/d=c) A.tag A'.tag w w':=by
 have hrv:=h.row 3 (by omega);rw[hq] at hrv;obtain⟨vp,vc,hvv⟩:∃ vp vc,A.hv 3=.slice vp (4 * q) vc:=by
  rcases hrv with⟨h1,h2⟩|⟨b,cap,cur,h1,_⟩
  ·exact⟨none,0,by rw[h1,h2]⟩
  ·exact⟨_,_,h1⟩
 have x2:w.cell? ⟨wb,5,none⟩=some (.slice vp (4 * q) vc):=by rw[Ab h.blk,<-hvv];rfl
 have e1:Int.tdiv (4 * (q:Int)) 4=(q:Int):=by rw[Int.mul_comm];exact Int.mul_tdiv_cancel _ (by omega)
 have e2:wrap64 (-1000-(q:Int))=-1000-(q:Int):=by unfold wrap64;omega
 have hwz:=Ah h.blk;have hBw:=h.le;have HX:=Aa (Tc h (Tc hl (Tc hck (Tc hcw (Tc hq hvv)))));clear h hrv hl hck hcw hvv;go_enter func55,ntmps55
 go_wp2;clear e1 e2;generalize hmv:(-1000-(q:Int))=mv at *;have HMV:=Aa hmv;clear hmv x2;go_loopw [5] (fun v wr=>∃ j:Nat,j<=nl/\v=.int .i64 j/\Lk w B A.tag c (.slice lp nl lc) nl q j f wr) (fun v _=>nl-(intOf v).toNat)
 case atStart =>
  refine⟨0,Tt _,rfl,HX.out.2.1.congr (fun i hi=>?_),Ch.refl _ _ _ _⟩;unfold E8;rw[if_neg (by omega)]
 case round =>
  obtain⟨j,hj,rfl,hrow,hch⟩:=hrel;by_cases hlt:j<nl
  ·have hd:decide ((j:Int)<(nl:Int))=true:=by simp;omega
   obtain⟨b,cap,e1,hb,hbz,hbt,hcap⟩:=hrow.form (by omega);injection e1 with e1 _ e3;subst e1;subst e3;have y0:=hrow.cell (i:=j) (by omega);have z0:=hrow.frozen j;have HN:=Aa (show Lk w B A.tag c (.slice (some ⟨b,0,none⟩) nl lc) nl q (j+1) f (wr.setCell ⟨b,j,none⟩ (.int .i64 mv)) from by
    refine⟨(hrow.set j (.int .i64 mv)).congr (fun i _=>?_),hch.trans (Ch.set wr _ _ _ hb hbt)⟩;rw[<-O9];unfold Cs;rw[HMV.out])
   generalize E8 q j f j=u0 at y0;clear hrow hch hb hbt;go_wp2;exact⟨⟨j+1,by omega,by go_num,HN.out⟩,by simp[intOf];omega⟩
  ·have hd:decide ((j:Int)<(nl:Int))=false:=by simp;omega
   obtain rfl:j=nl:=by omega
   obtain⟨inf,hi,hz0,hz1,hz2⟩:∃ i,prog.info? 3=some i/\i.zero=some (.int .i64 0)/\i.size=1/\i.bytes=8:=by
    obtain⟨i,hi,hzz⟩:=Tp.1 Tryz.infoIntU;simp only[Prod.mk.injEq] at hzz;exact⟨i,hi,hzz.1,hzz.2.1,hzz.2.2⟩
   obtain⟨hH,hlrow,hck,hcw,hq,hvv⟩:=HX.out;have hrow2:Ae wr B A.tag c 3 1 (.slice lp j lc) j (fun i=>Fp q (i % 1)):=hrow.congr (fun i hi=>by unfold E8;rw[if_pos (by omega)];rfl);have ks0:KS wr B A.tag c 3 1 (.slice lp j lc) j (Fp q) [.slice lp j lc]:=⟨hrow2,fun v hv=>by
    obtain rfl:v=.slice lp j lc:=by simpa using hv
    exact hrow2.full (by omega) rfl (fun _ _=>rfl)⟩
   have hBr:B<=wr.heap.size:=by have:=hch.size;omega
   have hmq:Cs q=mv:=HMV.out;obtain⟨nw1,en1,hl1,hr1,ho1⟩:=Jx q mv hmq 1 (Or.inl rfl);rw[if_pos rfl] at en1;obtain⟨g1,c1,w1,r1,_,t2,ks1,ch1,hB1⟩:=ks0.app (P:=prog) hBr hnl 1 (by omega) (by omega) nw1 hl1 hr1 ho1 66 66 3 inf _ 8 underlying66 hi hz0 hz1 hz2 rfl (by decide) (by omega);obtain⟨nw2,en2,hl2,hr2,ho2⟩:=Jx q mv hmq 2 (Or.inr (Or.inl rfl));rw[if_neg (by omega),if_pos rfl] at en2;obtain⟨g2,c2,w2,r2,_,t3,ks2,ch2,hB2⟩:=ks1.app (P:=prog) hB1 hnl 2 (by omega) (by omega) nw2 hl2 hr2 ho2 66 66 3 inf _ 8 underlying66 hi hz0 hz1 hz2 rfl (by decide) (by omega);obtain⟨nw3,en3,hl3,hr3,ho3⟩:=Jx q mv hmq 3 (Or.inr (Or.inr rfl));rw[if_neg (by omega),if_neg (by omega)] at en3;obtain⟨g3,c3,w3,r3,_,t4,ks3,ch3,hB3⟩:=ks2.app (P:=prog) hB2 hnl 3 (by omega) (by omega) nw3 hl3 hr3 ho3 66 66 3 inf _ 8 underlying66 hi hz0 hz1 hz2 rfl (by decide) (by omega);rw[en1] at r1;rw[en2] at r2;rw[en3] at r3;have hkc:∀ d,Kd d\/Wt d->¬d=c:=fun d hd e=>by rcases hd with hd|hd;exact hck (e ▸ hd);exact hcw (e ▸ hd)
   have hH3:=(((hH.keep hch hkc).keep ch1 hkc).keep ch2 hkc).keep ch3 hkc;have hH4:=hH3.retag (Kd':=fun d=>Kd d\/d=c) (tag':=t4) (fun b _ _=>rfl) (fun b _ h=>Or.inl h) (fun d hd=>by rcases hd with hd|hd;exact hH.kd d hd;rw[hd];exact hcw);have hfull:∀ v,v∈[Value.slice (some ⟨g3,0,none⟩) (j+3) c3,.slice (some ⟨g2,0,none⟩) (j+2) c2,.slice (some ⟨g1,0,none⟩) (j+1) c1,.slice lp j lc]->Ck w3 B t4 (fun d=>Kd d\/d=c) 1 v (Fp q):=fun v hv=>(ks3.full v hv).retag (fun b _ h=>Or.inr h)
   have x3:w3.cell? ⟨wb,5,none⟩=some (.slice vp (4 * q) vc):=by rw[Ab hH4.blk,<-hvv];rfl
   have hwz3:wb<w3.heap.size:=Ah hH4.blk;obtain⟨ga,ca,wa,ra,xa,za,_,WA,eA,yA,lA,gb,cb,wb2,rb,xb,zb,WB,eB,yB,lB,gc,cc,wc2,rc,xc,zc,WC,eC,yC,lC,gd,cd,wd,rd,xd,zd,A',hA',cvA,pvA,xbA,chA⟩:=hH4.four 3 (by omega) q (fun e=>by omega) hq hq2 vp vc hvv _ _ _ _ 66 92 (hfull (.slice lp j lc) (by simp)) (hfull (.slice (some ⟨g1,0,none⟩) (j+1) c1) (by simp)) (hfull (.slice (some ⟨g2,0,none⟩) (j+2) c2) (by simp)) (hfull (.slice (some ⟨g3,0,none⟩) (j+3) c3) (by simp));have xa':wa.cell? ⟨wb,5,none⟩=some (.slice vp (4 * q) vc):=xa;have za':wa.frozen? ⟨wb,5,none⟩=false:=za;have xb':wb2.cell? ⟨wb,5,none⟩=some (.slice (some ⟨ga,0,none⟩) (4 * q+1) ca):=xb;have zb':wb2.frozen? ⟨wb,5,none⟩=false:=zb;have xc':wc2.cell? ⟨wb,5,none⟩=some (.slice (some ⟨gb,0,none⟩) (4 * q+1+1) cb):=xc;have zc':wc2.frozen? ⟨wb,5,none⟩=false:=zc;have xd':wd.cell? ⟨wb,5,none⟩=some (.slice (some ⟨gc,0,none⟩) (4 * q+1+1+1) cc):=xd;have zd':wd.frozen? ⟨wb,5,none⟩=false:=zd;have eA':WA=wa.setCell ⟨wb,5,none⟩ (.slice (some ⟨ga,0,none⟩) (4 * q+1) ca):=eA;have eB':WB=wb2.setCell ⟨wb,5,none⟩ (.slice (some ⟨gb,0,none⟩) (4 * q+1+1) cb):=eB;have eC':WC=wc2.setCell ⟨wb,5,none⟩ (.slice (some ⟨gc,0,none⟩) (4 * q+1+1+1) cc):=eC;have lA':wb<wa.heap.size:=by have:=lA;rw[eA'] at this;simpa using this
   have lB':wb<wb2.heap.size:=by have:=lB;rw[eB'] at this;simpa using this
   have lC':wb<wc2.heap.size:=by have:=lC;rw[eC'] at this;simpa using this
   rw[eA',show (wa.setCell ⟨wb,5,none⟩ (.slice (some ⟨ga,0,none⟩) (4 * q+1) ca)).heap.size=wa.heap.size by simp] at rb;rw[eB',show (wb2.setCell ⟨wb,5,none⟩ (.slice (some ⟨gb,0,none⟩) (4 * q+1+1) cb)).heap.size=wb2.heap.size by simp] at rc;rw[eC',show (wc2.setCell ⟨wb,5,none⟩ (.slice (some ⟨gc,0,none⟩) (4 * q+1+1+1) cc)).heap.size=wc2.heap.size by simp] at rd;clear xa za xb zb xc zc xd zd eA eB eC yA yB yC lA lB lC eA' eB' eC';have hcall:Ch B (fun d=>d=0\/d=8\/d=c) A.tag A'.tag w _:=((((hch.mono (q:=fun d=>d=0\/d=8\/d=c) (fun d hd=>Or.inr (Or.inr hd))).trans (ch1.mono (fun d hd=>Or.inr (Or.inr hd)))).trans (ch2.mono (fun d hd=>Or.inr (Or.inr hd)))).trans (ch3.mono (fun d hd=>Or.inr (Or.inr hd)))).trans (chA.mono (fun d hd=>by omega));have HQ:=Aa (Tc hA' (Tc cvA (Tc pvA (Tc xbA hcall))));have HR:=Aa (Tc r1 (Tc r2 (Tc r3 (Tc ra (Tc rb (Tc rc rd))))));clear ks0 ks1 ks2 ks3 ch1 ch2 ch3 chA hA' hcall hfull hH3 hH4 hH hrow hrow2 hlrow hch r1 r2 r3 ra rb rc rd en1 en2 en3 hl1 hl2 hl3 hr1 hr2 hr3 ho1 ho2 ho3 hkc cvA pvA xbA hck hcw hvv hq HX HMV hi hz0 hz1 hz2;go_wp2_with (at_builtin;refine B5 rfl _ _ 66 rfl ?_)
   refine⟨?_,trivial⟩;refine BV _ rfl _ _ 66 rfl _ _ _ _ rfl rfl HR.out.1 ?_;go_wp2_with (at_builtin;refine B5 rfl _ _ 66 rfl ?_)
   refine⟨?_,trivial⟩;refine BV _ rfl _ _ 66 rfl _ _ _ _ rfl rfl HR.out.2.1 ?_;go_wp2_with (at_builtin;refine B5 rfl _ _ 66 rfl ?_)
   refine⟨?_,trivial⟩;refine BV _ rfl _ _ 66 rfl _ _ _ _ rfl rfl HR.out.2.2.1 ?_;go_wp2_with (at_builtin;refine B5 rfl _ _ 92 rfl ?_)
   refine⟨?_,trivial⟩;refine BV _ rfl _ _ 92 rfl _ _ _ _ rfl rfl HR.out.2.2.2.1 ?_;clear x3;go_wp2_with (at_builtin;refine B5 rfl _ _ 92 rfl ?_)
   refine⟨?_,trivial⟩;refine BV _ rfl _ _ 92 rfl _ _ _ _ rfl rfl HR.out.2.2.2.2.1 ?_;clear xa' za' lA';go_wp2_with (at_builtin;refine B5 rfl _ _ 92 rfl ?_)
   refine⟨?_,trivial⟩;refine BV _ rfl _ _ 92 rfl _ _ _ _ rfl rfl HR.out.2.2.2.2.2.1 ?_;clear xb' zb' lB';go_wp2_with (at_builtin;refine B5 rfl _ _ 92 rfl ?_)
   refine⟨?_,trivial⟩;refine BV _ rfl _ _ 92 rfl _ _ _ _ rfl rfl HR.out.2.2.2.2.2.2 ?_;clear xc' zc' lC';go_wp2;go_end0;exact⟨rfl,A',HQ.out⟩
section
variable {w:World}{xs:List V}{b n j:Nat}
theorem AB.goto{B mb:Nat}{A:Af}{s:Mc}{en:Int}{f:Fr}{rest:List Fr}(h:AB w B mb A s en)(hs:s.fr=f::rest)(pc:Nat) :
  AB (w.setCell ⟨A.FB rest.length,1,none⟩ (.int .i64 pc)) B mb A {s with fr:={f with pc:=pc}::rest} en/\Ch B (Tk rest.length) A.tag A.tag w (w.setCell ⟨A.FB rest.length,1,none⟩ (.int .i64 pc)):=by
 have hlen:s.fr.length=rest.length+1:=by rw[hs];rfl
 have e0:Am s.fr rest.length=f:=by rw[hs];exact Bg _ _
 obtain⟨g1,g2,g3⟩:=h.fb rest.length (by omega);have hrow:=h.stk rest.length (by omega);have hloc:=h.loc rest.length (by omega);rw[e0] at g1 hrow hloc;have hc:Ch B (fun d=>d=10+4 * rest.length) A.tag A.tag w (w.setCell ⟨A.FB rest.length,1,none⟩ (.int .i64 pc)):=Ch.set w _ _ _ g2 g3;have hc2:Ch B (Tk rest.length) A.tag A.tag w (w.setCell ⟨A.FB rest.length,1,none⟩ (.int .i64 pc)):=hc.mono (fun d hd=>Or.inl hd);have:=h.top (f':={f with pc:=pc}) (lv:=A.LV rest.length) (sv:=A.SV rest.length) hs hc2 (AM g1 _) (hloc.keep hc (by omega)) (hrow.keep hc (by omega));have e1:Ac A.LV rest.length (A.LV rest.length)=A.LV:=by funext i;unfold Ac;split<;>simp_all
 have e2:Ac A.SV rest.length (A.SV rest.length)=A.SV:=by funext i;unfold Ac;split<;>simp_all
 rw[e1,e2] at this;exact⟨this,hc2⟩
def Ef(w:World)(b n j:Nat)(xs:List V):Prop :=
 ∃ cur:Array Value,w.heap[b]?=some (.cells cur 43 (0,0))/\cur.size=n * 2/\∀ i,i<j->cur[(n-1-i) * 2]?=some (.int .i64 (xs.getD i As).k)/\cur[(n-1-i) * 2+1]?=some (.int .i64 (xs.getD i As).n)
theorem Ef.keep{w':World}{B:Nat}{tag tag':Nat->Nat}{p:Nat->Prop}(h:Ef w b n j xs)(k:Ch B p tag tag' w w')(hp:¬p (tag b)):Ef w' b n j xs:=by
 obtain⟨cur,h1,h2⟩:=h;exact⟨cur,(Bq h1 k hp).1,h2⟩
theorem Ef.set(h:Ef w b n j xs)(hj:j<n):Ef ((w.setCell ⟨b,(n-1-j) * 2,none⟩ (.int .i64 (xs.getD j As).k)).setCell ⟨b,(n-1-j) * 2+1,none⟩ (.int .i64 (xs.getD j As).n)) b n (j+1) xs:=by
 obtain⟨cur,h1,h2,h3⟩:=h;refine⟨_,AM (AM h1 _) _,by simpa using h2,fun i hi=>?_⟩;by_cases e:i=j
 ·subst e;constructor
  ·rw[Array.getElem?_setIfInBounds_ne (by omega),Array.getElem?_setIfInBounds_self_of_lt (by omega)]
  ·rw[Array.getElem?_setIfInBounds_self_of_lt (by simp;omega)]
 ·obtain⟨g1,g2⟩:=h3 i (by omega);constructor
  ·rw[Array.getElem?_setIfInBounds_ne (by omega),Array.getElem?_setIfInBounds_ne (by omega)];exact g1
  ·rw[Array.getElem?_setIfInBounds_ne (by omega),Array.getElem?_setIfInBounds_ne (by omega)];exact g2
theorem Ef.args(h:Ef w b n n xs)(hn:xs.length=n)(c:Nat):Cq w (.slice (some ⟨b,0,none⟩) n c) xs.reverse:=by
 obtain⟨cur,h1,h2,h3⟩:=h;refine Or.inr ⟨b,c,by simp[hn],Ah h1,fun i hi=>?_⟩;rw[List.length_reverse,hn] at hi;rw[Ab h1];obtain⟨g1,g2⟩:=h3 (n-1-i / 2) (by omega);rw[show n-1-(n-1-i / 2)=i / 2 by omega] at g1 g2;have hx:xs.reverse.getD (i / 2) As=xs.getD (n-1-i / 2) As:=by
  rw[Tj,Tj,List.getElem?_reverse (by omega),hn]
 unfold Ar;rw[hx];have:i % 2=0\/i % 2=1:=by omega
 rcases this with e|e
 ·rw[if_pos e];rw[show i / 2 * 2=i by omega] at g1;exact g1
 ·rw[if_neg (by omega)];rw[show i / 2 * 2+1=i by omega] at g2;exact g2
theorem K0{r:List V}{g:V}{stk:List V}(h:stk=xs++g::r)(hj:j<xs.length):stk.drop j=xs.getD j As::stk.drop (j+1):=by
 have hl:j<stk.length:=by rw[h];simp;omega
 rw[List.drop_eq_getElem_cons hl];congr 1;rw[Tj];have:stk[j]?=xs[j]?:=by rw[h,Tq hj]
 rw[<-this,List.getElem?_eq_getElem hl];rfl
theorem KR(w:World)(B mb m:Nat)(A:Af)(s:Mc)(en:Int)(F:Nat->PF)(MV:Nat->Value)(f:Fr)(rest:List Fr)(xs r:List V)(g:V)(cnt:Nat)(hM:AH w B mb m F MV A s en)(hs:s.fr=f::rest)(hst:f.stk=xs++g::r)(hxs:xs.length=cnt)(hcnt:cnt<=8)(hr:r.length<=20)(hg:g.k=3->0<=g.n/\g.n<m)(hfun:∀ k,k<m->0<=(F k).locals/\(F k).locals<=8/\(F k).args<=(F k).locals)(hfr:rest.length<=30)(hm:m<=8)(hpc:f.pc<=64) :
  Calls prog 130 #[.pointer (some ⟨mb,0,none⟩),.pointer (some ⟨A.FB rest.length,0,none⟩),.int .i64 cnt] w fun e w' =>
   ((g.k≠3\/(F g.n.toNat).args≠cnt)/\e=BT 6/\AQ w B mb m F MV (rest.length+1) A {s with fr:={f with stk:=r}::rest} en w') \/
   (¬(g.k≠3\/(F g.n.toNat).args≠cnt)/\24<=rest.length+1/\e=BT 7/\AQ w B mb m F MV (rest.length+1) A {s with fr:={f with stk:=r}::rest} en w') \/
   (¬(g.k≠3\/(F g.n.toNat).args≠cnt)/\¬24<=rest.length+1/\e=.returned (.tuple #[])/\AQ w B mb m F MV (rest.length+1) A {s with fr:=⟨g.n.toNat,0,xs.reverse++List.replicate ((F g.n.toNat).locals.toNat-cnt) As,[]⟩::{f with pc:=f.pc+1,stk:=r}::rest,high:=s.made g.n.toNat::s.high} en w'):=by
 have hmk:=fun wx=>Fs (cnt:Int) (by omega) (by omega) wx
 simp only[Int.toNat_natCast] at hmk;have hB:=hM.le;have HS:=Aa (Tc hst hxs);have HG:=Aa (Tc hg (Tc hfun hm));have HL:=Aa hM;have hstl:f.stk.length<=64:=by rw[hst];simp;omega
 generalize hfb:A.FB rest.length=fb at *;have HF:=Aa hfb;clear hst hxs hg hfun hm hM hfb;go_enter func130,ntmps130
 go_wp2;go_loopw [13] (fun v wr=>∃ j:Nat,j<=cnt/\v=.int .i64 j/\∃ A1:Af,AB wr B mb A1 {s with fr:={f with stk:=f.stk.drop j}::rest} en/\A1.g=A.g/\A1.tag w.heap.size=5/\Ch B N5 A.tag A1.tag w wr/\Ef wr w.heap.size cnt j xs) (fun v _=>cnt-(intOf v).toNat)
 case atStart =>
  have hb:=HL.out.lay.box (.cells (Bm cnt) 43);refine⟨0,by omega,rfl,{A with tag:=Ac A.tag w.heap.size 5},?_,rfl,Au _ _ _,Ch.of_tags ((Tu _ _).alloc (Te _) _) (fun b hb=>Ao _ _ _ _ (by omega)),Bm cnt,Tv _ _,by simp[Bm,size_madeCells],fun i hi=>by omega⟩;have e:({s with fr:={f with stk:=f.stk.drop 0}::rest}:Mc)=s:=by rw[List.drop_zero];cases s;simp at hs;simp[hs]
  rw[e];exact hb
 case round =>
  obtain⟨j,hj,rfl,A1,l1,p1,t1,c1,d1⟩:=hrel;have f1:A1.FB=A.FB:=by unfold Af.FB;rw[p1]
  by_cases hlt:j<cnt
  ·have hdec:decide ((j:Int)<(cnt:Int))=true:=by simp;omega
   have hdrop:=K0 HS.out.1 (j:=j) (by rw[HS.out.2];exact hlt);have hpop:=MQ (fbk:=fb) l1 rfl hdrop (by simp;omega) (by rw[f1];exact HF.out) wr (Tu _ _);have HP:=Aa hpop;have HX:=Aa (Tc p1 (Tc t1 (Tc c1 d1)));clear hpop l1 p1 f1 t1 c1 d1 hdrop hmk;go_wp2_with fail
   refine HP.out.mono ?_;rintro e w2 ⟨rfl,A2,l2,p2,c2⟩;obtain⟨p1,t1,c1,d1⟩:=HX.out;have d2:=d1.keep c2 (by rw[t1];exact Ht _);have hab:w.heap.size<wr.heap.size:=Ah d1.choose_spec.1;have t2:A2.tag w.heap.size=5:=(c2.tags _ hab).trans t1;have d3:=d2.set hlt;obtain⟨cur,hc1,hc2,_⟩:=d2;obtain⟨p,hp⟩:∃ p:Nat,p=cnt-1-j:=⟨_,rfl⟩
   rw[<-hp] at d3;have hp2:p<cnt:=by omega
   obtain⟨u0,hu0⟩:∃ u,cur[p * 2]?=some u:=⟨_,Array.getElem?_eq_getElem (by omega)⟩
   obtain⟨u1,hu1⟩:∃ u,cur[p * 2+1]?=some u:=⟨_,Array.getElem?_eq_getElem (by omega)⟩
   have x0:w2.cell? ⟨w.heap.size,p * 2,none⟩=some u0:=(Ab hc1).trans hu0;have x1:w2.cell? ⟨w.heap.size,p * 2+1,none⟩=some u1:=(Ab hc1).trans hu1;have z0:w2.frozen? ⟨w.heap.size,p * 2,none⟩=false:=Ax hc1;have z1:w2.frozen? ⟨w.heap.size,p * 2+1,none⟩=false:=Ax hc1;have hch5:Ch B (fun d=>d=5) A2.tag A2.tag w2 ((w2.setCell ⟨w.heap.size,p * 2,none⟩ (.int .i64 (xs.getD j As).k)).setCell ⟨w.heap.size,p * 2+1,none⟩ (.int .i64 (xs.getD j As).n)):=(Ch.set w2 _ _ _ (by omega) t2).trans (Ch.set _ _ _ _ (by omega) t2);have hchw:Ch B N5 A.tag A2.tag w ((w2.setCell ⟨w.heap.size,p * 2,none⟩ (.int .i64 (xs.getD j As).k)).setCell ⟨w.heap.size,p * 2+1,none⟩ (.int .i64 (xs.getD j As).n)):=((c1.trans (c2.mono (fun _=>Ek))).setNew (Te _) _).setNew (Te _) _;have HN:=Aa (Tc (l2.keep5 hch5) (Tc (p2.trans p1) (Tc t2 (Tc hchw d3))));have e1:wrap64 ((cnt:Int)-1)=(cnt:Int)-1:=by unfold wrap64;omega
   have e2:wrap64 ((cnt:Int)-1-(j:Int))=(p:Int):=by unfold wrap64;omega
   have e3:(cnt:Int)-1-(j:Int)=(p:Int):=by omega
   have i0:(0:Int)<=(p:Int):=by omega
   have i1:(p:Int)<(cnt:Int):=by omega
   clear hch5 hchw d3 l2 p2 c2 p1 t1 c1 d1 hc1 hc2 t2 HP HX hu0 hu1 hp;generalize xs.getD j As=x at *;go_wp2;exact⟨⟨j+1,by omega,by go_num,A2,HN.out⟩,by simp[intOf];omega⟩
  ·have hdec:decide ((j:Int)<(cnt:Int))=false:=by simp;omega
   obtain rfl:j=cnt:=by omega
   have hdrop:f.stk.drop j=g::r:=by rw[HS.out.1,List.drop_append_of_le_length (by rw[HS.out.2];exact Te _),List.drop_of_length_le (by rw[HS.out.2];exact Te _)];rfl
   have hpop:=MQ (fbk:=fb) l1 rfl hdrop (by omega) (by rw[f1];exact HF.out) wr (Tu _ _);have HP:=Aa hpop;have HX:=Aa (Tc p1 (Tc t1 (Tc c1 d1)));clear hpop l1 p1 f1 t1 c1 d1 hdrop hmk;go_wp2_with fail
   refine HP.out.mono ?_;rintro e w2 ⟨rfl,h2⟩;obtain⟨A3,l3,p3,t3,c3⟩:=h2.boxed (.cells #[.int .i64 g.k,.int .i64 g.n] 43);obtain⟨p1,t1,c1,d1⟩:=HX.out;have hab:w.heap.size<wr.heap.size:=Ah d1.choose_spec.1;have d3:=d1.keep c3 (by rw[t1];exact Ht _);have c4:Ch B N5 A.tag A3.tag w (w2.alloc (.cells #[.int .i64 g.k,.int .i64 g.n] 43)):=c1.trans (c3.mono (fun _=>Ek));have t4:A3.tag w.heap.size=5:=(c3.tags _ hab).trans t1;have hM3:AH (w2.alloc (.cells #[.int .i64 g.k,.int .i64 g.n] 43)) B mb m F MV A3 {s with fr:={f with stk:=r}::rest} en:=HL.out.same l3 (p3.trans p1) c4 ⟨by rw[hs];rfl,rfl,rfl,rfl,rfl,rfl⟩;have b0:(w2.alloc (.cells #[.int .i64 g.k,.int .i64 g.n] 43)).cell? ⟨w2.heap.size,0,none⟩=some (.int .i64 g.k):=BP w2 _ _ _ _ rfl;have b1:(w2.alloc (.cells #[.int .i64 g.k,.int .i64 g.n] 43)).cell? ⟨w2.heap.size,1,none⟩=some (.int .i64 g.n):=BP w2 _ _ _ _ rfl;have HY:=Aa (Tc b0 b1);have HM:=Aa (Tc hM3 (Tc (p3.trans p1) (Tc (Tc t3 t4) (Tc d3 c4))));have hz3:w2.heap.size<(w2.alloc (.cells #[.int .i64 g.k,.int .i64 g.n] 43)).heap.size:=by simp
   clear l3 p3 t3 c3 p1 t1 c1 d1 d3 b0 b1 h2 HP HX c4 t4 hM3 hdec hj hlt;go_wp2_with fail
   obtain⟨b0,b1⟩:=HY.out;clear HY;generalize w2.alloc (.cells #[.int .i64 g.k,.int .i64 g.n] 43)=W at *;generalize w2.heap.size=bx at *;have HT6:=Aa (fun k:Nat=>(show AQ w B mb m F MV (rest.length+1) A {s with fr:={f with stk:=r}::rest} en (W.drewN k) from by
    obtain⟨q1,q2,_,_,q5⟩:=HM.out;have hV:Below W.heap.size W (W.drewN k):=below_drewN (Tu _ _) _;exact⟨A3,q1.same (q1.lay.below hV) rfl (Ch.of_below hV) ⟨rfl,rfl,rfl,rfl,rfl,rfl⟩,Bw.of q2,q5.trans' hV,fun i _ _=>Dc q2 i,fun i hi=>⟨fun _=>by rw[q2],fun h=>absurd (show i<rest.length+1 from hi) (by omega)⟩⟩))
   by_cases h3:g.k=3
   ·have hk:(g.k != 3)=false:=by simpa using h3
    obtain⟨gn0,gn1⟩:=HG.out.1 h3;obtain⟨gn,hgn⟩:∃ gn:Nat,g.n=gn:=⟨g.n.toNat,by omega⟩
    have hgt:g.n.toNat=gn:=by omega
    obtain⟨pb,po,pc,CA,CC,hpv,hPA,hpb,_⟩:=HM.out.1.pg.at_;have a0:=(hPA.fn gn (by omega)).args;have r0:W.cell? ⟨mb,0,none⟩=some (.slice (some ⟨pb,po,none⟩) m pc):=by rw[Ab HM.out.1.lay.run,<-hpv];rfl
    have i0:(0:Int)<=(gn:Int):=by omega
    have i1:(gn:Int)<(m:Int):=by omega
    rw[hgn] at b1;have HG3:=Aa (Tc h3 (Tc hgn hgt));clear h3 hgn hgt gn0 gn1 hPA hpv;by_cases ha:(F gn).args=(j:Int)
    ·have hka:((F gn).args != (j:Int))=false:=by simpa using ha
     have HA:=Aa ha;clear ha;have hno:Hid (¬(g.k≠3\/(F g.n.toNat).args≠(j:Int))):=by unfold Hid;rw[HG3.out.2.2];have:=HG3.out.1;have:=HA.out;omega
     go_quiet (fail)
     obtain⟨hM3,p3,⟨t3,t1⟩,d3,c3⟩:=HM.out;have hV:Below W.heap.size W (W.drewN nq):=below_drewN (Tu _ _) _;have hM4:AH (W.drewN nq) B mb m F MV A3 {s with fr:={f with stk:=r}::rest} en:=hM3.same (hM3.lay.below hV) rfl (Ch.of_below hV) ⟨rfl,rfl,rfl,rfl,rfl,rfl⟩;have d4:=d3.keep (Ch.of_below (B:=B) (p:=fun _=>False) (tag:=A3.tag) hV) (fun h=>h);have hCV:Ch B N5 A.tag A3.tag w (W.drewN nq):=c3.trans' hV;have b1V:(W.drewN nq).cell? ⟨bx,1,none⟩=some (.int .i64 gn):=b1;have HG6:=Aa (HT6.out nq);clear hV hM3 d3 c3 HM b0 b1 a0 r0 HT6;generalize W.drewN nq=V at *;have l4:=hM4.lay;have hfrl:({s with fr:={f with stk:=r}::rest}:Mc).fr.length=rest.length+1:=rfl;have hfrow:=l4.fr;rw[hfrl] at hfrow;obtain⟨gb,gcap,hgv,_,_,_,_⟩:=hfrow.form (by omega);have x1:V.cell? ⟨mb,3,none⟩=some (.slice (some ⟨gb,0,none⟩) (rest.length+1) gcap):=by rw[Ab l4.run,<-hgv];rfl
     obtain⟨g1,g2,g3⟩:=l4.fb rest.length (by rw[hfrl];omega);have hfbe:A3.FB rest.length=fb:=by have:=HF.out;unfold Af.FB at *;rw[p3];exact this
     rw[hfbe] at g1 g3;have y1:V.cell? ⟨fb,1,none⟩=some (.int .i64 f.pc):=by rw[Ab g1,Bg];rfl
     have z1:V.frozen? ⟨fb,1,none⟩=false:=Ax g1;have hne:¬bx=fb:=by intro e;rw[e,g3] at t3;omega
     have hgo:=l4.goto rfl (f.pc+1);rw[hfbe] at hgo;have ec:((f.pc+1:Nat):Int)=(f.pc:Int)+1:=by omega
     rw[ec] at hgo;clear ec;have d5:=d4.keep hgo.2 (by rw[t1];exact Ht _);have cN5:Ch B N5 A3.tag A3.tag V (V.setCell ⟨fb,1,none⟩ (.int .i64 ((f.pc:Int)+1))):=hgo.2.mono (fun _=>Ek);have hM5:=hM4.same hgo.1 rfl cN5 ⟨rfl,rfl,rfl,rfl,rfl,rfl⟩;obtain⟨h0,h8,hal⟩:=HG.out.2.1 gn (by omega);have hnf:=LY _ B mb m A3 _ en F MV gn xs.reverse (.slice (some ⟨w.heap.size,0,none⟩) j j) hM5 (by omega) (d5.args HS.out.2 j) h0 h8 (by rw[List.length_reverse,HS.out.2];have:=HA.out;omega) (by show rest.length+1<=60;omega);have HNF:=Aa hnf;have HB5:=Aa (Tc (hCV.trans cN5) p3);have epc:wrap64 ((f.pc:Int)+1)=(f.pc:Int)+1:=by unfold wrap64;omega
     have hlen2:Hid (xs.reverse.length=j):=by unfold Hid;rw[List.length_reverse];exact HS.out.2
     clear hnf d5 d4 hgo hCV g1 g2 g3 hfrow hgv l4 hM4 hM5 t3 t1 p3 hfbe HG hfrl hab cN5 h0 h8 hal HL HS;generalize hpcl:(f.pc:Int)=pcl at *;have hpc0:0<=pcl/\pcl<=64:=by omega
     clear hpcl hpc;generalize hfl:rest.length+1=fl at *;have HFL:=Aa hfl;clear hfl;by_cases h24:24<=fl
     ·have hd24:decide ((24:Int)<=(fl:Int))=true:=by simp;omega
      have H24:=Aa h24;clear h24;go_wp2_with fail
      refine(FX V mb 3 fl gcap (some ⟨gb,0,none⟩) x1).mono ?_;rintro e w' ⟨rfl,hw'⟩;rw[hw'];clear hw' w';go_wp2_with fail
      exact⟨rfl,Or.inr (Or.inl ⟨hno.out,by have:=HFL.out;have:=H24.out;omega,rfl,by have h:=HG6.out;rw[<-HFL.out] at h;exact h⟩)⟩
     ·have hd24:decide ((24:Int)<=(fl:Int))=false:=by simp;omega
      have H24:=Aa h24;clear h24;go_wp2_with fail
      refine(FX V mb 3 fl gcap (some ⟨gb,0,none⟩) x1).mono ?_;rintro e w' ⟨rfl,hw'⟩;rw[hw'];clear hw' w';go_wp2_with fail
      refine HNF.out.mono ?_;rintro e w7 ⟨rfl,g7⟩;rw[hlen2.out] at g7;have HQ:=Aa (AQ.on HB5.out.2 HB5.out.1 g7);clear g7 HNF;go_wp2;go_end0;refine Or.inr (Or.inr ⟨hno.out,by have:=HFL.out;have:=H24.out;omega,rfl,?_⟩);rw[HG3.out.2.2];exact HQ.out
    ·have hka:((F gn).args != (j:Int))=true:=by simpa using ha
     have HA:=Aa ha;clear ha;go_quiet (fail)
     go_wp2;exact⟨rfl,Or.inl ⟨Or.inr (by rw[HG3.out.2.2];exact HA.out),rfl,HT6.out _⟩⟩
   ·have hk:(g.k != 3)=true:=by simpa using h3
    have HG3:=Aa h3;clear h3;go_quiet (fail)
    go_wp2;exact⟨rfl,Or.inl ⟨Or.inl HG3.out,rfl,HT6.out _⟩⟩
end
end Go.Proofs.YtkafkipjedpohaaGreatDoor

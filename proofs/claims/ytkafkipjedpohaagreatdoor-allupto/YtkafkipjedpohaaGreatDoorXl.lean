import Derived.Test.YtkafkipjedpohaaGreatDoorZb
namespace Go.Proofs.YtkafkipjedpohaaGreatDoor
def B7(all:Bool)(n:Int)(f:Fr):Bool:=all || decide ((f.fn:Int)=n)
def BX(all:Bool)(n:Int)(fr:List Fr)(hs:List Bool)(j:Nat):List Bool:=((List.range fr.length).map fun i=>if i<j/\B7 all n (Am fr i)=true then false else AU hs i).reverse
def BA(all:Bool)(n:Int)(fr:List Fr)(hs:List Bool)(j:Nat):Nat:=((List.range j).filter fun i=>B7 all n (Am fr i)&&AU hs i).length
theorem Hi(all:Bool)(n:Int)(fr:List Fr)(hs:List Bool)(j:Nat):(BX all n fr hs j).length=fr.length:=by simp[BX]
theorem G1(all:Bool)(n:Int)(fr:List Fr)(hs:List Bool)(j i:Nat)(hi:i<fr.length):AU (BX all n fr hs j) i=if i<j/\B7 all n (Am fr i)=true then false else AU hs i:=by
 unfold AU BX;rw[List.reverse_reverse,Tj,List.getElem?_map,List.getElem?_range hi];rfl
theorem Nf(hs:List Bool):hs=((List.range hs.length).map (AU hs)).reverse:=by
 have:hs.reverse=(List.range hs.length).map (AU hs):=by
  refine List.ext_getElem (by simp) (fun i h1 h2=>?_);simp only[List.length_reverse] at h1;simp only[List.getElem_map,List.getElem_range];unfold AU;rw[Tj,List.getElem?_eq_getElem (by simpa using h1)];rfl
 rw[<-this,List.reverse_reverse]
theorem Kk(all:Bool)(n:Int)(fr:List Fr)(hs:List Bool)(h:hs.length=fr.length):BX all n fr hs 0=hs:=by
 conv=>rhs;rw[Nf hs]
 unfold BX;rw[h];refine congrArg List.reverse (List.map_congr_left (fun i hi=>?_));rw[if_neg (by omega)]
theorem Gq(all:Bool)(n:Int)(fr:List Fr)(hs:List Bool)(j:Nat):BA all n fr hs (j+1)=BA all n fr hs j+if (B7 all n (Am fr j)&&AU hs j)=true then 1 else 0:=by
 unfold BA;rw[List.range_succ,List.filter_append,List.length_append];congr 1;simp only[List.filter_cons,List.filter_nil];split<;>rfl
theorem GI(all:Bool)(n:Int):∀ (fr:List Fr) (hs:List Bool),hs.length=fr.length->D2 all n fr hs=(BX all n fr hs fr.length,BA all n fr hs fr.length)
 |[],hs,h=>by
  obtain rfl:hs=[]:=List.eq_nil_of_length_eq_zero h;rfl
 |f::fr,[],h=>by simp at h
 |f::fr,b::hs,h=>by
  have hl:hs.length=fr.length:=by simpa using h
  have ih:=GI all n fr hs hl;have e1:BX all n (f::fr) (b::hs) (fr.length+1)=(if B7 all n f=true then false else b)::BX all n fr hs fr.length:=by
   unfold BX;rw[Tn,List.range_succ,List.map_append,List.reverse_append,List.map_cons,List.map_nil,List.reverse_singleton,List.singleton_append];refine congr (congrArg List.cons ?_) (congrArg List.reverse (List.map_congr_left (fun i hi=>?_)))
   ·rw[Bg,Ff b hs hl.symm];by_cases c:B7 all n f=true
    ·rw[if_pos ⟨by omega,c⟩,if_pos c]
    ·rw[if_neg (fun h=>c h.2),if_neg c]
   ·have hi':=List.mem_range.1 hi;rw[B9 _ _ _ hi',EF _ _ _ (by omega)];by_cases c:B7 all n (Am fr i)=true
    ·rw[if_pos ⟨by omega,c⟩,if_pos ⟨by omega,c⟩]
    ·rw[if_neg (fun h=>c h.2),if_neg (fun h=>c h.2)]
  have e2:BA all n (f::fr) (b::hs) (fr.length+1)=BA all n fr hs fr.length+if (B7 all n f&&b)=true then 1 else 0:=by
   rw[Gq,Bg,Ff b hs hl.symm];congr 1;unfold BA;congr 1;refine List.filter_congr (fun i hi=>?_);have hi':=List.mem_range.1 hi;rw[B9 _ _ _ hi',EF _ _ _ (by omega)]
  show (let r:=D2 all n fr hs;if b=true/\(all=true\/(f.fn:Int)=n) then (false::r.1,r.2+1) else (b::r.1,r.2))=_;rw[Tn,e1,e2,ih];dsimp only;have e3:(all=true\/(f.fn:Int)=n)↔B7 all n f=true:=by unfold B7;simp
  by_cases c:B7 all n f=true
  ·have c':=e3.2 c;cases b<;>simp[c,c']
  ·have c':¬(all=true\/(f.fn:Int)=n):=fun h=>c (e3.1 h)
   rw[if_neg (fun h=>c' h.2),if_neg c];cases b<;>simp[c]
set_option maxRecDepth 100000
set_option maxHeartbeats 16000000
open Go.RowKit _root_.Go.Proofs.Tryz
def Bs(w:World)(B:Nat)(v:Value)(E:List Ev):Prop :=
 ∃ p c,v=.slice p E.length c/\E.length<=c/\(E≠[]->∃ eb eo,p=some ⟨eb,eo,none⟩/\eb<B/\∀ i,i<E.length->w.cell? ⟨eb,eo+i * 3,none⟩=some (.int .i64 (E.getD i ⟨0,0,0⟩).st)/\w.cell? ⟨eb,eo+i * 3+1,none⟩=some (.int .i64 (E.getD i ⟨0,0,0⟩).k)/\w.cell? ⟨eb,eo+i * 3+2,none⟩=some (.int .i64 (E.getD i ⟨0,0,0⟩).n))
theorem Bs.below{w w':World}{B:Nat}{v:Value}{E:List Ev}(h:Bs w B v E)(hb:Below B w w'):Bs w' B v E:=by
 obtain⟨p,c,h1,h2,h3⟩:=h;refine⟨p,c,h1,h2,fun hE=>?_⟩;obtain⟨eb,eo,e1,e2,e3⟩:=h3 hE;refine⟨eb,eo,e1,e2,fun i hi=>?_⟩;obtain⟨a1,a2,a3⟩:=e3 i hi;exact⟨(hb.cell (p:=⟨eb,eo+i * 3,none⟩) e2).trans a1,(hb.cell (p:=⟨eb,eo+i * 3+1,none⟩) e2).trans a2,(hb.cell (p:=⟨eb,eo+i * 3+2,none⟩) e2).trans a3⟩
def DR(w:World)(B:Nat)(pv:Value)(m:Nat)(F:Nat->PF):Prop :=
 ∃ pb po pc,pv=.slice (some ⟨pb,po,none⟩) m pc/\pb<B/\∀ k,k<m->∃ ca cc,w.cell? ⟨pb,po+k * 3+2,none⟩=some (.slice ca (F k).cn cc)/\(F k).cn<=cc
theorem DR.below{w w':World}{B:Nat}{pv:Value}{m:Nat}{F:Nat->PF}(h:DR w B pv m F)(hb:Below B w w'):DR w' B pv m F:=by
 obtain⟨pb,po,pc,h1,h2,h3⟩:=h;refine⟨pb,po,pc,h1,h2,fun k hk=>?_⟩;obtain⟨ca,cc,h4,h5⟩:=h3 k hk;exact⟨ca,cc,(hb.cell (p:=⟨pb,po+k * 3+2,none⟩) h2).trans h4,h5⟩
structure Bb (w:World) (B mb m:Nat) (F:Nat->PF) (MV:Nat->Value) (A:Af) (s:Mc) (en:Int) (L:Bxs) (E:List Ev):Prop where
 st:AH w B mb m F MV A s en
 bx:Bx w A.tag L
 md:∀ k,k<m->s.made k=true->D6 L (F k) (MV k)
 fc:∀ i,i<s.fr.length->AU s.high i=true->D6 L (F (Am s.fr i).fn) (A.g.CV i)
 ev:Bs w B A.g.ev E
 cp:DR w B A.g.pv m F
def CN(w:World)(B mb m:Nat)(F:Nat->PF)(MV:Nat->Value)(A:Af)(s':Mc)(en:Int)(L:Bxs)(E:List Ev)(w':World):Prop :=
 ∃ A':Af,Bb w' B mb m F MV A' s' en L E/\Bw A A'/\Ch B N5 A.tag A'.tag w w'/\∀ i,A'.FB i=A.FB i
theorem AB.lowered{w:World}{B mb:Nat}{A:Af}{s:Mc}{en:Int}(h:AB w B mb A s en){i:Nat}(hi:i<s.fr.length)(cv:Value) :
  AB (w.setCell ⟨A.FB i,4,none⟩ cv) B mb {A with g:={A.g with CV:=Ac A.g.CV i cv}} s en/\Ch B (fun d=>d=10+4 * i) A.tag A.tag w (w.setCell ⟨A.FB i,4,none⟩ cv):=by
 obtain⟨g1,g2,g3⟩:=h.fb i hi;have hc:Ch B (fun d=>d=10+4 * i) A.tag A.tag w (w.setCell ⟨A.FB i,4,none⟩ cv):=Ch.set w _ _ _ g2 g3;obtain⟨r1,r2⟩:=Bq h.run hc (by rw[h.own.2];omega);refine⟨⟨r1,h.own,h.fr.keep hc (by omega),fun j hj=>?_,h.ar.keep hc (by omega),h.out.keep hc (by omega),fun j hj=>(h.loc j hj).keep hc (by omega),fun j hj=>(h.stk j hj).keep hc (by omega),fun j hj=>(h.arr j hj).keep hc (by omega)⟩,hc⟩;obtain⟨k1,k2,k3⟩:=h.fb j hj;refine⟨?_,k2,k3⟩;show (w.setCell ⟨A.FB i,4,none⟩ cv).heap[A.FB j]?=some (Obj.cells (E2 (Am s.fr j) (A.LV j) (A.SV j) (Ac A.g.CV i cv j)) _ _);by_cases e:j=i
 ·subst e;rw[Au,AM g1];rfl
 ·rw[Ao _ _ _ _ e];exact(Bq k1 hc (by rw[k3];omega)).1
theorem Ol{w:World}{B mb m:Nat}{F:Nat->PF}{MV:Nat->Value}{A:Af}{s:Mc}{en:Int}{L:Bxs}{E:List Ev}(h:Bb w B mb m F MV A s en L E){i:Nat}(hi:i<s.fr.length)(hd:s.cD<=1000000)(hs':List Bool)(hl':hs'.length=s.fr.length)(hat:∀ j,j<s.fr.length->AU hs' j=if j=i then false else AU s.high j) :
  Calls prog 126 #[ptr mb,ptr (A.FB i)] w fun e w'=>e=.returned (.tuple #[])/\CN w B mb m F MV A {s with high:=hs',cD:=s.cD+if AU s.high i=true then 1 else 0} en L E w':=by
 have hM:=h.st;have hcv:=hM.cod i hi;obtain⟨g1,g2,g3⟩:=hM.lay.fb i hi;have hneb:¬A.FB i=mb:=fun e=>by rw[e,hM.lay.own.2] at g3;omega
 have x4:w.cell? ⟨A.FB i,4,none⟩=some (A.g.CV i):=(Ab g1).trans rfl;have x10:w.cell? ⟨mb,10,none⟩=some (.int .i64 s.cD):=by rw[Ab hM.lay.run,<-hM.cnt.2.2];rfl
 have z4:w.frozen? ⟨A.FB i,4,none⟩=false:=Ax g1;have z10:w.frozen? ⟨mb,10,none⟩=false:=Ax hM.lay.run;have hcn:=fun X=>Hu hcv X
 obtain⟨p,n,c,hsl⟩:=Fk hcv;have e5:wrap64 ((s.cD:Int)+1)=(s.cD:Int)+1:=by unfold wrap64;omega
 cases hb:AU s.high i with
 |false =>
  rw[hb] at hcn hcv;have HQ:=Aa (show CN w B mb m F MV A {s with high:=hs',cD:=s.cD+if false=true then 1 else 0} en L E w from by
   have hsame:∀ j,j<s.fr.length->AU hs' j=AU s.high j:=fun j hj=>by
    rw[hat j hj];by_cases e:j=i
    ·rw[if_pos e,e,hb]
    ·rw[if_neg e]
   refine⟨A,⟨hM.ch (hM.lay.like rfl rfl rfl rfl rfl) hl' (fun j hj=>by rw[hsame j hj];exact hM.cod j hj) ⟨hM.cnt.1,hM.cnt.2.1,by rw[if_neg (by simp)];exact hM.cnt.2.2⟩ rfl (Bw.refl _) (Ch.refl _ _ _ _),h.bx,h.md,fun j hj hj2=>?_,h.ev,h.cp⟩,Bw.refl _,Ch.refl _ _ _ _,fun _=>rfl⟩;have:AU s.high j=true:=by rw[<-hsame j hj];exact hj2
   exact h.fc j hj this)
  rw[hsl] at x4 hcn;clear h hM hcv hsl g1 g2 g3 hat hl';generalize A.FB i=fb at *;go_enter func126,ntmps126
  go_wp2;go_end0;exact⟨rfl,HQ.out⟩
 |true =>
  rw[hb] at hcn hcv;obtain⟨l1,c1⟩:=hM.lay.lowered hi (.slice none 0 0);obtain⟨l2,c2⟩:=l1.counted 10 (by omega) ((s.cD:Int)+1);have hchN:Ch B N5 A.tag A.tag w ((w.setCell ⟨A.FB i,4,none⟩ (.slice none 0 0)).setCell ⟨mb,10,none⟩ (.int .i64 ((s.cD:Int)+1))):=(c1.mono (q:=N5) (fun d hd=>by unfold N5;omega)).trans (c2.mono (q:=N5) (fun d hd=>by unfold N5;omega));have HQ:=Aa (show CN w B mb m F MV A {s with high:=hs',cD:=s.cD+if true=true then 1 else 0} en L E ((w.setCell ⟨A.FB i,4,none⟩ (.slice none 0 0)).setCell ⟨mb,10,none⟩ (.int .i64 ((s.cD:Int)+1))) from by
   refine⟨_,⟨hM.ch (l2.like rfl rfl rfl rfl rfl) hl' (fun j hj=>?_) ⟨?_,?_,?_⟩ rfl ⟨rfl,rfl,rfl⟩ hchN,h.bx.keep hchN Db,h.md,fun j hj hj2=>?_,h.ev.below (hchN.below hM.le),h.cp.below (hchN.below hM.le)⟩,⟨rfl,rfl,rfl⟩,hchN,fun _=>rfl⟩
   ·show CT (Ac A.g.CV i (.slice none 0 0) j) (AU hs' j);rw[hat j hj];by_cases e:j=i
    ·subst e;rw[Au,if_pos rfl];exact Or.inl ⟨rfl,rfl⟩
    ·rw[Ao _ _ _ _ e,if_neg e];exact hM.cod j hj
   ·show (A.g.hi:Int)=s.cH;exact hM.cnt.1
   ·show (A.g.up:Int)=s.cU;exact hM.cnt.2.1
   ·show ((s.cD:Int)+1)=((s.cD+if true=true then 1 else 0:Nat):Int);rw[if_pos rfl];omega
   ·show D6 L _ (Ac A.g.CV i (.slice none 0 0) j);have hj2':AU hs' j=true:=hj2;rw[hat j hj] at hj2';by_cases e:j=i
    ·rw[if_pos e] at hj2';cases hj2'
    ·rw[if_neg e] at hj2';rw[Ao _ _ _ _ e];exact h.fc j hj hj2')
  rw[hsl] at x4 hcn;clear h hM hcv hsl g1 g2 g3 hat hl' l1 l2 c1 c2 hchN;generalize A.FB i=fb at *;go_enter func126,ntmps126
  go_wp2;go_end0;exact⟨rfl,HQ.out⟩
section
variable {w:World}{B mb m j:Nat}{F:Nat->PF}{MV:Nat->Value}{A:Af}{s:Mc}{en n:Int}{L:Bxs}{E:List Ev}{all:Bool}{fr:List Fr}{hs:List Bool}
theorem Bb.keep{w':World}(h:Bb w B mb m F MV A s en L E){tag':Nat->Nat}(k:Ch B (fun _=>False) A.tag tag' w w'):Bb w' B mb m F MV {A with tag:=tag'} s en L E :=
 ⟨h.st.same (h.st.lay.keep k) rfl (k.mono (q:=N5) (fun _ h=>h.elim)) ⟨rfl,rfl,rfl,rfl,rfl,rfl⟩,h.bx.keep k (fun h=>h),h.md,h.fc,h.ev.below (k.below h.st.le),h.cp.below (k.below h.st.le)⟩
theorem Bb.below{w':World}(h:Bb w B mb m F MV A s en L E)(k:Below w.heap.size w w'):Bb w' B mb m F MV A s en L E:=h.keep (Ch.of_below k)
theorem Bb.like{s':Mc}(h:Bb w B mb m F MV A s en L E)(e1:s'.fr=s.fr)(e2:s'.arr=s.arr)(e3:s'.out=s.out)(e4:s'.gives=s.gives)(e5:s'.steps=s.steps)(e6:s'.high=s.high)(e7:s'.made=s.made)(e8:s'.cH=s.cH)(e9:s'.cU=s.cU)(e10:s'.cD=s.cD):Bb w B mb m F MV A s' en L E :=
 ⟨h.st.like e1 e2 e3 e4 e5 e6 e7 e8 e9 e10,h.bx,by rw[e7];exact h.md,by rw[e1,e6];exact h.fc,h.ev,h.cp⟩
theorem LL(c:B7 all n (Am fr j)=true):∀ k,k<fr.length->AU (BX all n fr hs (j+1)) k=if k=j then false else AU (BX all n fr hs j) k:=fun k hk=>by
 rw[G1 _ _ _ _ _ _ hk,G1 _ _ _ _ _ _ hk];by_cases e:k=j
 ·subst e;rw[if_pos rfl,if_pos ⟨by omega,c⟩]
 ·rw[if_neg e];by_cases d:k<j/\B7 all n (Am fr k)=true
  ·rw[if_pos d,if_pos ⟨by omega,d.2⟩]
  ·rw[if_neg d,if_neg (fun h=>d ⟨by omega,h.2⟩)]
theorem Je(c:B7 all n (Am fr j)=false):BX all n fr hs (j+1)=BX all n fr hs j/\BA all n fr hs (j+1)=BA all n fr hs j:=by
 refine⟨?_,by rw[Gq,c];simp⟩;unfold BX;refine congrArg List.reverse (List.map_congr_left (fun i hi=>?_));by_cases e:i=j
 ·subst e;rw[if_neg (fun h=>by rw[c] at h;exact absurd h.2 (by simp)),if_neg (fun h=>by omega)]
 ·by_cases d:i<j/\B7 all n (Am fr i)=true
  ·rw[if_pos d,if_pos ⟨by omega,d.2⟩]
  ·rw[if_neg d,if_neg (fun h=>d ⟨by omega,h.2⟩)]
theorem I0(all:Bool)(n:Int)(fr:List Fr)(hs:List Bool)(j:Nat):BA all n fr hs j<=j:=by
 unfold BA;exact Nat.le_trans (List.length_filter_le _ _) (by simp)
theorem RD(c:B7 all n (Am fr j)=true)(hj:j<fr.length):BA all n fr hs (j+1)=BA all n fr hs j+if AU (BX all n fr hs j) j=true then 1 else 0:=by
 have e:AU (BX all n fr hs j) j=AU hs j:=by rw[G1 _ _ _ _ _ _ hj,if_neg (fun h=>absurd h.1 (by omega))]
 rw[Gq,c,e,Bool.true_and]
def Ft(w:World)(B mb m:Nat)(F:Nat->PF)(MV:Nat->Value)(A:Af)(s:Mc)(en:Int)(L:Bxs)(E:List Ev)(all:Bool)(n:Int)(lb:Nat)(cur:Array Value)(j:Nat)(wr:World):Prop :=
 ∃ A':Af,Bb wr B mb m F MV A' {s with high:=BX all n s.fr s.high j,cD:=s.cD+BA all n s.fr s.high j} en L E/\Bw A A'/\Ch B N5 A.tag A'.tag w wr/\(∀ i,A'.FB i=A.FB i)/\wr.heap[lb]?=some (.cells cur 133 (0,0))/\A'.tag lb=5
theorem Ft.next{wr:World}{lb:Nat}{cur:Array Value}(h:Ft w B mb m F MV A s en L E all n lb cur j wr)(hj:j<s.fr.length)(hd:s.cD+s.fr.length<=1000000)(c:B7 all n (Am s.fr j)=true) :
  Calls prog 126 #[ptr mb,ptr (A.FB j)] wr fun e w'=>e=.returned (.tuple #[])/\Ft w B mb m F MV A s en L E all n lb cur (j+1) w':=by
 obtain⟨A',h1,h2,h3,h4,h5,h6⟩:=h;rw[<-h4 j];have hle:=I0 all n s.fr s.high j;refine(Ol h1 (i:=j) hj (by show s.cD+BA all n s.fr s.high j<=_;omega) (BX all n s.fr s.high (j+1)) (Hi _ _ _ _ _) (LL c)).mono ?_;rintro e w' ⟨rfl,A2,k1,k2,k3,k4⟩;obtain⟨b1,b2⟩:=Bq h5 k3 (by rw[h6];exact Db);refine⟨rfl,A2,k1.like rfl rfl rfl rfl rfl rfl rfl rfl rfl ?_,h2.trans k2,h3.trans k3,fun i=>(k4 i).trans (h4 i),b1,b2.trans h6⟩;show s.cD+BA all n s.fr s.high (j+1)=s.cD+BA all n s.fr s.high j+(if AU (BX all n s.fr s.high j) j=true then 1 else 0);rw[RD c hj];omega
theorem Kb{w1:World}(h:Bb w B mb m F MV A s en L E)(hne:1<=s.fr.length)(hb:Below w.heap.size w w1){v:Value}(ho:F1 w w1 v s.fr.length A.FB)(all:Bool)(n:Int) :
  ∃ lb cap cur,v=.slice (some ⟨lb,0,none⟩) s.fr.length cap/\(∀ j,j<s.fr.length->cur[j]?=some (.pointer (some ⟨A.FB j,0,none⟩)))/\Ft w B mb m F MV A s en L E all n lb cur 0 w1:=by
 rcases ho with⟨_,h0⟩|⟨lb,cap,cur,hv,hlb,_,hh,_,_,_,hc⟩
 ·omega
 have hk:Ch B (fun _=>False) A.tag (Ac A.tag lb 5) w w1:=Ch.of_tags hb (fun b hb=>Ao _ _ _ _ (by omega));have h0:BA all n s.fr s.high 0=0:=rfl;refine⟨lb,cap,cur,hv,fun j hj=>hc j (by omega),_,(h.keep hk).like rfl rfl rfl rfl rfl ?_ rfl rfl rfl rfl,⟨rfl,rfl,rfl⟩,hk.mono (q:=N5) (fun _ h=>h.elim),fun _=>rfl,hh,Au _ _ _⟩;exact Kk _ _ _ _ h.st.hl
theorem QT(h:Bb w B mb m F MV A s en L E)(hne:1<=s.fr.length)(hfl:s.fr.length<=100)(hd:s.cD<=900000)(n:Int) :
  Calls prog 118 #[ptr mb] w fun e w'=>e=.returned (.tuple #[])/\CN w B mb m F MV A (Bu F 4 n s) en L E w':=by
 obtain⟨fp,fc,hfv,_⟩:=h.st.lay.fr.any;have x3:w.cell? ⟨mb,3,none⟩=some A.fv:=(Ab h.st.lay.run).trans rfl;have HL:=Aa (Ja w mb 3 B A.tag 1 A.fv s.fr.length A.FB x3 h.st.lay.fr (by omega));have hcm:Bu F 4 n s={s with high:=BX true n s.fr s.high s.fr.length,cD:=s.cD+BA true n s.fr s.high s.fr.length}:=by
  unfold Bu;rw[if_neg (by decide),if_neg (by decide)];show ({s with high:=(D2 true n s.fr s.high).1,cD:=s.cD+(D2 true n s.fr s.high).2}:Mc)=_;rw[GI true n s.fr s.high h.st.hl]
 have HC:=Aa hcm;generalize Bu F 4 n s=s' at *;have HR:=Aa h;clear h x3 hfv hcm;generalize hfn:s.fr.length=fl at *;have HFN:=Aa hfn;clear hfn;go_enter func118,ntmps118
 go_wp2_with fail
 refine HL.out.mono ?_;rintro e w1 ⟨v,rfl,hb,ho⟩;rw[<-HFN.out] at ho;obtain⟨lb,cap,cur,hv,hcur,hI⟩:=Kb HR.out (by rw[HFN.out];exact hne) hb ho true n;rw[HFN.out] at hv hcur;subst hv;have HI:=Aa (Tc hcur hI);clear hcur hI ho hb HL;go_wp2;go_loopw [9] (fun v wr=>∃ j:Nat,j<=fl/\v=.int .i64 j/\Ft w B mb m F MV A s en L E true n lb cur j wr) (fun v _=>fl-(intOf v).toNat)
 case atStart=>exact⟨0,by omega,rfl,HI.out.2⟩
 case round =>
  obtain⟨j,hj,rfl,hI⟩:=hrel;by_cases hlt:j<fl
  ·have hdec:decide ((j:Int)<(fl:Int))=true:=by simp;omega
   have y0:wr.cell? ⟨lb,j,none⟩=some (.pointer (some ⟨A.FB j,0,none⟩)):=by
    obtain⟨A',_,_,_,_,h5,_⟩:=hI;exact(Ab h5).trans (HI.out.1 j hlt)
   have HT:=Aa (hI.next (by rw[HFN.out];exact hlt) (by rw[HFN.out];omega) (by simp[B7]));have i0:(0:Int)<=(j:Int):=by omega
   have i1:(j:Int)<(fl:Int):=by omega
   clear hI;generalize A.FB j=fbj at *;go_wp2_with fail
   refine HT.out.mono ?_;rintro e w2 ⟨rfl,h2⟩;have HQ:=Aa h2;clear h2 HT y0;go_wp2;exact⟨⟨j+1,by omega,by go_num,HQ.out⟩,by simp[intOf];omega⟩
  ·have hdec:decide ((j:Int)<(fl:Int))=false:=by simp;omega
   obtain rfl:j=fl:=by omega
   have HQ:=Aa (show CN w B mb m F MV A s' en L E wr from by
    obtain⟨A',h1,h2,h3,h4,_,_⟩:=hI;rw[HC.out];exact⟨A',h1,h2,h3,h4⟩)
   clear hI;go_wp2;go_end0;exact⟨rfl,HQ.out⟩
end
def Dk(d:Nat):Prop:=d≠5
theorem Hh{d:Nat}(h:N5 d):Dk d:=h.1
theorem Mb:¬Dk 5:=fun h=>h rfl
def DE(w:World)(B mb m:Nat)(F:Nat->PF)(A:Af)(s':Mc)(en:Int)(L:Bxs)(E:List Ev)(w':World):Prop :=
 ∃ (A':Af) (MV':Nat->Value) (L':Bxs),Bb w' B mb m F MV' A' s' en L' E/\Bw A A'/\Ch B Dk A.tag A'.tag w w'/\(∀ t,t∈L->t∈L')/\∀ i,A'.FB i=A.FB i
section
variable {w:World}{B mb m:Nat}{F:Nat->PF}{MV:Nat->Value}{A:Af}{en:Int}{L:Bxs}{E:List Ev}
theorem CN.come{w':World}{s':Mc}(h:CN w B mb m F MV A s' en L E w'):DE w B mb m F A s' en L E w':=by
 obtain⟨A',h1,h2,h3,h4⟩:=h;exact⟨A',MV,L,h1,h2,h3.mono (fun _=>Hh),fun t ht=>ht,h4⟩
theorem Bb.setMade{s:Mc}(h:Bb w B mb m F MV A s en L E){vb vcap fn:Nat}(hfn:fn<m)(hmv:A.g.mv=.slice (some ⟨vb,0,none⟩) m vcap)(v:Value)(b:Bool)(hv:CT v b)(hc:b=true->D6 L (F fn) v) :
  Bb (w.setCell ⟨vb,fn,none⟩ v) B mb m F (Ac MV fn v) A {s with made:=Ac s.made fn b} en L E/\Ch B (fun d=>d=6) A.tag A.tag w (w.setCell ⟨vb,fn,none⟩ v):=by
 have hM:=h.st;have hrow:=hM.made;obtain⟨vb',vcap',hmv',hvB,_,hvt,_⟩:=hrow.form (by omega);rw[hmv] at hmv' hrow;injection hmv' with e1 _ e2;injection e1 with e1;injection e1 with e1 _;subst e1 e2;have hch:Ch B (fun d=>d=6) A.tag A.tag w (w.setCell ⟨vb,fn,none⟩ v):=Ch.set w _ _ _ hvB hvt;have hl2:AB (w.setCell ⟨vb,fn,none⟩ v) B mb A s en:=by
  have h:=hM.lay;obtain⟨r1,r2⟩:=Bq h.run hch (by rw[h.own.2];omega);refine⟨r1,h.own,h.fr.keep hch (by omega),fun j hj=>?_,h.ar.keep hch (by omega),h.out.keep hch (by omega),fun j hj=>(h.loc j hj).keep hch (by omega),fun j hj=>(h.stk j hj).keep hch (by omega),fun j hj=>(h.arr j hj).keep hch (by omega)⟩;obtain⟨k1,k2,k3⟩:=h.fb j hj;exact⟨(Bq k1 hch (by rw[k3];omega)).1,k2,k3⟩
 refine⟨⟨⟨hl2.like rfl rfl rfl rfl rfl,hM.hl,hM.cod,hM.cnt,?_,fun k hk=>?_,hM.pg.below (hch.below hM.le),by have:=hch.size;have:=hM.le;omega⟩,h.bx.keep hch (by omega),fun k hk hk2=>?_,h.fc,h.ev.below (hch.below hM.le),h.cp.below (hch.below hM.le)⟩,hch⟩
 ·rw[hmv];exact hrow.set fn v
 ·show CT (Ac MV fn v k) (Ac s.made fn b k);by_cases e:k=fn
  ·subst e;rw[Au,Au];exact hv
  ·rw[Ao _ _ _ _ e,Ao _ _ _ _ e];exact hM.mds k hk
 ·show D6 L (F k) (Ac MV fn v k);have hk2':Ac s.made fn b k=true:=hk2;by_cases e:k=fn
  ·subst e;rw[Au] at hk2' ⊢;exact hc hk2'
  ·rw[Ao _ _ _ _ e] at hk2' ⊢;exact h.md k hk hk2'
theorem Rz{s:Mc}(h:Bb w B mb m F MV A s en L E)(hne:1<=s.fr.length)(hfl:s.fr.length<=100)(hd:s.cD<=900000)(fn:Nat)(hfn:fn<m) :
  Calls prog 116 #[ptr mb,.int .i64 fn] w fun e w'=>e=.returned (.tuple #[])/\DE w B mb m F A (Bu F 2 fn s) en L E w':=by
 obtain⟨vb,vcap,hmv,hvB,hvz,hvt,hvc⟩:=h.st.made.form (by omega);obtain⟨h1,c1⟩:=h.setMade hfn hmv (.slice none 0 0) false (Or.inl ⟨rfl,rfl⟩) (fun e=>by cases e);have x2:w.cell? ⟨mb,2,none⟩=some (.slice (some ⟨vb,0,none⟩) m vcap):=by rw[Ab h.st.lay.run,<-hmv];rfl
 have hrow:=h.st.made;rw[hmv] at hrow;have xv:=hrow.cell (i:=fn) (by omega);have zv:=hrow.frozen fn;obtain⟨p0,n0,c0,hsl⟩:=Fk (h.st.mds fn hfn);rw[hsl] at xv;have hmb:¬mb=vb:=fun e=>by have:=h.st.lay.own.2;rw[e,hvt] at this;omega
 have x3:(w.setCell ⟨vb,fn,none⟩ (.slice none 0 0)).cell? ⟨mb,3,none⟩=some A.fv:=(Ab h1.st.lay.run).trans rfl;have HL:=Aa (Ja (w.setCell ⟨vb,fn,none⟩ (.slice none 0 0)) mb 3 B A.tag 1 A.fv s.fr.length A.FB x3 h1.st.lay.fr (by omega));have hcm:Bu F 2 fn s={s with high:=BX false fn s.fr s.high s.fr.length,cD:=s.cD+BA false fn s.fr s.high s.fr.length,made:=Ac s.made fn false}:=by
  unfold Bu;rw[if_neg (by decide),if_neg (by decide)];show ({s with high:=(D2 false fn s.fr s.high).1,cD:=s.cD+(D2 false fn s.fr s.high).2,made:=Ac s.made (fn:Int).toNat false}:Mc)=_;rw[GI false fn s.fr s.high h.st.hl];rfl
 have HC:=Aa hcm;generalize Bu F 2 fn s=s' at *;have HR:=Aa (Tc h1 c1);have HFR:=Aa (show ∀ j,j<s.fr.length->∀ wr A',Bb wr B mb m F (Ac MV fn (.slice none 0 0)) A' {s with high:=BX false fn s.fr s.high j,cD:=s.cD+BA false fn s.fr s.high j,made:=Ac s.made fn false} en L E->(∀ i,A'.FB i=A.FB i)->wr.cell? ⟨A.FB j,0,none⟩=some (.int .i64 (Am s.fr j).fn) from fun j hj wr A' hr hf=>by
  obtain⟨g1,_,_⟩:=hr.st.lay.fb j hj;rw[hf] at g1;exact(Ab g1).trans rfl)
 have i0:(0:Int)<=(fn:Int):=by omega
 have i1:(fn:Int)<(m:Int):=by omega
 clear h h1 c1 hcm hrow hsl x3;generalize hfl':s.fr.length=fl at *;have HFN:=Aa hfl';clear hfl';go_enter func116,ntmps116
 go_wp2_with fail
 clear x2 xv zv;generalize hW:w.setCell ⟨vb,fn,none⟩ (.slice none 0 0)=W at *;refine HL.out.mono ?_;rintro e w1 ⟨v,rfl,hb,ho⟩;have HN:Hid (({s with made:=Ac s.made fn false}:Mc).fr.length=fl):=HFN;rw[<-HN.out] at ho;obtain⟨lb,cap,cur,hv,hcur,hI⟩:=Kb HR.out.1 (by rw[HN.out];exact hne) hb ho false fn;rw[HN.out] at hv hcur;subst hv;have HI:=Aa (Tc hcur hI);clear hcur hI ho hb HL;go_wp2;go_loopw [17] (fun v wr=>∃ j:Nat,j<=fl/\v=.int .i64 j/\Ft W B mb m F (Ac MV fn (.slice none 0 0)) A {s with made:=Ac s.made fn false} en L E false fn lb cur j wr) (fun v _=>fl-(intOf v).toNat)
 case atStart=>exact⟨0,by omega,rfl,HI.out.2⟩
 case round =>
  obtain⟨j,hj,rfl,hI⟩:=hrel;by_cases hlt:j<fl
  ·have hdec:decide ((j:Int)<(fl:Int))=true:=by simp;omega
   have y0:wr.cell? ⟨lb,j,none⟩=some (.pointer (some ⟨A.FB j,0,none⟩))/\wr.cell? ⟨A.FB j,0,none⟩=some (.int .i64 (Am s.fr j).fn):=by
    obtain⟨A',h1,_,_,h4,h5,_⟩:=hI;exact⟨(Ab h5).trans (HI.out.1 j hlt),HFR.out j hlt wr A' h1 h4⟩
   obtain⟨y0,y1⟩:=y0;have i2:(0:Int)<=(j:Int):=by omega
   have i3:(j:Int)<(fl:Int):=by omega
   by_cases hgd:((Am s.fr j).fn:Int)=(fn:Int)
   ·have HT:=Aa (hI.next (by rw[HN.out];exact hlt) (by show s.cD+_<=_;rw[HN.out];omega) (by show B7 false fn (Am s.fr j)=true;simp[B7];omega));have e1:(((Am s.fr j).fn:Int)==(fn:Int))=true:=by simpa using hgd
    clear hI hgd;generalize A.FB j=fbj at *;go_wp2_with fail
    refine HT.out.mono ?_;rintro e w2 ⟨rfl,h2⟩;have HQ:=Aa h2;clear h2 HT y0 y1;go_wp2;exact⟨⟨j+1,by omega,by go_num,HQ.out⟩,by simp[intOf];omega⟩
   ·have hsk:=Je (all:=false) (n:=(fn:Int)) (fr:=s.fr) (hs:=s.high) (j:=j) (by simp[B7];omega);have HQ:=Aa (show Ft W B mb m F (Ac MV fn (.slice none 0 0)) A {s with made:=Ac s.made fn false} en L E false fn lb cur (j+1) wr from by
     obtain⟨A',h1,h2,h3,h4,h5,h6⟩:=hI;refine⟨A',?_,h2,h3,h4,h5,h6⟩;show Bb wr B mb m F _ A' {s with high:=BX false fn s.fr s.high (j+1),cD:=s.cD+BA false fn s.fr s.high (j+1),made:=Ac s.made fn false} en L E;rw[hsk.1,hsk.2];exact h1)
    have e1:(((Am s.fr j).fn:Int)==(fn:Int))=false:=by simpa using hgd
    clear hI hgd hsk;generalize A.FB j=fbj at *;go_wp2;exact⟨⟨j+1,by omega,by go_num,HQ.out⟩,by simp[intOf];omega⟩
  ·have hdec:decide ((j:Int)<(fl:Int))=false:=by simp;omega
   obtain rfl:j=fl:=by omega
   have HQ:=Aa (show DE w B mb m F A s' en L E wr from by
    obtain⟨A',h1,h2,h3,h4,_,_⟩:=hI;rw[HC.out];exact⟨A',_,L,h1,h2,(HR.out.2.mono (q:=Dk) (fun d hd=>by unfold Dk;omega)).trans (h3.mono (fun _=>Hh)),fun t ht=>ht,h4⟩)
   clear hI;go_wp2;go_end0;exact⟨rfl,HQ.out⟩
end
theorem Ll{v:Value}{b:Bool}(h:CT v b)(X:World):(binOp .eql 136 v (.slice none 0 0)).run prog X=.ok (.bool (!b)) X:=by
 rcases h with⟨rfl,rfl⟩|⟨rfl,a,n,c,rfl⟩
 ·exact Lib.run_eql_slice_nil (P:=prog) X 136 183 none 0 0 0 0 underlying136
 ·exact Lib.run_eql_slice_nil (P:=prog) X 136 183 (some a) n c 0 0 underlying136
section
variable {w:World}{B mb m:Nat}{F:Nat->PF}{MV:Nat->Value}{A:Af}{s:Mc}{en:Int}{L:Bxs}{E:List Ev}
theorem Bb.code(h:Bb w B mb m F MV A s en L E){fn:Nat}(hfn:fn<m)(hcn:1<=(F fn).cn) :
  ∃ pb po pc cb co cc,w.cell? ⟨mb,0,none⟩=some (.slice (some ⟨pb,po,none⟩) m pc)/\w.cell? ⟨pb,po+fn * 3+2,none⟩=some (.slice (some ⟨cb,co,none⟩) (F fn).cn cc)/\(F fn).cn<=cc/\cb<B/\BB w cb co (F fn).cn (F fn).op (F fn).ar:=by
 obtain⟨pb,po,pc,CA,CC,hpv,hPA,hpb,hcbs⟩:=h.st.pg.at_;obtain⟨pb',po',pc',hpv',_,hcp⟩:=h.cp;rw[hpv] at hpv';injection hpv' with e1 _ e2;injection e1 with e1;injection e1 with e1 e3;subst e1 e2 e3;have s2:=(hPA.fn fn hfn).slice;obtain⟨cb,co,hca,hcb,hcode⟩:=(hPA.fn fn hfn).code hcn;rw[hca] at s2;obtain⟨ca,cc,h4,h5⟩:=hcp fn hfn;rw[s2] at h4;injection h4 with h4;injection h4 with _ _ h6;subst h6;exact⟨pb,po,pc,cb,co,_,by rw[Ab h.st.lay.run,<-hpv];rfl,s2,h5,hcbs fn hfn cb co hca hcn,hcode⟩
theorem Bb.more{w':World}{L2:Bxs}(h:Bb w B mb m F MV A s en L E)(hb:Below w.heap.size w w')(hL:Hb L2 w')(hB:∀ t,t∈L2->w.heap.size<=t.1) :
  ∃ A':Af,Bb w' B mb m F MV A' s en (L++L2) E/\A'.g=A.g/\Ch B (fun _=>False) A.tag A'.tag w w':=by
 have hk:Ch B (fun _=>False) A.tag (fun b=>if b<w.heap.size then A.tag b else 5) w w':=Ch.of_tags hb (fun b hb=>if_pos hb);have h1:=h.keep hk;refine⟨_,⟨h1.st,fun t ht=>?_,fun k hk hk2=>(h1.md k hk hk2).mono (fun t ht=>List.mem_append.2 (Or.inl ht)),fun i hi hi2=>(h1.fc i hi hi2).mono (fun t ht=>List.mem_append.2 (Or.inl ht)),h1.ev,h1.cp⟩,rfl,hk⟩;rcases List.mem_append.1 ht with ht|ht
 ·exact h1.bx t ht
 ·exact⟨hL t ht,if_neg (by have:=hB t ht;omega)⟩
theorem Rs{K:Nat->Nat->Bool}{H:Nat->Nat->Int}(h:Bb w B mb m F MV A s en L E)(hF:AP m F K H)(fn:Nat)(hfn:fn<m) :
  Calls prog 115 #[ptr mb,.int .i64 fn] w fun e w'=>e=.returned (.tuple #[])/\DE w B mb m F A (Bu F 1 fn s) en L E w':=by
 obtain⟨vb,vcap,hmv,hvB,hvz,hvt,hvc⟩:=h.st.made.form (by omega);have x2:w.cell? ⟨mb,2,none⟩=some (.slice (some ⟨vb,0,none⟩) m vcap):=by rw[Ab h.st.lay.run,<-hmv];rfl
 have hrow:=h.st.made;rw[hmv] at hrow;have xv:=hrow.cell (i:=fn) (by omega);have zv:=hrow.frozen fn;have hmd:=h.st.mds fn hfn;have heq:=fun X=>Ll hmd X
 obtain⟨p0,n0,c0,hsl⟩:=Fk hmd;rw[hsl] at xv heq;have i0:(0:Int)<=(fn:Int):=by omega
 have i1:(fn:Int)<(m:Int):=by omega
 have hff:=hF.fn fn hfn;have hcm:Bu F 1 fn s={s with made:=Ac s.made fn true}:=by
  unfold Bu;rw[if_pos rfl];rfl
 have HC:=Aa hcm;generalize Bu F 1 fn s=s' at *;cases hb:s.made fn with
 |true =>
  rw[hb] at heq;have HQ:=Aa (show DE w B mb m F A s' en L E w from by
   have e:Ac s.made fn true=s.made:=by
    funext k;by_cases e:k=fn
    ·rw[e,Au,hb]
    ·exact Ao _ _ _ _ e
   rw[HC.out,e];exact⟨A,MV,L,h,Bw.refl _,Ch.refl _ _ _ _,fun t ht=>ht,fun _=>rfl⟩)
  simp only[Bool.not_true] at heq;clear h hmd hsl hrow hff hcm;go_enter func115,ntmps115
  go_wp2;go_end0;exact⟨rfl,HQ.out⟩
 |false =>
  rw[hb] at heq;simp only[Bool.not_false] at heq;obtain⟨pb,po,pc,cb,co,cc,y0,y2,hcap,hcbB,hcode⟩:=h.code hfn hff.cn.1;have hle:=h.st.le;have HCD:=Aa (Tc hcode (Tc hcbB (Tc hcap hff)));have HR:=Aa h;have HMV:=Aa (Tc hmv hvt);have hmz:mb<w.heap.size:=Ah h.st.lay.run;have hpz:pb<w.heap.size:=Tr w _ y2;have hmb:¬mb=vb:=fun e=>by have:=h.st.lay.own.2;rw[e,hvt] at this;omega
  have HC0:=Aa (fun (w':World) (hb:Below w.heap.size w w')=>(show w'.cell? ⟨mb,2,none⟩=some (.slice (some ⟨vb,0,none⟩) m vcap)/\w'.cell? ⟨mb,0,none⟩=some (.slice (some ⟨pb,po,none⟩) m pc)/\w'.cell? ⟨pb,po+fn * 3+2,none⟩=some (.slice (some ⟨cb,co,none⟩) (F fn).cn cc) from ⟨(hb.cell (p:=⟨mb,2,none⟩) hmz).trans x2,(hb.cell (p:=⟨mb,0,none⟩) hmz).trans y0,(hb.cell (p:=⟨pb,po+fn * 3+2,none⟩) hpz).trans y2⟩));clear h hmd hsl hrow hff hcm hmv hvt hcode hcap;generalize hcn:(F fn).cn=cn at *;have HCN:=Aa hcn;clear hcn;go_enter func115,ntmps115
  go_wp2_with fail
  clear heq;refine AG (fun w'=>w'.cell? ⟨mb,2,none⟩=some (.slice (some ⟨vb,0,none⟩) m vcap)/\w'.cell? ⟨mb,0,none⟩=some (.slice (some ⟨pb,po,none⟩) m pc)/\w'.cell? ⟨pb,po+fn * 3+2,none⟩=some (.slice (some ⟨cb,co,none⟩) cn cc)) [(false,0),(false,1),(false,2),(false,3),(false,4),(false,5),(false,6),(false,7),(false,8),(false,9),(false,10),(false,11),(false,12),(true,13),(true,14),(true,15)] (by kernel_rfl) (by kernel_rfl) (A8 _ _) (HC0.out _ (Tu _ _).drew) ?_;simp only[lexL,Tl,Tm];iterate 13 (refine Aw (by rfl) (by intro w' hS';obtain⟨q0,q1,q2⟩:=hS';go_simp;exact rfl) ?_;simp only[Act.put,Td,Th,Tg])
  have HD:=Aa ((Tu w.heap.size w).drew);have hzd:w.drew.heap.size=w.heap.size:=rfl;generalize w.drew=wd at *;have hcon:=OT wd cb co cc cn (F fn) m HCN.out (fun i hi=>by
   obtain⟨a,b⟩:=HCD.out.1 i hi;exact⟨(HD.out.cell (p:=⟨cb,co+i * 2,none⟩) (by show cb<_;omega)).trans a,(HD.out.cell (p:=⟨cb,co+i * 2+1,none⟩) (by show cb<_;omega)).trans b⟩) (by rw[hzd];omega) (by have:=HCD.out.2.2.2.cn;rw[HCN.out] at this;omega) (by have:=HCD.out.2.2.1;omega) HCD.out.2.2.2.legal
  have HT:=Aa hcon;clear hcon;refine Az (fun K hK=>?_);go_simp;refine HT.out.mono ?_;rintro e w3 ⟨v,L2,rfl,hcv,hL2,hB2,hbl⟩;have hbw:Below w.heap.size w w3:=HD.out.trans (by rw[hzd] at hbl;exact hbl);rw[hzd] at hB2;obtain⟨A3,r3,g3,c3⟩:=HR.out.more hbw hL2 hB2;have H3:=Aa (Tc r3 (Tc g3 (Tc c3 hcv)));refine hK.out _ _ (HC0.out w3 hbw) ?_;clear hK K hcv hL2 hB2 hbl r3 g3 c3 HT;refine Az (fun K hK=>?_);obtain⟨q2,_,_⟩:=HC0.out w3 hbw;go_simp;refine hK.out _ _ (HC0.out w3 hbw) ?_;clear hK K q2;obtain⟨vb3,vcap3,arr3,hv3,_,_⟩:=H3.out.2.2.2;have hmv3:A3.g.mv=.slice (some ⟨vb,0,none⟩) m vcap:=by rw[H3.out.2.1];exact HMV.out.1
  have hrow3:=H3.out.1.st.made;rw[hmv3] at hrow3;have xv3:=hrow3.cell (i:=fn) (by omega);have zv3:=hrow3.frozen fn;obtain⟨p1,n1,c1,hsl1⟩:=Fk (H3.out.1.st.mds fn hfn);rw[hsl1] at xv3;obtain⟨h5,c5⟩:=H3.out.1.setMade hfn hmv3 v true (Or.inr ⟨rfl,⟨vb3,0,none⟩,_,vcap3,hv3⟩) (fun _=>H3.out.2.2.2.mono (fun t ht=>List.mem_append.2 (Or.inr ht)));have HQ:=Aa (show DE w B mb m F A s' en L E (w3.setCell ⟨vb,fn,none⟩ v) from by
   rw[HC.out];refine⟨A3,_,_,h5,Bw.of H3.out.2.1,(H3.out.2.2.1.mono (q:=Dk) (fun _ h=>h.elim)).trans (c5.mono (q:=Dk) (fun d hd=>by unfold Dk;omega)),fun t ht=>List.mem_append.2 (Or.inl ht),fun i=>Dc H3.out.2.1 i⟩)
  have hne2:¬vb=mb:=fun e=>hmb e.symm
  have hnp:¬vb=pb:=by
   have hpbB:pb<B:=by
    obtain⟨pb',po',pc',hpv',hpl,_⟩:=H3.out.1.cp;have e2:w3.cell? ⟨mb,0,none⟩=some A3.g.pv:=(Ab H3.out.1.st.lay.run).trans rfl;rw[(HC0.out w3 hbw).2.1,hpv'] at e2;injection e2 with e2;injection e2 with e2 _ _;injection e2 with e2;injection e2 with e2 _;omega
   omega
  have HS5:=Aa (show (w3.setCell ⟨vb,fn,none⟩ v).cell? ⟨mb,2,none⟩=some (.slice (some ⟨vb,0,none⟩) m vcap)/\(w3.setCell ⟨vb,fn,none⟩ v).cell? ⟨mb,0,none⟩=some (.slice (some ⟨pb,po,none⟩) m pc)/\(w3.setCell ⟨vb,fn,none⟩ v).cell? ⟨pb,po+fn * 3+2,none⟩=some (.slice (some ⟨cb,co,none⟩) cn cc) from by
   obtain⟨a1,a2,a3⟩:=HC0.out w3 hbw;exact⟨by rw[To _ _ _ _ hne2];exact a1,by rw[To _ _ _ _ hne2];exact a2,by rw[To _ _ _ _ hnp];exact a3⟩)
  clear h5 c5 hrow3 hsl1 hmv3 H3 HC0 HR;subst hv3;refine Az (fun K hK=>?_);go_simp;refine hK.out _ _ HS5.out ?_;clear hK K;refine AF ?_;go_wp2;go_end0;exact⟨rfl,HQ.out⟩
end
end Go.Proofs.YtkafkipjedpohaaGreatDoor

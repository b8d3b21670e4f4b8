import Derived.Test.YtkafkipjedpohaaGreatDoorR5
namespace Go.Proofs.YtkafkipjedpohaaGreatDoor
set_option maxRecDepth 100000
set_option maxHeartbeats 16000000
open Go.RowKit _root_.Go.Proofs.Tryz
theorem FS{p:Prop}(h:p/\True):p:=h.1
section
variable {w:World}{b o:Nat}{cur:Array Value}{t:TypeId}
theorem Ab{fr:Nat × Nat}(h:w.heap[b]?=some (.cells cur t fr)):w.cell? ⟨b,o,none⟩=cur[o]?:=by
 unfold World.cell?;rw[h];rfl
theorem Ax(h:w.heap[b]?=some (.cells cur t (0,0))):w.frozen? ⟨b,o,none⟩=false:=by
 unfold World.frozen?;rw[h];simp
theorem AM{fr:Nat × Nat}(h:w.heap[b]?=some (.cells cur t fr))(v:Value):(w.setCell ⟨b,o,none⟩ v).heap[b]?=some (.cells (cur.setIfInBounds o v) t fr):=by
 simp[World.setCell,Array.getElem?_modify,h]
theorem Ah{o:Obj}(h:w.heap[b]?=some o):b<w.heap.size:=(Array.getElem?_eq_some_iff.1 h).1
theorem J1(w:World)(B b o c:Nat)(t:TypeId)(tag:Nat->Nat)(cur:Array Value)(sv:Value)(st:List V)(v:V)(hb:w.heap[b]?=some (.cells cur t (0,0)))(ho:cur[o]?=some sv)(hBb:B<=b)(hB:B<=w.heap.size)(hne:tag b≠c)(hrow:Ae w B tag c 43 2 sv st.length (Ar st.reverse))(hn:st.length<=100000) :
  Calls prog 132 #[.pointer (some ⟨b,o,none⟩),.agg #[.int .i64 v.k,.int .i64 v.n]] w fun e w'=>e=.returned (.tuple #[]) /\
   ∃ tag' sv',Ae w' B tag' c 43 2 sv' (v::st).length (Ar (v::st).reverse)/\w'.heap[b]?=some (.cells (cur.setIfInBounds o sv') t (0,0))/\Ch B (fun d=>d=c\/d=tag b) tag tag' w w':=by
 have hbz:=Ah hb;obtain⟨inf,hi,hz0,hz1,hz2⟩:∃ i,prog.info? 43=some i/\i.zero=some (.agg #[.int .i64 0,.int .i64 0])/\i.size=2/\i.bytes=16:=by
  obtain⟨i,hi,hzz⟩:=Tp.1 Tryz.info43;simp only[Prod.mk.injEq] at hzz;exact⟨i,hi,hzz.1,hzz.2.1,hzz.2.2⟩
 have hW:Below w.heap.size w (w.alloc (.cells #[.int .i64 v.k,.int .i64 v.n] 43)):=(Tu _ _).alloc (Te _) _;have Av:(w.alloc (.cells #[.int .i64 v.k,.int .i64 v.n] 43)).heap.size=w.heap.size+1:=by simp
 have hbW:=(hW.block b hbz).trans hb;have d3:(w.alloc (.cells #[.int .i64 v.k,.int .i64 v.n] 43)).cell? ⟨b,o,none⟩=some sv:=(Ab hbW).trans ho;have y3:(w.alloc (.cells #[.int .i64 v.k,.int .i64 v.n] 43)).frozen? ⟨b,o,none⟩=false:=Ax hbW;have b0:(w.alloc (.cells #[.int .i64 v.k,.int .i64 v.n] 43)).cell? ⟨w.heap.size,0,none⟩=some (.int .i64 v.k):=BP w _ _ _ _ rfl;have b1:(w.alloc (.cells #[.int .i64 v.k,.int .i64 v.n] 43)).cell? ⟨w.heap.size,1,none⟩=some (.int .i64 v.n):=BP w _ _ _ _ rfl;have hch:Ch B (fun d=>d=c\/d=tag b) tag tag w (w.alloc (.cells #[.int .i64 v.k,.int .i64 v.n] 43)):=Ch.of_below hW;have hrW:Ae (w.alloc (.cells #[.int .i64 v.k,.int .i64 v.n] 43)) B tag c 43 2 sv st.length (Ar st.reverse):=hrow.keep (Ch.of_below (p:=fun _=>False) hW) (fun h=>h);have hne1:some b≠sv.ownBlock:=hrow.other hne;have hne2:some w.heap.size≠sv.ownBlock:=hrow.otherNew (Te _);have HC:=Aa (Tc hch (Tc hrW hbW));have HZ:=Aa Av;have HY:=Aa y3;have D3:=Aa d3;have B0:=Aa b0;have B1:=Aa b1;have HO:=Aa ho;have HN:=Aa hne;clear hch hrW hbW Av y3 hW hrow hb d3 b0 b1 ho hne;go_enter func132,ntmps132
 go_wp2;have d3:=D3.out;have b0:=B0.out;have b1:=B1.out;clear D3 B0 B1;generalize w.alloc (.cells #[.int .i64 v.k,.int .i64 v.n] 43)=W at *;have hbs:w.heap.size<W.heap.size:=by have:=HZ.out;omega
 have hfs:b<W.heap.size:=by omega
 go_region_law
  ((refine step_append_lies _ (by rfl) _ _ _ (by rfl) B 43 inf _ 2 16 underlying44 hi hz0 hz1 hz2 rfl (by decide) sv st.length _ (by rfl) (by exact(HC.out.2.1.owns.drew).alloc _) ⟨W.heap.size,0,none⟩ 1 1 [.int .i64 v.k,.int .i64 v.n] (by rfl) (by rfl) (by exact World.news_of_block (Tv W.drew _)) (by intro u hu;simp at hu;rcases hu with rfl|rfl<;>rfl) (by omega) (by unfold maxLen;omega) (by omega) (by simp;omega) (W.heap.size+1) (by simp) ?_;intro g cap w1 hown1 hgrow hat hlt;have q0:=(DU hgrow (a:=⟨b,o,none⟩) hfs hne1).trans d3;have q1:=(DU hgrow (a:=⟨w.heap.size,0,none⟩) hbs hne2).trans b0;have q2:=(DU hgrow (a:=⟨w.heap.size,1,none⟩) hbs hne2).trans b1;have q3:=(G3 hgrow (a:=⟨b,o,none⟩) hfs hne1).trans HY.out))
 all_goals
  have hXb:Below W.heap.size W (W.alloc (.cells #[.int .i64 v.k,.int .i64 v.n] 43)).drew:=((Tu _ _).alloc (Te _) _).drew;have hX:Ch B (fun _=>False) tag tag W (W.alloc (.cells #[.int .i64 v.k,.int .i64 v.n] 43)).drew:=Ch.of_below hXb;obtain⟨tag',hst,hgc⟩:=(HC.out.2.1.keep hX (fun h=>h)).grew hown1 hgrow (by rcases hat with h|h;exact Or.inl h;right;rw[h];simp) rfl;have hlx:b<(W.alloc (.cells #[.int .i64 v.k,.int .i64 v.n] 43)).drew.heap.size:=by simp;omega
  have htf:tag' b=tag b:=hgc.tags b hlx;have hb1:w1.heap[b]?=some (.cells cur t (0,0)):=(hgc.block b hlx (Or.inr HN.out)).trans ((hXb.block b hfs).trans HC.out.2.2);have hb2:=AM (o:=o) hb1 (.slice (some ⟨g,0,none⟩) (st.length+1) cap);have hcs:Ch B (fun d=>d=tag b) tag' tag' w1 (w1.setCell ⟨b,o,none⟩ (.slice (some ⟨g,0,none⟩) (st.length+1) cap)):=Ch.set w1 b _ _ hBb htf;have hst2:=(hst.keep hcs (fun h=>HN.out h.symm)).congr (g:=Ar (v::st).reverse) (fun i hi=>by
   rw[List.reverse_cons,<-Hg _ _ _ (by simpa using hi)];simp)
  have hall:Ch B (fun d=>d=c\/d=tag b) tag tag' w (w1.setCell ⟨b,o,none⟩ (.slice (some ⟨g,0,none⟩) (st.length+1) cap)) :=
   ((HC.out.1.trans (hX.mono (fun _ h=>h.elim))).trans (hgc.mono (fun _ h=>Or.inl h))).trans (hcs.mono (fun _ h=>Or.inr h))
  have HQ:=Aa (Tc hst2 (Tc hb2 hall));clear hall hst2 hcs hst hgc hX hXb hown1 hgrow q0 q1 q2 q3 hb1 hb2;go_end0;exact⟨rfl,tag',_,HQ.out⟩
theorem KI(w:World)(B b o c:Nat)(t:TypeId)(tag:Nat->Nat)(cur:Array Value)(sv:Value)(st:List V)(v:V)(hb:w.heap[b]?=some (.cells cur t (0,0)))(ho:cur[o]?=some sv)(hBb:B<=b)(hne:tag b≠c)(hrow:Ae w B tag c 43 2 sv (v::st).length (Ar (v::st).reverse))(hn:st.length<=100000) :
  Calls prog 129 #[.pointer (some ⟨b,o,none⟩)] w fun e w'=>e=.returned (.agg #[.int .i64 v.k,.int .i64 v.n]) /\
   ∃ sv',Ae w' B tag c 43 2 sv' st.length (Ar st.reverse)/\w'.heap[b]?=some (.cells (cur.setIfInBounds o sv') t (0,0))/\Ch B (fun d=>d=tag b) tag tag w w':=by
 have hbz:=Ah hb;rw[Tn,List.reverse_cons] at hrow;obtain⟨sb,scap,rfl,hsb,Av,hstg,hsc⟩:=hrow.form (by omega);have hlr:st.reverse.length=st.length:=by simp
 have x0:=hrow.cell (i:=st.length * 2) (by omega);have x1:=hrow.cell (i:=st.length * 2+1) (by omega);have ht:=IA st.reverse v;rw[hlr] at ht;rw[ht.1] at x0;rw[ht.2] at x1;have hneb:¬sb=b:=by intro e;rw[e] at hstg;exact hne hstg
 have c0:w.cell? ⟨b,o,none⟩=some (.slice (some ⟨sb,0,none⟩) (st.length+1) scap):=(Ab hb).trans ho;have z0:w.frozen? ⟨b,o,none⟩=false:=Ax hb;have HR:=Aa (Tc hrow (Tc hb hne));clear hrow hb ht hlr ho hne hstg;generalize hnn:st.length=n at *;have Hn:=Aa hnn;clear hnn;go_enter func129,ntmps129
 go_wp2;refine bodyPost_ret (v:=.agg #[.int .i64 v.k,.int .i64 v.n]) (by simp[results,Tryz.results129,go_sem]) rfl ⟨rfl,.slice (some ⟨sb,0,none⟩) n scap,?_⟩;obtain⟨hrow,hb,hne⟩:=HR.out;have h0:Ch B (fun d=>d=tag b) tag tag w (w.setCell ⟨b,o,none⟩ (.slice (some ⟨sb,0,none⟩) n scap)):=Ch.set w b o _ hBb rfl;have h1:=(h0.alloc (.cells #[.int .i64 v.k,.int .i64 v.n] 43)).alloc (.cells #[.int .i64 v.k,.int .i64 v.n] 43);have hs2:=((hrow.take n (by omega)).keep h1 (fun h=>hne h.symm)).congr (g:=Ar st.reverse) (fun i hi=>KN _ _ _ (by rw[List.length_reverse,Hn.out];exact hi));refine⟨hs2,?_,h1⟩;rw[Ty _ _ _ (by simp[World.setCell];omega),Ty _ _ _ (by simp[World.setCell];omega)];exact AM hb _
end
def CE(FB:Nat->Nat):Nat->Value:=fun i=>.pointer (some ⟨FB i,0,none⟩)
theorem Tryz.infoPtr:(prog.info? 133).map (fun i=>(i.zero,i.size,i.bytes))=some (some (.pointer none),1,8):=by kernel_rfl
theorem FX(w:World)(b o n:Nat)(c:Nat)(p:Option Addr)(h:w.cell? ⟨b,o,none⟩=some (.slice p n c)) :
  Calls prog 92 #[.pointer (some ⟨b,o,none⟩)] w fun e w'=>e=.returned (.int .i64 n)/\w'=w:=by
 go_enter func92,ntmps92
 go_wp2;go_ret;exact⟨rfl,rfl⟩
theorem Ha(w:World)(b o n sb c:Nat)(q:Value)(h:w.cell? ⟨b,o,none⟩=some (.slice (some ⟨sb,0,none⟩) (n+1) c))(hq:w.cell? ⟨sb,n,none⟩=some q)(hn:n<=100000) :
  Calls prog 89 #[.pointer (some ⟨b,o,none⟩)] w fun e w'=>e=.returned q/\∃ k,w'=w.drewN k:=by
 go_enter func89,ntmps89
 go_wp2;go_quiet (fail)
 go_wp2;go_ret;exact⟨rfl,_,rfl⟩
theorem Ke(w:World)(b o n sb c:Nat)(q:Value)(h:w.cell? ⟨b,o,none⟩=some (.slice (some ⟨sb,0,none⟩) (n+1) c))(hz:w.frozen? ⟨b,o,none⟩=false)(hq:w.cell? ⟨sb,n,none⟩=some q)(hn:n<=100000)(hc:n+1<=c) :
  Calls prog 146 #[.pointer (some ⟨b,o,none⟩)] w fun e w'=>e=.returned q/\w'=w.setCell ⟨b,o,none⟩ (.slice (some ⟨sb,0,none⟩) n c):=by
 go_enter func146,ntmps146
 go_wp2;go_ret;exact⟨rfl,rfl⟩
theorem O4(w:World)(B b o c:Nat)(t:TypeId)(tag:Nat->Nat)(cur:Array Value)(sv:Value)(n:Nat)(FB:Nat->Nat)(q:Nat)(hb:w.heap[b]?=some (.cells cur t (0,0)))(ho:cur[o]?=some sv)(hBb:B<=b)(hB:B<=w.heap.size)(hne:tag b≠c)(hrow:Ae w B tag c 133 1 sv n (CE FB))(hn:n<=100000) :
  Calls prog 86 #[.pointer (some ⟨b,o,none⟩),.pointer (some ⟨q,0,none⟩)] w fun e w'=>e=.returned (.tuple #[]) /\
   ∃ tag' sv',Ae w' B tag' c 133 1 sv' (n+1) (CE (Ac FB n q))/\w'.heap[b]?=some (.cells (cur.setIfInBounds o sv') t (0,0))/\Ch B (fun d=>d=c\/d=tag b) tag tag' w w':=by
 have hbz:=Ah hb;obtain⟨inf,hi,hz0,hz1,hz2⟩:∃ i,prog.info? 133=some i/\i.zero=some (.pointer none)/\i.size=1/\i.bytes=8:=by
  obtain⟨i,hi,hzz⟩:=Tp.1 Tryz.infoPtr;simp only[Prod.mk.injEq] at hzz;exact⟨i,hi,hzz.1,hzz.2.1,hzz.2.2⟩
 have d3:w.cell? ⟨b,o,none⟩=some sv:=(Ab hb).trans ho;have y3:w.frozen? ⟨b,o,none⟩=false:=Ax hb;have hne1:some b≠sv.ownBlock:=hrow.other hne;have HC:=Aa (Tc hrow (Tc hb hne));clear hrow hb ho hne;go_enter func86,ntmps86
 go_wp2_with (at_builtin;refine FS ?_)
 refine⟨?_,trivial⟩;refine wpList_append_lies _ rfl _ _ _ rfl B 133 inf _ 1 8 underlying126 hi hz0 hz1 hz2 rfl (by decide) sv n _ rfl (HC.out.1.owns.alloc _) ⟨w.heap.size,0,none⟩ 1 1 [.pointer (some ⟨q,0,none⟩)] rfl rfl (World.news_of_block (Tv w _)) (by intro u hu;simp at hu;subst hu;rfl) (by omega) (by unfold maxLen;omega) (by omega) (by simp;omega) (w.heap.size+1) (by simp) ?_;intro g cap w1 hown hgrow hat hlt;have hX:Ch B (fun _=>False) tag tag w (w.alloc (.cells #[.pointer (some ⟨q,0,none⟩)] 133)):=Ch.of_below ((Tu _ _).alloc (Te _) _);have hblk:(w.alloc (.cells #[.pointer (some ⟨q,0,none⟩)] 133)).heap[b]?=w.heap[b]?:=Ty w _ b hbz;obtain⟨tag',hst,hgc⟩:=(HC.out.1.keep hX (fun h=>h)).grew hown hgrow (by rcases hat with h|h;exact Or.inl h;right;rw[h];simp) rfl;have hlx:b<(w.alloc (.cells #[.pointer (some ⟨q,0,none⟩)] 133)).heap.size:=by simp;omega
 have htf:tag' b=tag b:=hgc.tags b hlx;have hb1:w1.heap[b]?=some (.cells cur t (0,0)):=(hgc.block b hlx (Or.inr HC.out.2.2)).trans (hblk.trans HC.out.2.1);have hb2:=AM (o:=o) hb1 (.slice (some ⟨g,0,none⟩) (n+1) cap);have hcs:Ch B (fun d=>d=tag b) tag' tag' w1 (w1.setCell ⟨b,o,none⟩ (.slice (some ⟨g,0,none⟩) (n+1) cap)):=Ch.set w1 b _ _ hBb htf;have hst2:=(hst.keep hcs (fun h=>HC.out.2.2 h.symm)).congr (g:=CE (Ac FB n q)) (fun i hi=>by
  unfold CE;by_cases h:i<n * 1
  ·rw[if_pos h,Ao _ _ _ _ (by omega)]
  ·obtain rfl:i=n:=by omega
   rw[if_neg h,Au];simp)
 have hall:Ch B (fun d=>d=c\/d=tag b) tag tag' w (w1.setCell ⟨b,o,none⟩ (.slice (some ⟨g,0,none⟩) (n+1) cap)) :=
  ((hX.mono (fun _ h=>h.elim)).trans (hgc.mono (fun _ h=>Or.inl h))).trans (hcs.mono (fun _ h=>Or.inr h))
 have q0:w1.cell? ⟨b,o,none⟩=some sv:=(Ab hb1).trans ((Ab HC.out.2.1).symm.trans d3);have q1:w1.frozen? ⟨b,o,none⟩=false:=Ax hb1;have HQ:=Aa (Tc hst2 (Tc hb2 hall));clear hall hst2 hcs hst hgc hX hown hgrow hb1 hb2 hblk;go_wp2;go_end0;exact⟨rfl,tag',_,HQ.out⟩
structure GO where
 pv:Value
 ev:Value
 mv:Value
 FB:Nat->Nat
 CV:Nat->Value
 hi:Int
 up:Int
 dn:Int
structure Af where
 tag:Nat->Nat
 g:GO
 fv:Value
 av:Value
 ov:Value
 LV:Nat->Value
 SV:Nat->Value
 AV:Nat->Value
def Af.FB(A:Af):Nat->Nat:=A.g.FB
def D4(A:Af)(s:Mc)(en:Int):Array Value :=
 #[A.g.pv,A.g.ev,A.g.mv,A.fv,A.av,.int .i64 (AL s.arr),A.ov,.int .i64 s.steps,.int .i64 A.g.hi,.int .i64 A.g.up,.int .i64 A.g.dn,.int .i64 en,.int .i64 s.gives.k,.int .i64 s.gives.n]
def E2(f:Fr)(lv sv cv:Value):Array Value:=#[.int .i64 f.fn,.int .i64 f.pc,lv,sv,cv]
structure AB (w:World) (B mb:Nat) (A:Af) (s:Mc) (en:Int):Prop where
 run:w.heap[mb]?=some (.cells (D4 A s en) 130 (0,0))
 own:B<=mb/\A.tag mb=0
 fr:Ae w B A.tag 1 133 1 A.fv s.fr.length (CE A.FB)
 fb:∀ i,i<s.fr.length->w.heap[A.FB i]?=some (.cells (E2 (Am s.fr i) (A.LV i) (A.SV i) (A.g.CV i)) 138 (0,0))/\B<=A.FB i/\A.tag (A.FB i)=10+4 * i
 ar:Ae w B A.tag 2 44 1 A.av s.arr.length A.AV
 out:Ae w B A.tag 3 43 2 A.ov s.out.length (Ar s.out)
 loc:∀ i,i<s.fr.length->Ae w B A.tag (11+4 * i) 43 2 (A.LV i) (Am s.fr i).loc.length (Ar (Am s.fr i).loc)
 stk:∀ i,i<s.fr.length->Ae w B A.tag (12+4 * i) 43 2 (A.SV i) (Am s.fr i).stk.length (Ar (Am s.fr i).stk.reverse)
 arr:∀ j,j<s.arr.length->Ae w B A.tag (13+4 * j) 43 2 (A.AV j) (s.arr.getD j []).length (Ar (s.arr.getD j []))
def Tk(k d:Nat):Prop:=d=10+4 * k\/d=11+4 * k\/d=12+4 * k
section
variable {w w':World}{B mb:Nat}{tag':Nat->Nat}{s:Mc}{en:Int}
theorem Bq{b:Nat}{tag:Nat->Nat}{p:Nat->Prop}{o:Obj}(h:w.heap[b]?=some o)(k:Ch B p tag tag' w w')(hp:¬p (tag b)):w'.heap[b]?=some o/\tag' b=tag b :=
 ⟨(k.block b (Ah h) (Or.inr hp)).trans h,k.tags b (Ah h)⟩
theorem AB.top{A:Af}{f f':Fr}{rest:List Fr}{lv sv:Value}(h:AB w B mb A s en)(hs:s.fr=f::rest)(k:Ch B (Tk rest.length) A.tag tag' w w')
  (hfb:w'.heap[A.FB rest.length]?=some (.cells (E2 f' lv sv (A.g.CV rest.length)) 138 (0,0)))
  (hlo:Ae w' B tag' (11+4 * rest.length) 43 2 lv f'.loc.length (Ar f'.loc)) (hst:Ae w' B tag' (12+4 * rest.length) 43 2 sv f'.stk.length (Ar f'.stk.reverse)) :
  AB w' B mb {A with tag:=tag',LV:=Ac A.LV rest.length lv,SV:=Ac A.SV rest.length sv} {s with fr:=f'::rest} en:=by
 have hlen:s.fr.length=rest.length+1:=by rw[hs];rfl
 have hot:∀ i,i<rest.length->Am (f'::rest) i=Am s.fr i:=fun i hi=>by rw[hs,B9 _ _ _ hi,B9 _ _ _ hi]
 have hfbk:=h.fb rest.length (by omega);obtain⟨r1,r2⟩:=Bq h.run k (by rw[h.own.2];unfold Tk;omega);refine⟨r1,⟨h.own.1,r2.trans h.own.2⟩,?_,fun i hi=>?_,h.ar.keep k (by unfold Tk;omega),h.out.keep k (by unfold Tk;omega),fun i hi=>?_,fun i hi=>?_,fun j hj=>(h.arr j hj).keep k (by unfold Tk;omega)⟩
 ·have:=h.fr.keep k (by unfold Tk;omega);rw[hlen] at this;exact this
 ·have hi':i<rest.length+1:=hi;by_cases e:i=rest.length
  ·subst e;refine⟨?_,hfbk.2.1,(k.tags _ (Ah hfbk.1)).trans hfbk.2.2⟩;show _=some (Obj.cells (E2 (Am (f'::rest) rest.length) (Ac A.LV rest.length lv rest.length) (Ac A.SV rest.length sv rest.length) (A.g.CV rest.length)) _ _);rw[Bg,Au,Au];exact hfb
  ·obtain⟨g1,g2,g3⟩:=h.fb i (by omega);obtain⟨g4,g5⟩:=Bq g1 k (by rw[g3];unfold Tk;omega);refine⟨?_,g2,g5.trans g3⟩;show _=some (Obj.cells (E2 (Am (f'::rest) i) (Ac A.LV rest.length lv i) (Ac A.SV rest.length sv i) (A.g.CV i)) _ _);rw[hot i (by omega),Ao _ _ _ _ e,Ao _ _ _ _ e];exact g4
 ·have hi':i<rest.length+1:=hi;show Ae w' B tag' _ _ 2 (Ac A.LV rest.length lv i) (Am (f'::rest) i).loc.length (Ar (Am (f'::rest) i).loc);by_cases e:i=rest.length
  ·subst e;rw[Bg,Au];exact hlo
  ·rw[hot i (by omega),Ao _ _ _ _ e];exact(h.loc i (by omega)).keep k (by unfold Tk;omega)
 ·have hi':i<rest.length+1:=hi;show Ae w' B tag' _ _ 2 (Ac A.SV rest.length sv i) (Am (f'::rest) i).stk.length (Ar (Am (f'::rest) i).stk.reverse);by_cases e:i=rest.length
  ·subst e;rw[Bg,Au];exact hst
  ·rw[hot i (by omega),Ao _ _ _ _ e];exact(h.stk i (by omega)).keep k (by unfold Tk;omega)
theorem AB.keep{A:Af}(h:AB w B mb A s en)(k:Ch B (fun _=>False) A.tag tag' w w'):AB w' B mb {A with tag:=tag'} s en:=by
 obtain⟨r1,r2⟩:=Bq h.run k (fun h=>h);refine⟨r1,⟨h.own.1,r2.trans h.own.2⟩,h.fr.keep k (fun h=>h),fun i hi=>?_,h.ar.keep k (fun h=>h),h.out.keep k (fun h=>h),fun i hi=>(h.loc i hi).keep k (fun h=>h),fun i hi=>(h.stk i hi).keep k (fun h=>h),fun j hj=>(h.arr j hj).keep k (fun h=>h)⟩;obtain⟨g1,g2,g3⟩:=h.fb i hi;obtain⟨g4,g5⟩:=Bq g1 k (fun h=>h);exact⟨g4,g2,g5.trans g3⟩
theorem AB.below{A:Af}(h:AB w B mb A s en)(k:Below w.heap.size w w'):AB w' B mb A s en:=h.keep (Ch.of_below k)
def CX(p:Nat->Prop)(w w':World)(B mb:Nat)(A:Af)(s':Mc)(en:Int):Prop :=
 ∃ A':Af,AB w' B mb A' s' en/\A'.g=A.g/\Ch B p A.tag A'.tag w w'
theorem Lo(w:World)(B mb:Nat)(A:Af)(s:Mc)(en:Int)(f:Fr)(rest:List Fr)(v:V)(hL:AB w B mb A s en)(hs:s.fr=f::rest)(hB:B<=w.heap.size)(hn:f.stk.length<=64) :
  Calls prog 132 #[.pointer (some ⟨A.FB rest.length,3,none⟩),.agg #[.int .i64 v.k,.int .i64 v.n]] w fun e w'=>e=.returned (.tuple #[])/\CX (Tk rest.length) w w' B mb A {s with fr:={f with stk:=v::f.stk}::rest} en:=by
 have hlen:s.fr.length=rest.length+1:=by rw[hs];rfl
 have e0:Am s.fr rest.length=f:=by rw[hs];exact Bg _ _
 obtain⟨g1,g2,g3⟩:=hL.fb rest.length (by omega);have hrow:=hL.stk rest.length (by omega);have hloc:=hL.loc rest.length (by omega);rw[e0] at g1 hrow hloc;refine(J1 w B _ 3 _ _ A.tag _ _ f.stk v g1 rfl g2 hB (by rw[g3];omega) hrow (by omega)).mono ?_;rintro e w' ⟨rfl,tag',sv',h1,h2,h3⟩;have h4:Ch B (Tk rest.length) A.tag tag' w w':=h3.mono (fun d hd=>by rw[g3] at hd;unfold Tk;omega);exact⟨rfl,_,hL.top hs h4 h2 (hloc.keep h3 (by rw[g3];omega)) h1,rfl,h4⟩
theorem Mz(w:World)(B mb:Nat)(A:Af)(s:Mc)(en:Int)(f:Fr)(rest:List Fr)(v:V)(st:List V)(hL:AB w B mb A s en)(hs:s.fr=f::rest)(hst:f.stk=v::st)(hn:st.length<=64) :
  Calls prog 129 #[.pointer (some ⟨A.FB rest.length,3,none⟩)] w fun e w'=>e=.returned (.agg #[.int .i64 v.k,.int .i64 v.n])/\CX (Tk rest.length) w w' B mb A {s with fr:={f with stk:=st}::rest} en:=by
 have hlen:s.fr.length=rest.length+1:=by rw[hs];rfl
 have e0:Am s.fr rest.length=f:=by rw[hs];exact Bg _ _
 obtain⟨g1,g2,g3⟩:=hL.fb rest.length (by omega);have hrow:=hL.stk rest.length (by omega);have hloc:=hL.loc rest.length (by omega);rw[e0] at g1 hrow hloc;rw[hst] at hrow;refine(KI w B _ 3 _ _ A.tag _ _ st v g1 rfl g2 (by rw[g3];omega) hrow (by omega)).mono ?_;rintro e w' ⟨rfl,sv',h1,h2,h3⟩;have h4:Ch B (Tk rest.length) A.tag A.tag w w':=h3.mono (fun d hd=>by rw[g3] at hd;unfold Tk;omega);exact⟨rfl,_,hL.top hs h4 h2 (hloc.keep h3 (by rw[g3];omega)) h1,rfl,h4⟩
end
def BT(n:Int):Ending:=.panicked [{v:=.iface 163 (.int .i64 n),recovered:=false}]
def S8(v:V):Value:=.agg #[.int .i64 v.k,.int .i64 v.n]
theorem Sj(n:Int)(w:World):Calls prog 133 #[.int .i64 n] w fun e w'=>e=.returned (.agg #[.int .i64 1,.int .i64 n])/\w'=w.alloc (.cells #[.int .i64 1,.int .i64 n] 43):=by
 go_enter func133,ntmps133
 go_wp2;exact bodyPost_ret (v:=.agg #[.int .i64 1,.int .i64 n]) (by simp[results,Tryz.results133,go_sem]) rfl ⟨rfl,rfl⟩
theorem Ph(n:Int)(w:World):Calls prog 134 #[.int .i64 n] w fun e w'=>e=.returned (.agg #[.int .i64 3,.int .i64 n])/\w'=w.alloc (.cells #[.int .i64 3,.int .i64 n] 43):=by
 go_enter func134,ntmps134
 go_wp2;exact bodyPost_ret (v:=.agg #[.int .i64 3,.int .i64 n]) (by simp[results,Tryz.results134,go_sem]) rfl ⟨rfl,rfl⟩
theorem SP(k n:Int)(w:World):Calls prog 147 #[.agg #[.int .i64 k,.int .i64 n]] w fun e w'=>((k=1/\e=.returned (.int .i64 n))\/(k≠1/\e=BT 3))/\w'=w.alloc (.cells #[.int .i64 k,.int .i64 n] 43):=by
 by_cases hk:k=1
 ·have e1:(k != 1)=false:=by simpa using hk
  have HK:=Aa hk;clear hk;go_enter func147,ntmps147
  go_wp2;go_ret;exact⟨Or.inl ⟨HK.out,rfl⟩,rfl⟩
 ·have e1:(k != 1)=true:=by simpa using hk
  have HK:=Aa hk;clear hk;go_enter func147,ntmps147
  go_wp2;exact⟨rfl,Or.inr ⟨HK.out,rfl⟩,rfl⟩
theorem KH(b:Bool)(w:World):Calls prog 153 #[.bool b] w fun e w'=>e=.returned (.int .i64 (if b=true then 1 else 0))/\w'=w:=by
 cases b
 ·go_enter func153,ntmps153
  go_wp2;go_ret;exact⟨rfl,rfl⟩
 ·go_enter func153,ntmps153
  go_wp2;go_ret;exact⟨rfl,rfl⟩
def DD(op a b:Int):Int :=
 if op=4 then Dn (a+b) else if op=5 then Dn (a-b) else if op=6 then Dn (a * b) else if op=7 then Dn (a.tdiv b) else if a<b then 1 else 0
def Dd(op:Int):Nat:=if op=4 then 148 else if op=5 then 149 else if op=6 then 150 else if op=7 then 151 else 152
theorem R0(op a b:Int)(hop:op=4\/op=5\/op=6\/op=7\/op=8)(w:World):Calls prog (Dd op) #[.int .i64 a,.int .i64 b] w fun e w'=>((¬(op=7/\b=0)/\e=.returned (.int .i64 (DD op a b)))\/((op=7/\b=0)/\e=BT 4))/\w'=w:=by
 rcases hop with rfl|rfl|rfl|rfl|rfl
 ·show Calls prog 148 _ _ _;go_enter func148,ntmps148
  go_wp2;go_ret;exact⟨Or.inl ⟨fun h=>by omega,by simp[DD,DQ]⟩,rfl⟩
 ·show Calls prog 149 _ _ _;go_enter func149,ntmps149
  go_wp2;go_ret;exact⟨Or.inl ⟨fun h=>by omega,by simp[DD,DQ]⟩,rfl⟩
 ·show Calls prog 150 _ _ _;go_enter func150,ntmps150
  go_wp2;go_ret;exact⟨Or.inl ⟨fun h=>by omega,by simp[DD,DQ]⟩,rfl⟩
 ·show Calls prog 151 _ _ _;by_cases hb:b=0
  ·subst hb;go_enter func151,ntmps151
   go_wp2;refine⟨rfl,?_,rfl⟩;simp[BT]
  ·have e1:(b==0)=false:=by simpa using hb
   have HB:=Aa hb;clear hb;go_enter func151,ntmps151
   go_wp2;go_ret;exact⟨Or.inl ⟨fun h=>HB.out h.2,by simp[DD,DQ]⟩,rfl⟩
 ·show Calls prog 152 _ _ _;have hv:(if decide (a<b)=true then (1:Int) else 0)=DD 8 a b:=by simp[DD]
  have hq:=KH (decide (a<b)) w;rw[hv] at hq;have HQ:=Aa hq;clear hq hv;generalize DD 8 a b=x at *;go_enter func152,ntmps152
  go_wp2_with fail
  refine HQ.out.mono ?_;rintro e w' ⟨rfl,hw'⟩;rw[hw'];clear hw' w';go_wp2;go_ret;exact⟨Or.inl ⟨fun h=>by omega,rfl⟩,rfl⟩
theorem Kv(op:Int)(hop:op=4\/op=5\/op=6\/op=7\/op=8)(w:World):Calls prog 137 #[.int .i64 op] w fun e w'=>e=.returned (.func (.func (Dd op)) #[] #[])/\w'=w:=by
 rcases hop with rfl|rfl|rfl|rfl|rfl
 all_goals
  go_enter func137,ntmps137
  go_wp2;go_ret;exact⟨rfl,rfl⟩
section
variable {B mb:Nat}{A:Af}{en:Int}{w W:World}{s:Mc}
theorem AB.box(h:AB w B mb A s en)(o:Obj):AB (w.alloc o) B mb {A with tag:=Ac A.tag w.heap.size 5} s en :=
 h.keep (Ch.of_tags ((Tu _ _).alloc (Te _) o) (fun b hb=>Ao _ _ _ _ (by omega)))
theorem CX.from{p:Nat->Prop}{X w':World}{s':Mc}(h:CX p X w' B mb A s' en)(hX:Below W.heap.size W X):CX p W w' B mb A s' en:=by
 obtain⟨A',h1,h2,h4⟩:=h;exact⟨A',h1,h2,(Ch.of_below hX).trans h4⟩
def N5(d:Nat):Prop:=d≠5/\d≠6
theorem Ht(k:Nat):¬Tk k 5:=by unfold Tk;omega
theorem Ek{k d:Nat}(h:Tk k d):N5 d:=by unfold Tk at h;unfold N5;omega
theorem CX.boxed{p:Nat->Prop}{w1:World}{s':Mc}(h:CX p w w1 B mb A s' en)(o:Obj) :
  ∃ A':Af,AB (w1.alloc o) B mb A' s' en/\A'.g=A.g/\A'.tag w1.heap.size=5/\Ch B p A.tag A'.tag w (w1.alloc o):=by
 obtain⟨A1,h1,h2,h4⟩:=h;exact⟨_,h1.box o,h2,Au _ _ _,h4.trans (Ch.of_tags ((Tu _ _).alloc (Te _) o) (fun b hb=>Ao _ _ _ _ (by omega)))⟩
theorem SZ{f:Fr}{rest:List Fr}(hL:AB W B mb A s en)(hs:s.fr=f::rest)(hB:B<=W.heap.size)(hn:f.stk.length<=64){fbk:Nat}(hfb:A.FB rest.length=fbk)(v:V)(X:World)(hX:Below W.heap.size W X) :
  Calls prog 132 #[.pointer (some ⟨fbk,3,none⟩),.agg #[.int .i64 v.k,.int .i64 v.n]] X fun e w'=>e=.returned (.tuple #[])/\CX (Tk rest.length) W w' B mb A {s with fr:={f with stk:=v::f.stk}::rest} en:=by
 subst hfb;refine(Lo X B mb A s en f rest v (hL.below hX) hs (by have:=hX.size;omega) hn).mono ?_;rintro e w' ⟨rfl,h⟩;exact⟨rfl,h.from hX⟩
theorem MQ{f:Fr}{rest:List Fr}{v:V}{st:List V}(hL:AB W B mb A s en)(hs:s.fr=f::rest)(hst:f.stk=v::st)(hn:st.length<=64){fbk:Nat}(hfb:A.FB rest.length=fbk)(X:World)(hX:Below W.heap.size W X) :
  Calls prog 129 #[.pointer (some ⟨fbk,3,none⟩)] X fun e w'=>e=.returned (.agg #[.int .i64 v.k,.int .i64 v.n])/\CX (Tk rest.length) W w' B mb A {s with fr:={f with stk:=st}::rest} en:=by
 subst hfb;refine(Mz X B mb A s en f rest v st (hL.below hX) hs hst hn).mono ?_;rintro e w' ⟨rfl,h⟩;exact⟨rfl,h.from hX⟩
theorem BH{o:Obj}{a:Addr}{v:Value}(h:w.cell? a=some v)(ha:a.block<w.heap.size):(w.alloc o).cell? a=some v :=
 (((Tu w.heap.size w).alloc (Te _) o).cell ha).trans h
end
open Go
def Tz:List (Bool×Nat):=[(false,0),(false,1),(false,2),(false,3),(false,4),(false,5),(false,6),(true,7),(true,8),(true,9)]
def TA:List (Bool×Nat):=[(false,0),(false,1),(false,2),(false,3),(false,4),(false,5),(true,6),(true,7)]
def TB:List (Bool×Nat):=[(false,0),(false,1),(false,2),(false,3),(false,4),(true,5),(true,6)]
def TC:List (Bool×Nat):=[(false,0),(false,1),(false,2),(false,3),(false,4),(false,5),(false,6),(false,7),(false,8),(false,9),(false,10),(false,11),(false,12),(false,13),(false,14),(false,15),(false,16),(false,17),(false,18),(false,19),(false,20),(false,21),(false,22),(false,23),(false,24),(false,25),(false,26),(false,27),(false,28),(false,29),(false,30),(false,31),(false,32),(false,33),(false,34),(false,35),(false,36),(false,37),(false,38),(false,39)]
def TD:List (Bool×Nat):=[(false,0),(false,1),(false,2),(false,3),(false,4),(false,5),(true,6)]
def TE:List (Bool×Nat):=[(false,0),(false,1),(false,2),(false,3),(false,4),(false,5),(false,6),(false,7),(false,8),(false,9),(false,10),(false,11),(false,12),(false,13),(false,14),(false,15),(false,16),(false,17),(false,18),(false,19)]
def TF:List (Bool×Nat):=[(false,0),(false,1),(false,2),(false,3),(false,4),(false,5),(false,6),(false,7),(false,8),(false,9),(false,10),(false,11),(false,12),(false,13),(false,14),(false,15),(false,16),(false,17),(false,18),(false,19),(false,20),(false,21),(false,22),(false,23),(false,24),(false,25)]
def TG:List (Bool×Nat):=[(false,0),(false,1),(false,2),(false,3),(false,4),(true,5)]
def TH:List (Bool×Nat):=[(false,0),(false,1),(false,2),(false,3),(false,4),(false,5),(false,6),(true,7),(false,8)]
def TI:List (Bool×Nat):=[(false,0),(false,1),(false,2),(false,3),(true,4),(true,5),(false,6)]
def TJ:List (Bool×Nat):=[(false,0),(false,1),(false,2),(false,3),(false,4),(false,5),(false,6),(true,7),(true,8),(false,9),(false,10),(true,11)]
def TK:List (Bool×Nat):=[(false,0),(false,1),(false,2),(false,3),(false,4),(false,5),(false,6),(false,7),(false,8),(false,9),(false,10),(false,11),(false,12),(false,13),(false,14),(false,15),(false,16),(false,17),(false,18),(false,19),(false,20),(false,21),(false,22),(false,23),(false,24),(false,25),(false,26),(false,27)]
def TL:List (Bool×Nat):=[(false,0),(false,1),(false,2),(false,3),(false,4),(false,5),(false,6),(false,7),(true,8),(false,9),(true,10)]
section
variable {P:Program} {ops:Array Oper} {Q:Exit->Act->World->Prop} {S:World->Prop}
def Ie(P:Program)(ops:Array Oper)(Q:Exit->Act->World->Prop)(S:World->Prop):List (Bool × Nat)->Act->World->Prop
 |[],a,w=>Q .normal a w
 |(true,i)::r,a,w=>wpOp P ops Q i (fun a' w'=>S w'/\Ie P ops Q S r a' w') a w
 |(false,i)::r,a,w=>∃ oi v,ops[i]?=some oi/\YieldsIf P ops S oi v a/\Ie P ops Q S r (a.put oi.dst v) w
def C6(ops:Array Oper):List (Bool × Nat)->Array Bool->Bool
 |[],listed=>(Region.ready .any ops listed).isEmpty
 |(true,i)::r,listed=>decide (Region.ready .any ops listed=[i])&&C6 ops r (listed.setIfInBounds i true)
 |(false,i)::r,listed=>Region.free .any ops listed i&&(Region.ready .any ops listed).contains i&&C6 ops r (listed.setIfInBounds i true)
theorem JA(hs:Region.noSelect ops=true)(hQ:∀ c a d v w,Q (.panic c) (Act.put a d v) w->Q (.panic c) a w):∀ (l:List (Bool × Nat)) (listed:Array Bool) (a:Act) (w:World),
  C6 ops l listed=true->S w->Ie P ops Q S l a w->wpAnyH P .any ops Q S l.length listed a w
 |[],listed,a,w,hB,_,h=>⟨by simpa [C6] using hB,h⟩
 |(true,i)::r,listed,a,w,hB,_,h=>by
  simp only[C6,Bool.and_eq_true,decide_eq_true_eq] at hB;refine⟨fun h0=>(by rw[hB.1] at h0;cases h0),fun j hj=>?_⟩;rw[hB.1] at hj;obtain rfl:j=i:=by simpa using hj
  exact wpOp_mono (fun a' w' h'=>⟨h'.1,JA hs hQ r _ a' w' hB.2 h'.1 h'.2⟩) h
 |(false,i)::r,listed,a,w,hB,hS,h=>by
  simp only[C6,Bool.and_eq_true] at hB;obtain⟨oi,v,hi,hy,h'⟩:=h;exact wpAnyH_take hi hs hB.1.1 hB.1.2 (fun c a w=>hQ c a _ _ w) hy hS (JA hs hQ r _ _ w hB.2 hS h')
structure Fd (P:Program) (ops:Array Oper) (Q:Exit->Act->World->Prop) (S:World->Prop) (l:List (Bool × Nat × Oper)) (a:Act) (w:World):Prop where
 out:(∀ t,t∈l->ops[t.2.1]?=some t.2.2)->Ie P ops Q S (l.map fun t=>(t.1,t.2.1)) a w
def lexL(l:List Oper):List (Bool × Nat)->List (Bool × Nat × Oper)
 |[]=>[]
 |(b,i)::r=>match l[i]? with
  |some o=>(b,i,o)::lexL l r
  |none=>lexL l r
theorem Gr(l:List Oper):∀ (k:List (Bool × Nat)) (t),t∈lexL l k->l.toArray[t.2.1]?=some t.2.2
 |[],t,h=>by simp[lexL] at h
 |(b,i)::r,t,h=>by
  unfold lexL at h;cases hi:l[i]? with
  |none=>rw[hi] at h;exact Gr l r t h
  |some o =>
   rw[hi] at h;rcases List.mem_cons.1 h with rfl|h
   ·simpa using hi
   ·exact Gr l r t h
theorem Ii(l:List Oper):∀ (k:List (Bool × Nat)),(k.all fun t=>decide (t.2<l.length))=true->(lexL l k).map (fun t=>(t.1,t.2.1))=k
 |[],_=>rfl
 |(b,i)::r,h=>by
  simp only[List.all_cons,Bool.and_eq_true,decide_eq_true_eq] at h;unfold lexL;rw[List.getElem?_eq_getElem h.1];simp only[List.map_cons,Ii l r h.2]
theorem AG{id:Nat}{a:Act}{w:World}{l:List Oper}(S:World->Prop)(k:List (Bool × Nat))(hm:P.follows .mixedOrders=true)(hB:(Region.noSelect l.toArray&&decide (k.length=l.toArray.size)&&(k.all fun t=>decide (t.2<l.length))&&C6 l.toArray k (Array.replicate l.toArray.size false))=true)
  (hQ:∀ c a d v w,Q (.panic c) (Act.put a d v) w->Q (.panic c) a w) (hS:S w.drew) (h:Fd P l.toArray Q S (lexL l k) a w.drew):(Code.region id l.toArray true).wp P Q a w:=by
 simp only[Bool.and_eq_true,decide_eq_true_eq] at hB;have h1:=h.out (Gr l k);rw[Ii l k hB.1.2] at h1;refine wp_region_held (S:=S) hm ?_;have:=JA hB.1.1.1 hQ k _ a w.drew hB.2 hS h1;rw[hB.1.1.2] at this;exact this
theorem Aw{i:Nat}{o:Oper}{v:Value}{r:List (Bool × Nat × Oper)}{a:Act}{w:World}(hw:Region.wanted o (yielded ops a.tmps)=true)(hy:∀ w',S w'->(execOp a.eval o).run P w'=.ok (.value v) w')
  (h:Fd P ops Q S r (a.put o.dst v) w):Fd P ops Q S ((false,i,o)::r) a w:=⟨fun hall=>⟨o,v,hall _ Ti,Or.inl ⟨hw,hy⟩,h.out (fun t ht=>hall t (Tf _ ht))⟩⟩
theorem Az{i:Nat}{o:Oper}{r:List (Bool × Nat × Oper)}{a:Act}{w:World}
  (h:∀ K':Act->World->Prop,Shut (∀ a w,S w->Fd P ops Q S r a w->K' a w)->if Region.wanted o (yielded ops a.tmps)=true then Oper.wp P o a w K' Q else K' (a.put o.dst undef) w):Fd P ops Q S ((true,i,o)::r) a w :=
 ⟨fun hall=>wpOp_step (hall _ Ti) (fun K' hK=>h K' (fun a w hS hW=>hK a w ⟨hS,hW.out (fun t ht=>hall t (Tf _ ht))⟩))⟩
theorem AF{a:Act}{w:World}(h:Q .normal a w):Fd P ops Q S [] a w:=⟨fun _=>h⟩
theorem IP(a:Act)(d:Option Tmp)(v:Value):(a.put d v).defers=a.defers:=by cases d<;>rfl
theorem Co(K:Act->World->Prop)(fn:Func)(R:Ending->World->Prop)(c:_)(a:Act)(d:Option Tmp)(v:Value)(w:World)(h:Exit.then K (bodyPost P fn R) (.panic c) (Act.put a d v) w):Exit.then K (bodyPost P fn R) (.panic c) a w:=by
 have h:(Act.put a d v).defers=[]/\R (.panicked c) w:=h;rw[IP] at h;exact h
theorem DN(n:Nat)(fn:Func)(R:Ending->World->Prop)(c:_)(a:Act)(d:Option Tmp)(v:Value)(w:World)(h:Exit.inBlock n (bodyPost P fn R) (.panic c) (Act.put a d v) w):Exit.inBlock n (bodyPost P fn R) (.panic c) a w:=by
 have h:(Act.put a d v).defers=[]/\R (.panicked c) w:=h;rw[IP] at h;exact h
end
end Go.Proofs.YtkafkipjedpohaaGreatDoor

import Derived.Test.YtkafkipjedpohaaGreatDoorD1
namespace Go.Proofs.YtkafkipjedpohaaGreatDoor
set_option maxRecDepth 100000
set_option maxHeartbeats 16000000
open Go.RowKit _root_.Go.Proofs.Tryz
def Ar(l:List V):Nat->Value:=fun i=>if i % 2=0 then .int .i64 (l.getD (i / 2) As).k else .int .i64 (l.getD (i / 2) As).n
def Ml:Fr:=⟨0,0,[],[]⟩
def Am(fr:List Fr)(i:Nat):Fr:=fr.reverse.getD i Ml
theorem Bg(f:Fr)(rest:List Fr):Am (f::rest) rest.length=f:=by
 unfold Am;rw[List.reverse_cons,Tj,List.getElem?_append_right (by simp)];simp
theorem B9(f:Fr)(rest:List Fr)(i:Nat)(hi:i<rest.length):Am (f::rest) i=Am rest i:=by
 unfold Am;rw[List.reverse_cons,Tj,Tj,Tq (by simpa using hi)]
def BG(fr:List Fr)(LV SV:Nat->Value):Nat->Value:=fun i =>
 if i % 4=0 then .int .i64 (Am fr (i / 4)).fn else if i % 4=1 then .int .i64 (Am fr (i / 4)).pc else if i % 4=2 then LV (i / 4) else SV (i / 4)
def CQ(pv fv av ov hv:Value)(s:Mc):Array Value :=
 #[pv,fv,av,ov,.int .i64 s.gives.k,.int .i64 s.gives.n,.int .i64 s.steps,.int .i64 s.fin,hv,.bool (s.made 0),.bool (s.made 1),.bool (s.made 2),.bool (s.made 3),.bool (s.made 4),.bool (s.made 5),.bool (s.made 6),.bool (s.made 7),.int .i64 s.cH,.int .i64 s.cU,.int .i64 s.cD]
structure Ag (w:World) (B rb:Nat) (tag:Nat->Nat) (pv fv av ov hv:Value) (LV SV AV:Nat->Value) (s:Mc):Prop where
 run:w.heap[rb]?=some (.cells (CQ pv fv av ov hv s) 155 (0,0))
 own:B<=rb/\tag rb=0
 fr:Ae w B tag 1 73 4 fv s.fr.length (BG s.fr LV SV)
 ar:Ae w B tag 2 44 1 av s.arr.length AV
 out:Ae w B tag 3 43 2 ov s.out.length (Ar s.out)
 hi:Ae w B tag 4 4 1 hv s.high.length (fun i=>.bool (s.high.reverse.getD i false))
 loc:∀ i,i<s.fr.length->Ae w B tag (10+3 * i) 43 2 (LV i) (Am s.fr i).loc.length (Ar (Am s.fr i).loc)
 stk:∀ i,i<s.fr.length->Ae w B tag (11+3 * i) 43 2 (SV i) (Am s.fr i).stk.length (Ar (Am s.fr i).stk.reverse)
 arr:∀ j,j<s.arr.length->Ae w B tag (12+3 * j) 43 2 (AV j) (s.arr.getD j []).length (Ar (s.arr.getD j []))
section
variable {w:World}{B rb:Nat}{tag:Nat->Nat}{pv fv av ov hv:Value}{LV SV AV:Nat->Value}{s:Mc}
theorem Ag.cell(h:Ag w B rb tag pv fv av ov hv LV SV AV s)(i:Nat):w.cell? ⟨rb,i,none⟩=(CQ pv fv av ov hv s)[i]?:=by
 unfold World.cell?;rw[h.run];rfl
theorem Ag.frozen(h:Ag w B rb tag pv fv av ov hv LV SV AV s)(i:Nat):w.frozen? ⟨rb,i,none⟩=false:=by
 unfold World.frozen?;rw[h.run];simp
theorem Ag.lt(h:Ag w B rb tag pv fv av ov hv LV SV AV s):rb<w.heap.size:=(Array.getElem?_eq_some_iff.1 h.run).1
theorem Ag.runKeep{w':World}{tag':Nat->Nat}{p:Nat->Prop}(h:Ag w B rb tag pv fv av ov hv LV SV AV s)(k:Ch B p tag tag' w w')(hp:¬p 0) :
  w'.heap[rb]?=some (.cells (CQ pv fv av ov hv s) 155 (0,0))/\B<=rb/\tag' rb=0 :=
 ⟨(k.block rb h.lt (Or.inr (by rw[h.own.2];exact hp))).trans h.run,h.own.1,(k.tags rb h.lt).trans h.own.2⟩
theorem Ag.stack{w':World}{tag':Nat->Nat}{f:Fr}{rest:List Fr}(h:Ag w B rb tag pv fv av ov hv LV SV AV s)(hs:s.fr=f::rest){st:List V}{sv:Value}
  (k:Ch B (fun c=>c=1\/c=11+3 * rest.length) tag tag' w w') (hf:Ae w' B tag' 1 73 4 fv (rest.length+1) (BG s.fr LV (Ac SV rest.length sv)))
  (hst:Ae w' B tag' (11+3 * rest.length) 43 2 sv st.length (Ar st.reverse)) :
  Ag w' B rb tag' pv fv av ov hv LV (Ac SV rest.length sv) AV {s with fr:={f with stk:=st}::rest}:=by
 have hlen:s.fr.length=rest.length+1:=by rw[hs];rfl
 have hfa:∀ i,i<rest.length+1->(Am ({f with stk:=st}::rest) i).fn=(Am s.fr i).fn/\(Am ({f with stk:=st}::rest) i).pc=(Am s.fr i).pc/\(Am ({f with stk:=st}::rest) i).loc=(Am s.fr i).loc:=by
  intro i hi;rw[hs];by_cases e:i=rest.length
  ·subst e;rw[Bg,Bg];exact⟨rfl,rfl,rfl⟩
  ·rw[B9 _ _ _ (by omega),B9 _ _ _ (by omega)];exact⟨rfl,rfl,rfl⟩
 obtain⟨r1,r2,r3⟩:=h.runKeep k (by omega);refine⟨r1,⟨r2,r3⟩,?_,h.ar.keep k (by omega),h.out.keep k (by omega),h.hi.keep k (by omega),fun i hi=>?_,fun i hi=>?_,fun j hj=>(h.arr j hj).keep k (by omega)⟩
 ·refine hf.congr fun i hi=>?_
  obtain⟨a1,a2,_⟩:=hfa (i / 4) (by omega);show BG s.fr LV _ i=BG ({f with stk:=st}::rest) LV _ i;unfold BG;rw[a1,a2]
 ·have hi':i<rest.length+1:=hi;obtain⟨_,_,a3⟩:=hfa i hi';show Ae w' B tag' _ _ 2 (LV i) (Am ({f with stk:=st}::rest) i).loc.length (Ar (Am ({f with stk:=st}::rest) i).loc);rw[a3];exact(h.loc i (by omega)).keep k (by omega)
 ·have hi':i<rest.length+1:=hi;show Ae w' B tag' _ _ 2 (Ac SV rest.length sv i) (Am ({f with stk:=st}::rest) i).stk.length (Ar (Am ({f with stk:=st}::rest) i).stk.reverse);by_cases e:i=rest.length
  ·subst e;rw[Bg,Au];exact hst
  ·rw[Ao _ _ _ _ e,B9 _ _ _ (by omega)];have:=h.stk i (by omega);rw[hs,B9 _ _ _ (by omega)] at this;exact this.keep k (by omega)
theorem Gd(fr:List Fr)(LV SV:Nat->Value)(k:Nat):BG fr LV SV (k * 4+3)=SV k:=by
 unfold BG;rw[if_neg (by omega),if_neg (by omega),if_neg (by omega),show (k * 4+3) / 4=k by omega]
theorem Gb(fr:List Fr)(LV SV:Nat->Value)(k:Nat):BG fr LV SV (k * 4+2)=LV k:=by
 unfold BG;rw[if_neg (by omega),if_neg (by omega),if_pos (by omega),show (k * 4+2) / 4=k by omega]
theorem E6(fr:List Fr)(LV SV:Nat->Value)(k:Nat):BG fr LV SV (k * 4+1)=.int .i64 (Am fr k).pc:=by
 unfold BG;rw[if_neg (by omega),if_pos (by omega),show (k * 4+1) / 4=k by omega]
theorem Iu(fr:List Fr)(LV SV:Nat->Value)(k:Nat):BG fr LV SV (k * 4)=.int .i64 (Am fr k).fn:=by
 unfold BG;rw[if_pos (by omega),show (k * 4) / 4=k by omega]
theorem MC(fr:List Fr)(LV SV:Nat->Value)(k:Nat)(v:Value)(i:Nat):Ac (BG fr LV SV) (k * 4+3) v i=BG fr LV (Ac SV k v) i:=by
 by_cases e:i=k * 4+3
 ·subst e;rw[Au,Gd,Au]
 ·rw[Ao _ _ _ _ e];unfold BG Ac;by_cases e2:i / 4=k
  ·by_cases e3:i % 4=3
   ·omega
   ·have h4:i % 4=0\/i % 4=1\/i % 4=2:=by omega
    rcases h4 with h4|h4|h4<;>simp[h4]
  ·rw[if_neg e2]
theorem Hg(l:List V)(v:V)(i:Nat)(hi:i<(l.length+1) * 2):(if i<l.length * 2 then Ar l i else [Value.int .i64 v.k,Value.int .i64 v.n].getD (i-l.length * 2) (.bool false))=Ar (l++[v]) i:=by
 unfold Ar;by_cases h:i<l.length * 2
 ·rw[if_pos h];rw[Tj,Tj,Tq (by omega)]
 ·rw[if_neg h];have:i=l.length * 2\/i=l.length * 2+1:=by omega
  rcases this with rfl|rfl
  ·rw[if_pos (by omega),show l.length * 2 / 2=l.length by omega];simp
  ·rw[if_neg (by omega),show (l.length * 2+1) / 2=l.length by omega];simp
theorem Tryz.info43:(prog.info? 43).map (fun i=>(i.zero,i.size,i.bytes))=some (some (.agg #[.int .i64 0,.int .i64 0]),2,16):=by kernel_rfl
theorem DU{W w1:World}{o:Obj}{row:Option Nat}(hg:(W.drew.alloc o).grownBy w1 row){a:Addr}(ha:a.block<W.heap.size)(hne:some a.block≠row):w1.cell? a=W.cell? a:=by
 have h1:w1.heap[a.block]?=(W.drew.alloc o).heap[a.block]?:=hg.block a.block (by show a.block<(W.heap.push o).size;simp;omega) hne;have h2:(W.drew.alloc o).heap[a.block]?=W.heap[a.block]?:=Ty W.drew o a.block ha;exact Tw (h1.trans h2)
theorem G3{W w1:World}{o:Obj}{row:Option Nat}(hg:(W.drew.alloc o).grownBy w1 row){a:Addr}(ha:a.block<W.heap.size)(hne:some a.block≠row):w1.frozen? a=W.frozen? a:=by
 have h1:w1.heap[a.block]?=(W.drew.alloc o).heap[a.block]?:=hg.block a.block (by show a.block<(W.heap.push o).size;simp;omega) hne;have h2:(W.drew.alloc o).heap[a.block]?=W.heap[a.block]?:=Ty W.drew o a.block ha;exact World.frozen?_of_block (h1.trans h2)
theorem Ae.other{c:Nat}{e:TypeId}{sz:Nat}{v:Value}{n:Nat}{f:Nat->Value}(h:Ae w B tag c e sz v n f){b:Nat}(hb:tag b≠c):some b≠v.ownBlock:=by
 rcases h with⟨h,_⟩|⟨b',cap',cur,hv,hb',ht,_⟩
 ·rw[h];simp[Value.ownBlock]
 ·rw[hv];intro e2;have:b=b':=by simpa [Value.ownBlock] using e2
  rw[this] at hb;exact hb ht
theorem Ae.otherNew{c:Nat}{e:TypeId}{sz:Nat}{v:Value}{n:Nat}{f:Nat->Value}(h:Ae w B tag c e sz v n f){b:Nat}(hb:w.heap.size<=b):some b≠v.ownBlock:=by
 rcases h with⟨h,_⟩|⟨b',cap',cur,hv,hb',ht,hh,_⟩
 ·rw[h];simp[Value.ownBlock]
 ·rw[hv];intro e2;have:b=b':=by simpa [Value.ownBlock] using e2
  have:=(Array.getElem?_eq_some_iff.1 hh).1;omega
theorem Nz(w:World)(B rb:Nat)(tag:Nat->Nat)(pv fv av ov hv:Value)(LV SV AV:Nat->Value)(s:Mc)(f:Fr)(rest:List Fr)(v:V)(hL:Ag w B rb tag pv fv av ov hv LV SV AV s)(hs:s.fr=f::rest)(hB:B<=w.heap.size)(hn:f.stk.length<=64)(hr:rest.length<=64) :
  Calls prog 111 #[.pointer (some ⟨rb,0,none⟩),.agg #[.int .i64 v.k,.int .i64 v.n]] w fun e w'=>e=.returned (.tuple #[]) /\
   ∃ tag' sv,Ag w' B rb tag' pv fv av ov hv LV (Ac SV rest.length sv) AV {s with fr:={f with stk:=v::f.stk}::rest}/\Ch B (fun c=>c=1\/c=11+3 * rest.length) tag tag' w w':=by
 have hfl:s.fr.length=rest.length+1:=by rw[hs];rfl
 have hfr:=hL.fr;rw[hfl] at hfr;obtain⟨fb,fcap,rfl,hfb,hfz,hft,hfc⟩:=hfr.form (by omega);have r1:w.cell? ⟨rb,1,none⟩=some (.slice (some ⟨fb,0,none⟩) (rest.length+1) fcap):=hL.cell 1;have c3:=hfr.cell (i:=rest.length * 4+3) (by omega);rw[Gd] at c3;have z3:=hfr.frozen (rest.length * 4+3);have hrb:=hL.lt;have HL:=Aa (Tc hL hfr);clear hL hfr;generalize hk:rest.length=k at *;have Hk:=Aa hk;clear hk;go_enter func111,ntmps111
 go_wp2;go_quiet (fail)
 go_wp2;obtain⟨inf,hi,hz0,hz1,hz2⟩:∃ i,prog.info? 43=some i/\i.zero=some (.agg #[.int .i64 0,.int .i64 0])/\i.size=2/\i.bytes=16:=by
  obtain⟨i,hi,hzz⟩:=Tp.1 Tryz.info43;simp only[Prod.mk.injEq] at hzz;exact⟨i,hi,hzz.1,hzz.2.1,hzz.2.2⟩
 have hch:Ch B (fun c=>c=1\/c=11+3 * k) tag tag w ((w.alloc (.cells #[.int .i64 v.k,.int .i64 v.n] 43)).drewN nq):=Ch.of_below (below_drewN ((Tu _ _).alloc (Te _) _) _);have hrow:Ae ((w.alloc (.cells #[.int .i64 v.k,.int .i64 v.n] 43)).drewN nq) B tag (11+3 * k) 43 2 (SV k) f.stk.length (Ar f.stk.reverse):=by
  have h:=HL.out.1.stk k (by omega);have e:Am s.fr k=f:=by rw[hs,<-Hk.out];exact Bg _ _
  rw[e] at h;exact h.keep (Ch.of_below (p:=fun _=>False) (below_drewN ((Tu _ _).alloc (Te _) _) _)) (fun h=>h)
 have b0:((w.alloc (.cells #[.int .i64 v.k,.int .i64 v.n] 43)).drewN nq).cell? ⟨w.heap.size,0,none⟩=some (.int .i64 v.k):=BP w _ _ _ _ rfl;have b1:((w.alloc (.cells #[.int .i64 v.k,.int .i64 v.n] 43)).drewN nq).cell? ⟨w.heap.size,1,none⟩=some (.int .i64 v.n):=BP w _ _ _ _ rfl;have d3:((w.alloc (.cells #[.int .i64 v.k,.int .i64 v.n] 43)).drewN nq).cell? ⟨fb,k * 4+3,none⟩=some (SV k):=(Below.cell (below_drewN ((Tu w.heap.size w).alloc (Te _) _) _) (p:=⟨fb,_,none⟩) hfz).trans c3;have y3:((w.alloc (.cells #[.int .i64 v.k,.int .i64 v.n] 43)).drewN nq).frozen? ⟨fb,k * 4+3,none⟩=false:=(Below.frozen (below_drewN ((Tu w.heap.size w).alloc (Te _) _) _) (p:=⟨fb,_,none⟩) hfz).trans z3;have Av:((w.alloc (.cells #[.int .i64 v.k,.int .i64 v.n] 43)).drewN nq).heap.size=w.heap.size+1:=by simp
 have hfrW:Ae ((w.alloc (.cells #[.int .i64 v.k,.int .i64 v.n] 43)).drewN nq) B tag 1 73 4 (.slice (some ⟨fb,0,none⟩) (k+1) fcap) (k+1) (BG s.fr LV SV) :=
  HL.out.2.keep (Ch.of_below (p:=fun _=>False) (below_drewN ((Tu _ _).alloc (Te _) _) _)) (fun h=>h)
 have HC:=Aa (Tc hch (Tc hrow hfrW));have HZ:=Aa Av;have HY:=Aa y3;have hne1:some fb≠(SV k).ownBlock:=hrow.other (by rw[hft];omega);have hne2:some w.heap.size≠(SV k).ownBlock:=by
  have h:=HL.out.1.stk k (by omega);exact h.otherNew (Te _)
 clear hch hrow hfrW Av y3 c3 z3 r1;generalize (w.alloc (.cells #[.int .i64 v.k,.int .i64 v.n] 43)).drewN nq=W at *;have hbs:w.heap.size<W.heap.size:=by have:=HZ.out;omega
 have hfs:fb<W.heap.size:=by omega
 go_region_law
  ((refine step_append_lies _ (by rfl) _ _ _ (by rfl) B 43 inf _ 2 16 underlying44 hi hz0 hz1 hz2 rfl (by decide) (SV k) f.stk.length _ (by rfl) (by exact(HC.out.2.1.owns.drew).alloc _) ⟨W.heap.size,0,none⟩ 1 1 [.int .i64 v.k,.int .i64 v.n] (by rfl) (by rfl) (by exact World.news_of_block (Tv W.drew _)) (by intro u hu;simp at hu;rcases hu with rfl|rfl<;>rfl) (by omega) (by unfold maxLen;omega) (by omega) (by simp;omega) (W.heap.size+1) (by simp) ?_;intro g cap w1 hown1 hgrow hat hlt;have q0:=(DU hgrow (a:=⟨fb,k * 4+3,none⟩) hfs hne1).trans d3;have q1:=(DU hgrow (a:=⟨w.heap.size,0,none⟩) hbs hne2).trans b0;have q2:=(DU hgrow (a:=⟨w.heap.size,1,none⟩) hbs hne2).trans b1;have q3:=(G3 hgrow (a:=⟨fb,k * 4+3,none⟩) hfs hne1).trans HY.out))
 all_goals
  have hXb:Below W.heap.size W (W.alloc (.cells #[.int .i64 v.k,.int .i64 v.n] 43)).drew:=((Tu _ _).alloc (Te _) _).drew;have hX:Ch B (fun _=>False) tag tag W (W.alloc (.cells #[.int .i64 v.k,.int .i64 v.n] 43)).drew:=Ch.of_below hXb;obtain⟨tag',hst,hgc⟩:=(HC.out.2.1.keep hX (fun h=>h)).grew hown1 hgrow (by rcases hat with h|h;exact Or.inl h;right;rw[h];simp) rfl;have hlx:fb<(W.alloc (.cells #[.int .i64 v.k,.int .i64 v.n] 43)).drew.heap.size:=by simp;omega
  have hf1:=(HC.out.2.2.keep hX (fun h=>h)).keep hgc (by omega);have hf2:=(hf1.set (k * 4+3) (.slice (some ⟨g,0,none⟩) (f.stk.length+1) cap)).congr (fun i _=>MC _ _ _ _ _ i);have htf:tag' fb=1:=(hgc.tags fb hlx).trans hft;have hcs:Ch B (fun c=>c=1) tag' tag' w1 (w1.setCell ⟨fb,k * 4+3,none⟩ (.slice (some ⟨g,0,none⟩) (f.stk.length+1) cap)):=Ch.set w1 fb _ _ hfb htf;have hst2:=(hst.keep hcs (by omega)).congr (g:=Ar (v::f.stk).reverse) (fun i hi=>by
   rw[List.reverse_cons,<-Hg _ _ _ (by simpa using hi)];simp)
  have hall:Ch B (fun c=>c=1\/c=11+3 * k) tag tag' w (w1.setCell ⟨fb,k * 4+3,none⟩ (.slice (some ⟨g,0,none⟩) (f.stk.length+1) cap)) :=
   ((HC.out.1.trans (hX.mono (fun _ h=>h.elim))).trans (hgc.mono (fun _ h=>Or.inr h))).trans (hcs.mono (fun _ h=>Or.inl h))
  have hfin:Ag (w1.setCell ⟨fb,k * 4+3,none⟩ (.slice (some ⟨g,0,none⟩) (f.stk.length+1) cap)) B rb tag' pv (.slice (some ⟨fb,0,none⟩) (k+1) fcap) av ov hv LV (Ac SV k (.slice (some ⟨g,0,none⟩) (f.stk.length+1) cap)) AV {s with fr:={f with stk:=v::f.stk}::rest}:=by
   have h:=HL.out.1.stack (st:=v::f.stk) (sv:=.slice (some ⟨g,0,none⟩) (f.stk.length+1) cap) hs (by rw[Hk.out];exact hall) (by rw[Hk.out];exact hf2) (by rw[Hk.out];exact hst2);rw[Hk.out] at h;exact h
  have HQ:=Aa (Tc hfin hall);clear hfin hall hst2 hcs hf2 hf1 hst hgc hX hXb hown1 hgrow q0 q1 q2 q3;go_end0;exact⟨rfl,tag',_,HQ.out⟩
end
theorem IA(l:List V)(v:V):Ar (l++[v]) (l.length * 2)=.int .i64 v.k/\Ar (l++[v]) (l.length * 2+1)=.int .i64 v.n:=by
 unfold Ar;rw[if_pos (by omega),if_neg (by omega),show l.length * 2 / 2=l.length by omega,show (l.length * 2+1) / 2=l.length by omega];simp
theorem KN(l:List V)(v:V)(i:Nat)(hi:i<l.length * 2):Ar (l++[v]) i=Ar l i:=by
 unfold Ar;rw[Tj,Tj,Tq (by omega)]
section
variable {B:Nat}{w u:World}{p:Nat->Prop}{t1 t2:Nat->Nat}
theorem Ch.setNew(h:Ch B p t1 t2 u w){a:Addr}(ha:u.heap.size<=a.block)(v:Value):Ch B p t1 t2 u (w.setCell a v) :=
 ⟨h.os,h.tape,h.output,by have:=h.size;simp[World.setCell];omega,fun b hb hl=>by rw[Tx _ _ _ _ (by omega)];exact h.block b hb hl,h.tags⟩
theorem Ch.alloc(h:Ch B p t1 t2 u w)(o:Obj):Ch B p t1 t2 u (w.alloc o) :=
 ⟨h.os,h.tape,h.output,by have:=h.size;simp;omega,fun b hb hl=>by rw[Ty _ _ _ (by have:=h.size;omega)];exact h.block b hb hl,h.tags⟩
theorem Ch.drewN(h:Ch B p t1 t2 u w)(n:Nat):Ch B p t1 t2 u (w.drewN n):=⟨h.os,h.tape,h.output,h.size,h.block,h.tags⟩
theorem Ch.drew(h:Ch B p t1 t2 u w):Ch B p t1 t2 u w.drew:=⟨h.os,h.tape,h.output,h.size,h.block,h.tags⟩
theorem Ch.setOld(h:Ch B p t1 t2 u w){a:Addr}(hB:B<=a.block)(hp:a.block<u.heap.size->p (t1 a.block))(v:Value):Ch B p t1 t2 u (w.setCell a v) :=
 ⟨h.os,h.tape,h.output,by have:=h.size;simp[World.setCell];omega,fun b hb hl=>by
  rw[Tx _ _ _ _ (by
   intro e;rw[e] at hb hl;rcases hl with hl|hl
   ·omega
   ·exact hl (hp hb))]
  exact h.block b hb hl,h.tags⟩
theorem Ch.trans'{v:World}(h:Ch B p t1 t2 u v)(k:Below v.heap.size v w):Ch B p t1 t2 u w :=
 ⟨k.os.trans h.os,k.tape.trans h.tape,k.output.trans h.output,Nat.le_trans h.size k.size,fun b hb hl=>(k.block b (Ts hb h.size)).trans (h.block b hb hl),h.tags⟩
theorem Ae.keepBlock{w':World}{tag:Nat->Nat}{c:Nat}{e:TypeId}{sz b n cap:Nat}{f:Nat->Value}(h:Ae w B tag c e sz (.slice (some ⟨b,0,none⟩) n cap) n f)(hb:w'.heap[b]?=w.heap[b]?):Ae w' B tag c e sz (.slice (some ⟨b,0,none⟩) n cap) n f:=by
 rcases h with⟨h,_⟩|⟨b',cap',cur,hv,hb',ht,hh,hc⟩
 ·cases h
 ·injection hv with e1 e2 e3;injection e1 with e1;injection e1 with e1 e4;subst e1;subst e3;exact Or.inr ⟨b,cap,cur,rfl,hb',ht,hb.trans hh,hc⟩
theorem O5(w:World)(B rb:Nat)(tag:Nat->Nat)(pv fv av ov hv:Value)(LV SV AV:Nat->Value)(s:Mc)(f:Fr)(rest:List Fr)(v:V)(st:List V)(hL:Ag w B rb tag pv fv av ov hv LV SV AV s)(hs:s.fr=f::rest)(hst:f.stk=v::st)(_hB:B<=w.heap.size)(hn:st.length<=64)(hr:rest.length<=64) :
  Calls prog 98 #[.pointer (some ⟨rb,0,none⟩)] w fun e w'=>e=.returned (.agg #[.int .i64 v.k,.int .i64 v.n]) /\
   ∃ tag' sv,Ag w' B rb tag' pv fv av ov hv LV (Ac SV rest.length sv) AV {s with fr:={f with stk:=st}::rest}/\Ch B (fun c=>c=1\/c=11+3 * rest.length) tag tag' w w':=by
 have hfl:s.fr.length=rest.length+1:=by rw[hs];rfl
 have hfr:=hL.fr;rw[hfl] at hfr;obtain⟨fb,fcap,rfl,hfb,hfz,hft,hfc⟩:=hfr.form (by omega);have r1:w.cell? ⟨rb,1,none⟩=some (.slice (some ⟨fb,0,none⟩) (rest.length+1) fcap):=hL.cell 1;have c3:=hfr.cell (i:=rest.length * 4+3) (by omega);rw[Gd] at c3;have z3:=hfr.frozen (rest.length * 4+3);have hrow:=hL.stk rest.length (by omega);have e0:Am s.fr rest.length=f:=by rw[hs];exact Bg _ _
 rw[e0,hst,Tn,List.reverse_cons] at hrow;obtain⟨sb,scap,hsv,hsb,Av,hstg,hsc⟩:=hrow.form (by omega);rw[hsv] at hrow c3;have hlr:st.reverse.length=st.length:=by simp
 have x0:=hrow.cell (i:=st.length * 2) (by omega);have x1:=hrow.cell (i:=st.length * 2+1) (by omega);have ht:=IA st.reverse v;rw[hlr] at ht;rw[ht.1] at x0;rw[ht.2] at x1;have hrb:=hL.lt;have hne:¬sb=fb:=by intro e;rw[e,hft] at hstg;omega
 have HL:=Aa (Tc hL (Tc hfr hrow));have HV:=Aa hsv;clear hL hfr hrow ht hlr e0 hsv;generalize hk:rest.length=k at *;have Hk:=Aa hk;clear hk;generalize hnn:st.length=n at *;have Hn:=Aa hnn;clear hnn;go_enter func98,ntmps98
 go_wp2;go_quiet (fail)
 go_wp2;refine bodyPost_ret (v:=.agg #[.int .i64 v.k,.int .i64 v.n]) (by simp[results,Tryz.results98,go_sem]) rfl ⟨rfl,tag,.slice (some ⟨sb,0,none⟩) n scap,?_⟩;have h0:Ch B (fun c=>c=1) tag tag w ((w.alloc (.cells #[.int .i64 0,.int .i64 0] 43)).drewN nq):=((Ch.refl B _ tag w).alloc _).drewN _;have h1:Ch B (fun c=>c=1) tag tag w ((((((w.alloc (.cells #[.int .i64 0,.int .i64 0] 43)).drewN nq).setCell ⟨fb,k * 4+3,none⟩ (.slice (some ⟨sb,0,none⟩) n scap)).setCell ⟨w.heap.size,0,none⟩ (.int .i64 v.k)).setCell ⟨w.heap.size,1,none⟩ (.int .i64 v.n)).alloc (.cells #[.int .i64 v.k,.int .i64 v.n] 43)) :=
  (((h0.setOld hfb (fun _=>hft) _).setNew (Te _) _).setNew (Te _) _).alloc _
 refine⟨?_,h1.mono (fun _ h=>Or.inl h)⟩;have hf0:=HL.out.2.1.keepBlock (w':=(w.alloc (.cells #[.int .i64 0,.int .i64 0] 43)).drewN nq) (Ty w _ fb hfz);have hf1:=(hf0.set (k * 4+3) (.slice (some ⟨sb,0,none⟩) n scap)).congr (fun i _=>MC _ _ _ _ _ i);have hf2:=hf1.keepBlock (w':=(((((w.alloc (.cells #[.int .i64 0,.int .i64 0] 43)).drewN nq).setCell ⟨fb,k * 4+3,none⟩ (.slice (some ⟨sb,0,none⟩) n scap)).setCell ⟨w.heap.size,0,none⟩ (.int .i64 v.k)).setCell ⟨w.heap.size,1,none⟩ (.int .i64 v.n)).alloc (.cells #[.int .i64 v.k,.int .i64 v.n] 43)) (by
  rw[Ty _ _ _ (by simp[World.setCell];omega),Tx _ _ _ _ (by dsimp only;omega),Tx _ _ _ _ (by dsimp only;omega)])
 have hs2:=(HL.out.2.2.take n (by omega)).keep h1 (by omega);have hs3:=hs2.congr (g:=Ar st.reverse) (fun i hi=>KN _ _ _ (by rw[List.length_reverse,Hn.out];exact hi));have hfin:=HL.out.1.stack (st:=st) (sv:=.slice (some ⟨sb,0,none⟩) n scap) hs (by rw[Hk.out];exact h1.mono (fun _ h=>Or.inl h)) (by rw[Hk.out];exact hf2) (by rw[Hk.out,Hn.out];exact hs3);rw[Hk.out] at hfin;exact hfin
end
theorem Do(n:Int)(w:World):Calls prog 112 #[.int .i64 n] w fun e w'=>e=.returned (.agg #[.int .i64 1,.int .i64 n])/\w'=w.alloc (.cells #[.int .i64 1,.int .i64 n] 43):=by
 go_enter func112,ntmps112
 go_wp2;exact bodyPost_ret (v:=.agg #[.int .i64 1,.int .i64 n]) (by simp[results,Tryz.results112,go_sem]) rfl ⟨rfl,rfl⟩
theorem DQ(n:Int):wrap64 n=Dn n:=by unfold wrap64 Dn;rfl
def ET(x:V × Int):Value:=.tuple #[.agg #[.int .i64 x.1.k,.int .i64 x.1.n],.int .i64 x.2]
theorem LS(a b:V)(w:World):Calls prog 114 #[.int .i64 9,.agg #[.int .i64 a.k,.int .i64 a.n],.agg #[.int .i64 b.k,.int .i64 b.n]] w fun e w'=>e=.returned (ET (AE 9 a b))/\Below w.heap.size w w':=by
 by_cases h1:a.k=b.k
 ·have e1:(a.k==b.k)=true:=by simpa using h1
  by_cases h2:a.n=b.n
  ·have e2:(a.n==b.n)=true:=by simpa using h2
   have HT:Hid (AE 9 a b=(Bn 1,0)):=by simp[Hid,AE,h1,h2]
   clear h1 h2;go_enter func114,ntmps114
   go_wp2_with (go_at_call 112;refine(Do _ _).mono ?_;rintro e w' ⟨rfl,rfl⟩)
   refine bodyPost_ret (v:=.tuple #[.agg #[.int .i64 1,.int .i64 (1)],.int .i64 0]) (by simp[results,Tryz.results114,go_sem]) rfl ⟨?_,by repeat (first|exact Tu _ _|refine Below.alloc ?_ (by first|omega|(simp;done)|(simp;omega)) _)⟩;rw[HT.out];rfl
  ·have e2:(a.n==b.n)=false:=by simpa using h2
   have HT:Hid (AE 9 a b=(Bn 0,0)):=by simp[Hid,AE,h2]
   clear h1 h2;go_enter func114,ntmps114
   go_wp2_with (go_at_call 112;refine(Do _ _).mono ?_;rintro e w' ⟨rfl,rfl⟩)
   refine bodyPost_ret (v:=.tuple #[.agg #[.int .i64 1,.int .i64 (0)],.int .i64 0]) (by simp[results,Tryz.results114,go_sem]) rfl ⟨?_,by repeat (first|exact Tu _ _|refine Below.alloc ?_ (by first|omega|(simp;done)|(simp;omega)) _)⟩;rw[HT.out];rfl
 ·have e1:(a.k==b.k)=false:=by simpa using h1
  have HT:Hid (AE 9 a b=(Bn 0,0)):=by simp[Hid,AE,h1]
  clear h1;go_enter func114,ntmps114
  go_wp2_with (go_at_call 112;refine(Do _ _).mono ?_;rintro e w' ⟨rfl,rfl⟩)
  refine bodyPost_ret (v:=.tuple #[.agg #[.int .i64 1,.int .i64 (0)],.int .i64 0]) (by simp[results,Tryz.results114,go_sem]) rfl ⟨?_,by repeat (first|exact Tu _ _|refine Below.alloc ?_ (by first|omega|(simp;done)|(simp;omega)) _)⟩;rw[HT.out];rfl
theorem Pn(op:Int)(a b:V)(w:World)(ho:op≠9)(hk:a.k≠1\/b.k≠1):Calls prog 114 #[.int .i64 op,.agg #[.int .i64 a.k,.int .i64 a.n],.agg #[.int .i64 b.k,.int .i64 b.n]] w fun e w'=>e=.returned (ET (AE op a b))/\Below w.heap.size w w':=by
 have e9:(op==9)=false:=by simpa using ho
 have HT:Hid (AE op a b=(As,3)):=by unfold Hid AE;rw[if_neg ho,if_pos hk]
 by_cases h1:a.k=1
 ·have e1:(a.k != 1)=false:=by simpa using h1
  have h2:b.k≠1:=by omega
  have e2:(b.k != 1)=true:=by simpa using h2
  clear ho hk h1 h2;go_enter func114,ntmps114
  go_wp2_with (go_at_call 112;refine(Do _ _).mono ?_;rintro e w' ⟨rfl,rfl⟩)
  refine bodyPost_ret (v:=.tuple #[.agg #[.int .i64 0,.int .i64 (0)],.int .i64 3]) (by simp[results,Tryz.results114,go_sem]) rfl ⟨?_,by repeat (first|exact Tu _ _|refine Below.alloc ?_ (by first|omega|(simp;done)|(simp;omega)) _)⟩;rw[HT.out];rfl
 ·have e1:(a.k != 1)=true:=by simpa using h1
  clear ho hk h1;go_enter func114,ntmps114
  go_wp2_with (go_at_call 112;refine(Do _ _).mono ?_;rintro e w' ⟨rfl,rfl⟩)
  refine bodyPost_ret (v:=.tuple #[.agg #[.int .i64 0,.int .i64 (0)],.int .i64 3]) (by simp[results,Tryz.results114,go_sem]) rfl ⟨?_,by repeat (first|exact Tu _ _|refine Below.alloc ?_ (by first|omega|(simp;done)|(simp;omega)) _)⟩;rw[HT.out];rfl
theorem Ns(a b:V)(w:World)(ha:a.k=1)(hb:b.k=1):Calls prog 114 #[.int .i64 4,.agg #[.int .i64 a.k,.int .i64 a.n],.agg #[.int .i64 b.k,.int .i64 b.n]] w fun e w'=>e=.returned (ET (AE 4 a b))/\Below w.heap.size w w':=by
 have e1:(a.k != 1)=false:=by simpa using ha
 have e2:(b.k != 1)=false:=by simpa using hb
 have HT:Hid (AE 4 a b=(Bn (Dn (a.n+b.n)),0)):=by simp[Hid,AE,ha,hb]
 clear ha hb;go_enter func114,ntmps114
 go_wp2_with (go_at_call 112;refine(Do _ _).mono ?_;rintro e w' ⟨rfl,rfl⟩)
 refine bodyPost_ret (v:=.tuple #[.agg #[.int .i64 1,.int .i64 (wrap64 (a.n+b.n))],.int .i64 0]) (by simp[results,Tryz.results114,go_sem]) rfl ⟨?_,by repeat (first|exact Tu _ _|refine Below.alloc ?_ (by first|omega|(simp;done)|(simp;omega)) _)⟩;rw[HT.out];first|rfl|(simp only[DQ];rfl)
theorem Re(a b:V)(w:World)(ha:a.k=1)(hb:b.k=1):Calls prog 114 #[.int .i64 5,.agg #[.int .i64 a.k,.int .i64 a.n],.agg #[.int .i64 b.k,.int .i64 b.n]] w fun e w'=>e=.returned (ET (AE 5 a b))/\Below w.heap.size w w':=by
 have e1:(a.k != 1)=false:=by simpa using ha
 have e2:(b.k != 1)=false:=by simpa using hb
 have HT:Hid (AE 5 a b=(Bn (Dn (a.n-b.n)),0)):=by simp[Hid,AE,ha,hb]
 clear ha hb;go_enter func114,ntmps114
 go_wp2_with (go_at_call 112;refine(Do _ _).mono ?_;rintro e w' ⟨rfl,rfl⟩)
 refine bodyPost_ret (v:=.tuple #[.agg #[.int .i64 1,.int .i64 (wrap64 (a.n-b.n))],.int .i64 0]) (by simp[results,Tryz.results114,go_sem]) rfl ⟨?_,by repeat (first|exact Tu _ _|refine Below.alloc ?_ (by first|omega|(simp;done)|(simp;omega)) _)⟩;rw[HT.out];first|rfl|(simp only[DQ];rfl)
theorem Oz(a b:V)(w:World)(ha:a.k=1)(hb:b.k=1):Calls prog 114 #[.int .i64 6,.agg #[.int .i64 a.k,.int .i64 a.n],.agg #[.int .i64 b.k,.int .i64 b.n]] w fun e w'=>e=.returned (ET (AE 6 a b))/\Below w.heap.size w w':=by
 have e1:(a.k != 1)=false:=by simpa using ha
 have e2:(b.k != 1)=false:=by simpa using hb
 have HT:Hid (AE 6 a b=(Bn (Dn (a.n * b.n)),0)):=by simp[Hid,AE,ha,hb]
 clear ha hb;go_enter func114,ntmps114
 go_wp2_with (go_at_call 112;refine(Do _ _).mono ?_;rintro e w' ⟨rfl,rfl⟩)
 refine bodyPost_ret (v:=.tuple #[.agg #[.int .i64 1,.int .i64 (wrap64 (a.n * b.n))],.int .i64 0]) (by simp[results,Tryz.results114,go_sem]) rfl ⟨?_,by repeat (first|exact Tu _ _|refine Below.alloc ?_ (by first|omega|(simp;done)|(simp;omega)) _)⟩;rw[HT.out];first|rfl|(simp only[DQ];rfl)
theorem Qr(a b:V)(w:World)(ha:a.k=1)(hb:b.k=1):Calls prog 114 #[.int .i64 8,.agg #[.int .i64 a.k,.int .i64 a.n],.agg #[.int .i64 b.k,.int .i64 b.n]] w fun e w'=>e=.returned (ET (AE 8 a b))/\Below w.heap.size w w':=by
 have e1:(a.k != 1)=false:=by simpa using ha
 have e2:(b.k != 1)=false:=by simpa using hb
 by_cases hl:a.n<b.n
 ·have HT:Hid (AE 8 a b=(Bn 1,0)):=by simp[Hid,AE,ha,hb,hl]
  clear ha hb;go_enter func114,ntmps114
  go_wp2_with (go_at_call 112;refine(Do _ _).mono ?_;rintro e w' ⟨rfl,rfl⟩)
  refine bodyPost_ret (v:=.tuple #[.agg #[.int .i64 1,.int .i64 (1)],.int .i64 0]) (by simp[results,Tryz.results114,go_sem]) rfl ⟨?_,by repeat (first|exact Tu _ _|refine Below.alloc ?_ (by first|omega|(simp;done)|(simp;omega)) _)⟩;rw[HT.out];first|rfl|(simp only[DQ];rfl)
 ·have HT:Hid (AE 8 a b=(Bn 0,0)):=by simp[Hid,AE,ha,hb,hl]
  clear ha hb;go_enter func114,ntmps114
  go_wp2_with (go_at_call 112;refine(Do _ _).mono ?_;rintro e w' ⟨rfl,rfl⟩)
  refine bodyPost_ret (v:=.tuple #[.agg #[.int .i64 1,.int .i64 (0)],.int .i64 0]) (by simp[results,Tryz.results114,go_sem]) rfl ⟨?_,by repeat (first|exact Tu _ _|refine Below.alloc ?_ (by first|omega|(simp;done)|(simp;omega)) _)⟩;rw[HT.out];first|rfl|(simp only[DQ];rfl)
theorem MW(a b:V)(w:World)(ha:a.k=1)(hb:b.k=1):Calls prog 114 #[.int .i64 7,.agg #[.int .i64 a.k,.int .i64 a.n],.agg #[.int .i64 b.k,.int .i64 b.n]] w fun e w'=>e=.returned (ET (AE 7 a b))/\Below w.heap.size w w':=by
 have e1:(a.k != 1)=false:=by simpa using ha
 have e2:(b.k != 1)=false:=by simpa using hb
 by_cases h0:b.n=0
 ·have HT:Hid (AE 7 a b=(As,4)):=by simp[Hid,AE,ha,hb,h0]
  have e3:(b.n==0)=true:=by simpa using h0
  clear ha hb h0;go_enter func114,ntmps114
  go_wp2_with (go_at_call 112;refine(Do _ _).mono ?_;rintro e w' ⟨rfl,rfl⟩)
  refine bodyPost_ret (v:=.tuple #[.agg #[.int .i64 0,.int .i64 (0)],.int .i64 4]) (by simp[results,Tryz.results114,go_sem]) rfl ⟨?_,by repeat (first|exact Tu _ _|refine Below.alloc ?_ (by first|omega|(simp;done)|(simp;omega)) _)⟩;rw[HT.out];first|rfl|(simp only[DQ];rfl)
 ·have HT:Hid (AE 7 a b=(Bn (Dn (a.n.tdiv b.n)),0)):=by simp[Hid,AE,ha,hb,h0]
  have e3:(b.n==0)=false:=by simpa using h0
  by_cases h1:b.n=-1
  ·have e4:(b.n==-1)=true:=by simpa using h1
   have HT2:Hid (AE 7 a b=(Bn (Dn (-a.n)),0)):=by unfold Hid;rw[HT.out,h1,Int.tdiv_neg,Int.tdiv_one]
   clear HT ha hb h0 h1;have HT:=HT2;clear HT2;go_enter func114,ntmps114
   go_wp2_with (go_at_call 112;refine(Do _ _).mono ?_;rintro e w' ⟨rfl,rfl⟩)
   refine bodyPost_ret (v:=.tuple #[.agg #[.int .i64 1,.int .i64 (wrap64 (-a.n))],.int .i64 0]) (by simp[results,Tryz.results114,go_sem]) rfl ⟨?_,by repeat (first|exact Tu _ _|refine Below.alloc ?_ (by first|omega|(simp;done)|(simp;omega)) _)⟩;rw[HT.out];first|rfl|(simp only[DQ];rfl)
  ·have e4:(b.n==-1)=false:=by simpa using h1
   clear ha hb h1;go_enter func114,ntmps114
   go_wp2_with (go_at_call 112;refine(Do _ _).mono ?_;rintro e w' ⟨rfl,rfl⟩)
   refine bodyPost_ret (v:=.tuple #[.agg #[.int .i64 1,.int .i64 (wrap64 (a.n.tdiv b.n))],.int .i64 0]) (by simp[results,Tryz.results114,go_sem]) rfl ⟨?_,by repeat (first|exact Tu _ _|refine Below.alloc ?_ (by first|omega|(simp;done)|(simp;omega)) _)⟩;rw[HT.out];first|rfl|(simp only[DQ];rfl)
theorem Qt(op:Int)(a b:V)(w:World)(ho:op=4\/op=5\/op=6\/op=7\/op=8\/op=9):Calls prog 114 #[.int .i64 op,.agg #[.int .i64 a.k,.int .i64 a.n],.agg #[.int .i64 b.k,.int .i64 b.n]] w fun e w'=>e=.returned (ET (AE op a b))/\Below w.heap.size w w':=by
 by_cases h9:op=9
 ·subst h9;exact LS a b w
 ·by_cases hk:a.k≠1\/b.k≠1
  ·exact Pn op a b w h9 hk
  ·have ha:a.k=1:=by omega
   have hb:b.k=1:=by omega
   rcases ho with rfl|rfl|rfl|rfl|rfl|rfl
   ·exact Ns a b w ha hb
   ·exact Re a b w ha hb
   ·exact Oz a b w ha hb
   ·exact MW a b w ha hb
   ·exact Qr a b w ha hb
   ·exact LS a b w
end Go.Proofs.YtkafkipjedpohaaGreatDoor

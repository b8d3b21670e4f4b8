import Derived.Test.YtkafkipjedpohaaGreatDoorM6
import Derived.Test.YtkafkipjedpohaaGreatDoorR8
namespace Go.Proofs.YtkafkipjedpohaaGreatDoor
set_option maxRecDepth 100000
set_option maxHeartbeats 16000000
open Go.RowKit _root_.Go.Proofs.Tryz
def Bv(w:World)(B mb:Nat)(A:Af)(s:Mc)(en:Int)(rest:List Fr)(x:Fr × List (List V) × List V × Int)(e:Ending)(w':World):Prop :=
 ((x.2.2.2=0/\e=.returned (.tuple #[]))\/(x.2.2.2≠0/\e=BT x.2.2.2))/\CX N5 w w' B mb A {s with fr:=x.1::rest,arr:=x.2.1,out:=x.2.2.1} en
theorem Bv.ok{w:World}{B mb:Nat}{A:Af}{s:Mc}{en:Int}{rest:List Fr}{f':Fr}{arr:List (List V)}{out:List V}{w':World}(h:CX N5 w w' B mb A {s with fr:=f'::rest,arr:=arr,out:=out} en):Bv w B mb A s en rest (f',arr,out,0) (.returned (.tuple #[])) w' :=
 ⟨Or.inl ⟨rfl,rfl⟩,h⟩
theorem Bv.trap{w:World}{B mb:Nat}{A:Af}{s:Mc}{en:Int}{rest:List Fr}{f':Fr}{arr:List (List V)}{out:List V}{t:Int}{w':World}(ht:t≠0)(h:CX N5 w w' B mb A {s with fr:=f'::rest,arr:=arr,out:=out} en):Bv w B mb A s en rest (f',arr,out,t) (BT t) w' :=
 ⟨Or.inr ⟨ht,rfl⟩,h⟩
theorem KW(n:Int)(w:World):Calls prog 134 #[.int .i64 n] w fun e w'=>e=.returned (.agg #[.int .i64 3,.int .i64 n])/\Below w.heap.size w w':=by
 refine(Ph n w).mono ?_;rintro e w' ⟨h,rfl⟩;exact⟨h,(Tu _ _).alloc (Te _) _⟩
theorem NN(w:World)(B mb:Nat)(A:Af)(s:Mc)(en:Int)(f:Fr)(rest:List Fr)(n:Int)(hL:AB w B mb A s en)(hs:s.fr=f::rest)(hB:B<=w.heap.size)(hn:f.stk.length<=60) :
  Calls prog 121 #[.pointer (some ⟨mb,0,none⟩),.pointer (some ⟨A.FB rest.length,0,none⟩),.agg #[.int .i64 0,.int .i64 n]] w (Bv w B mb A s en rest (Ak 0 n f s.arr s.out)):=by
 have H0:=Aa ((Ap.start hL hB).box #[.int .i64 0,.int .i64 n] 33);generalize hfb:A.FB rest.length=fb;have HF:=Aa hfb;clear hL hfb;go_enter func121,ntmps121
 go_wp2_with fail
 generalize w.alloc (.cells #[.int .i64 0,.int .i64 n] 33)=W at *;have H1:=Aa H0.out.drew;clear H0;refine AG (Hb [(w.heap.size,#[Value.int .i64 0,Value.int .i64 n],33)]) TB (by kernel_rfl) (by kernel_rfl) (DN _ _ _) H1.out.hb ?_;simp only[TB,lexL,Tl,Tm];iterate 5 (refine Aw (by rfl) (by intro w' hS';obtain⟨y0,y1,_,_⟩:=hS'.two Ti;clear hS';go_simp;exact rfl) ?_;simp only[Act.put,Td,Th,Tg])
 generalize W.drew=w1 at H1 ⊢;refine Az (fun K hK=>?_);go_simp;refine(FN _ _).mono ?_;rintro e w2 ⟨rfl,k2⟩;have H2:=Aa (H1.out.below k2);refine hK.out _ _ H2.out.hb ?_;clear hK K H1 k2;refine Az (fun K hK=>?_);go_simp;have hp:=H2.out.push hs (by omega) (Bn n);rw[HF.out] at hp;refine hp.mono ?_;rintro e w3 ⟨rfl,c3⟩;refine hK.out _ _ c3.hb ?_;have HQ:=Aa (Bv.ok c3.done);clear hK K c3 hp;refine AF ?_;go_wp2;go_end0;exact HQ.out
theorem Rv(w:World)(B mb:Nat)(A:Af)(s:Mc)(en:Int)(f:Fr)(rest:List Fr)(n:Int)(hL:AB w B mb A s en)(hs:s.fr=f::rest)(hB:B<=w.heap.size)(hn:f.stk.length<=60) :
  Calls prog 121 #[.pointer (some ⟨mb,0,none⟩),.pointer (some ⟨A.FB rest.length,0,none⟩),.agg #[.int .i64 12,.int .i64 n]] w (Bv w B mb A s en rest (Ak 12 n f s.arr s.out)):=by
 have H0:=Aa ((Ap.start hL hB).box #[.int .i64 12,.int .i64 n] 33);generalize hfb:A.FB rest.length=fb;have HF:=Aa hfb;clear hL hfb;go_enter func121,ntmps121
 go_wp2_with fail
 generalize w.alloc (.cells #[.int .i64 12,.int .i64 n] 33)=W at *;have H1:=Aa H0.out.drew;clear H0;refine AG (Hb [(w.heap.size,#[Value.int .i64 12,Value.int .i64 n],33)]) TB (by kernel_rfl) (by kernel_rfl) (DN _ _ _) H1.out.hb ?_;simp only[TB,lexL,Tl,Tm];iterate 5 (refine Aw (by rfl) (by intro w' hS';obtain⟨y0,y1,_,_⟩:=hS'.two Ti;clear hS';go_simp;exact rfl) ?_;simp only[Act.put,Td,Th,Tg])
 generalize W.drew=w1 at H1 ⊢;refine Az (fun K hK=>?_);go_simp;refine(KW _ _).mono ?_;rintro e w2 ⟨rfl,k2⟩;have H2:=Aa (H1.out.below k2);refine hK.out _ _ H2.out.hb ?_;clear hK K H1 k2;refine Az (fun K hK=>?_);go_simp;have hp:=H2.out.push hs (by omega) ⟨3,n⟩;rw[HF.out] at hp;refine hp.mono ?_;rintro e w3 ⟨rfl,c3⟩;refine hK.out _ _ c3.hb ?_;have HQ:=Aa (Bv.ok c3.done);clear hK K c3 hp;refine AF ?_;go_wp2;go_end0;exact HQ.out
theorem Nr(w:World)(B mb:Nat)(A:Af)(s:Mc)(en:Int)(f:Fr)(rest:List Fr)(n:Int)  (hL:AB w B mb A s en) (hs:s.fr=f::rest) (hB:B<=w.heap.size) (hn:f.stk.length<=60) :
  Calls prog 121 #[.pointer (some ⟨mb,0,none⟩),.pointer (some ⟨A.FB rest.length,0,none⟩),.agg #[.int .i64 1,.int .i64 n]] w (Bv w B mb A s en rest (Ak 1 n f s.arr s.out)):=by
 have H0:=Aa ((Ap.start hL hB).box #[.int .i64 1,.int .i64 n] 33);generalize hfb:A.FB rest.length=fb;have HF:=Aa hfb;clear hL hfb;go_enter func121,ntmps121
 go_wp2_with fail
 have hp:=H0.out.push hs (by omega) As;rw[HF.out] at hp;refine hp.mono ?_;rintro e w3 ⟨rfl,c3⟩;have HQ:=Aa (Bv.ok c3.done);clear c3 hp;go_wp2;go_end0;exact HQ.out
theorem QX(w:World)(B mb:Nat)(A:Af)(s:Mc)(en:Int)(f:Fr)(rest:List Fr)(n:Int)(v:V)(st:List V)(hst:f.stk=v::st)(hL:AB w B mb A s en)(hs:s.fr=f::rest)(hB:B<=w.heap.size)(hn:st.length<=60) :
  Calls prog 121 #[.pointer (some ⟨mb,0,none⟩),.pointer (some ⟨A.FB rest.length,0,none⟩),.agg #[.int .i64 20,.int .i64 n]] w (Bv w B mb A s en rest (Ak 20 n f s.arr s.out)):=by
 have H0:=Aa ((Ap.start hL hB).box #[.int .i64 20,.int .i64 n] 33);generalize hfb:A.FB rest.length=fb;have HF:=Aa hfb;have hx:Ak 20 n f s.arr s.out=({f with stk:=st},s.arr,s.out,0):=by unfold Ak;simp[hst]
 rw[hx];clear hL hfb hx;go_enter func121,ntmps121
 go_wp2_with fail
 have hp:=H0.out.pop hs hst (by omega);rw[HF.out] at hp;refine hp.mono ?_;rintro e w3 ⟨rfl,c3⟩;have HQ:=Aa (Bv.ok c3.done);clear c3 hp;go_wp2;go_end0;exact HQ.out
theorem PH(w:World)(B mb:Nat)(A:Af)(s:Mc)(en:Int)(f:Fr)(rest:List Fr)(n:Int)(b a:V)(st:List V)(hst:f.stk=b::a::st)(hL:AB w B mb A s en)(hs:s.fr=f::rest)(hB:B<=w.heap.size)(hn:st.length<=60) :
  Calls prog 121 #[.pointer (some ⟨mb,0,none⟩),.pointer (some ⟨A.FB rest.length,0,none⟩),.agg #[.int .i64 9,.int .i64 n]] w (Bv w B mb A s en rest (Ak 9 n f s.arr s.out)):=by
 have H0:=Aa ((Ap.start hL hB).box #[.int .i64 9,.int .i64 n] 33);generalize hfb:A.FB rest.length=fb;have HF:=Aa hfb;have hx:Ak 9 n f s.arr s.out=({f with stk:=(AE 9 a b).1::st},s.arr,s.out,0):=by
  have h2:(AE 9 a b).2=0:=by unfold AE;rw[if_pos rfl]
  unfold Ak;simp[hst,h2]
 rw[hx];clear hL hfb hx;go_enter func121,ntmps121
 go_wp2_with fail
 generalize w.alloc (.cells #[.int .i64 9,.int .i64 n] 33)=W at *;have hp:=H0.out.popTwo H0.out.lt hs hst hn;rw[HF.out] at hp;refine hp.mono ?_;rintro e w2 ⟨rfl,c2⟩;have H2:=Aa (E7 c2 #[.int .i64 a.k,.int .i64 a.n] #[.int .i64 b.k,.int .i64 b.n] 43);clear c2 hp H0 hst;go_wp2_with fail
 generalize (w2.alloc (.cells #[.int .i64 a.k,.int .i64 a.n] 43)).alloc (.cells #[.int .i64 b.k,.int .i64 b.n] 43)=W2 at *;have H3:=Aa H2.out.drew;clear H2;refine AG (Hb [(w2.heap.size+1,#[Value.int .i64 b.k,Value.int .i64 b.n],43),(w2.heap.size,#[Value.int .i64 a.k,Value.int .i64 a.n],43),(w.heap.size,#[Value.int .i64 9,Value.int .i64 n],33)]) TB (by kernel_rfl) (by kernel_rfl) (DN _ _ _) H3.out.hb ?_;simp only[TB,lexL,Tl,Tm];iterate 5 (refine Aw (by rfl) (by intro w' hS';obtain⟨y0,y1,_,_⟩:=hS'.two Ti;obtain⟨u0,u1,_,_⟩:=hS'.two (Tf _ Ti);obtain⟨v0,v1,_,_⟩:=hS'.two (Tf _ (Tf _ Ti));clear hS';go_simp;exact rfl) ?_;simp only[Act.put,Td,Th,Tg])
 generalize W2.drew=w3 at H3 ⊢;refine Az (fun K hK=>?_);go_simp;refine(Mi a b _).mono ?_;rintro e w4 ⟨rfl,k4⟩;have H4:=Aa (H3.out.below k4);refine hK.out _ _ H4.out.hb ?_;clear hK K H3 k4;refine Az (fun K hK=>?_);go_simp;have hp:=H4.out.push rfl (by show st.length<=64;omega) (AE 9 a b).1;rw[HF.out] at hp;refine hp.mono ?_;rintro e w5 ⟨rfl,c5⟩;refine hK.out _ _ c5.hb ?_;have HQ:=Aa (Bv.ok c5.done);clear hK K c5 hp;refine AF ?_;go_wp2;go_end0;exact HQ.out
theorem RE(w:World)(B mb:Nat)(A:Af)(s:Mc)(en:Int)(f:Fr)(rest:List Fr)(n:Int)(op:Int)(hop:op=4\/op=5\/op=6\/op=7\/op=8)(b a:V)(st:List V)(hst:f.stk=b::a::st)(hL:AB w B mb A s en)(hs:s.fr=f::rest)(hB:B<=w.heap.size)(hn:st.length<=60) :
  Calls prog 121 #[.pointer (some ⟨mb,0,none⟩),.pointer (some ⟨A.FB rest.length,0,none⟩),.agg #[.int .i64 op,.int .i64 n]] w (Bv w B mb A s en rest (Ak op n f s.arr s.out)):=by
 have H0:=Aa ((Ap.start hL hB).box #[.int .i64 op,.int .i64 n] 33);generalize hfb:A.FB rest.length=fb;have HF:=Aa hfb;have hx:Ak op n f s.arr s.out=if (AE op a b).2=0 then ({f with stk:=(AE op a b).1::st},s.arr,s.out,0) else ({f with stk:=st},s.arr,s.out,(AE op a b).2):=by
  unfold Ak;rcases hop with rfl|rfl|rfl|rfl|rfl<;>simp[hst]
 generalize Ak op n f s.arr s.out=xx at hx ⊢;have HX:=Aa hx;have HO:=Aa hop;have ho:((op==0)=false/\(op==1)=false/\(op==12)=false/\(op==2)=false/\(op==3)=false)/\((op==4)=true\/((op==4)=false/\(op==5)=true)\/((op==4)=false/\(op==5)=false/\(op==6)=true)\/((op==4)=false/\(op==5)=false/\(op==6)=false/\(op==7)=true)\/((op==4)=false/\(op==5)=false/\(op==6)=false/\(op==7)=false/\(op==8)=true)):=by
  rcases hop with rfl|rfl|rfl|rfl|rfl<;>decide
 have HO2:=Aa ho;clear hL hfb hx hop ho;obtain⟨⟨o0,o1,o2,o3,o4⟩,o5⟩:=HO2.out;go_enter func121,ntmps121
 rcases o5 with o5|⟨o5,o6⟩|⟨o5,o6,o7⟩|⟨o5,o6,o7,o8⟩|⟨o5,o6,o7,o8,o9⟩
 all_goals
  go_wp2_with fail
  generalize w.alloc (.cells #[.int .i64 op,.int .i64 n] 33)=W at *;have hp:=H0.out.popTwo H0.out.lt hs hst hn;rw[HF.out] at hp;refine hp.mono ?_;rintro e w2 ⟨rfl,c2⟩;have H2:=Aa (E7 c2 #[.int .i64 a.k,.int .i64 a.n] #[.int .i64 b.k,.int .i64 b.n] 43);clear c2 hp H0 hst;go_wp2_with fail
  generalize (w2.alloc (.cells #[.int .i64 a.k,.int .i64 a.n] 43)).alloc (.cells #[.int .i64 b.k,.int .i64 b.n] 43)=W2 at *;have H3:=Aa H2.out.drew;clear H2;refine AG (Hb [(w2.heap.size+1,#[Value.int .i64 b.k,Value.int .i64 b.n],43),(w2.heap.size,#[Value.int .i64 a.k,Value.int .i64 a.n],43),(w.heap.size,#[Value.int .i64 op,Value.int .i64 n],33)]) [(false,0),(false,1),(false,2),(false,3),(false,4),(false,6),(false,7),(true,5),(true,8),(true,9)] (by kernel_rfl) (by kernel_rfl) (DN _ _ _) H3.out.hb ?_;simp only[lexL,Tl,Tm];iterate 7 (refine Aw (by rfl) (by intro w' hS';obtain⟨y0,y1,_,_⟩:=hS'.two Ti;obtain⟨u0,u1,_,_⟩:=hS'.two (Tf _ Ti);obtain⟨v0,v1,_,_⟩:=hS'.two (Tf _ (Tf _ Ti));clear hS';go_simp;exact rfl) ?_;simp only[Act.put,Td,Th,Tg])
  generalize W2.drew=w3 at H3 ⊢;refine Az (fun K hK=>?_);go_simp;refine(Kv op HO.out _).mono ?_;rintro e w4 ⟨rfl,rfl⟩;refine hK.out _ _ H3.out.hb ?_;clear hK K;refine Az (fun K hK=>?_);go_simp;refine(KP op HO.out a b _).mono ?_;rintro e w4 ⟨⟨h2,rfl⟩|⟨h2,rfl⟩,k4⟩
  ·have H4:=Aa (H3.out.below k4);have HX2:=Aa (HX.out.trans (if_pos h2));refine hK.out _ _ H4.out.hb ?_;clear hK K H3 k4 h2;refine Az (fun K hK=>?_);go_simp;have hp:=H4.out.push rfl (by show st.length<=64;omega) (AE op a b).1;rw[HF.out] at hp;refine hp.mono ?_;rintro e w5 ⟨rfl,c5⟩;refine hK.out _ _ c5.hb ?_;have HQ:=Aa (Bv.ok c5.done);clear hK K c5 hp;refine AF ?_;go_wp2;go_end0;rw[HX2.out];exact HQ.out
  ·refine⟨rfl,?_⟩;rw[HX.out.trans (if_neg h2)];exact Bv.trap h2 (H3.out.below k4).done
section
variable {w:World}{B mb:Nat}{s:Mc}{en:Int}
theorem AB.arrset{A:Af}(h:AB w B mb A s en){j i xb cap:Nat}(hj:j<s.arr.length)(hv:A.AV j=.slice (some ⟨xb,0,none⟩) (s.arr.getD j []).length cap)(hi:i<(s.arr.getD j []).length)(v:V) :
  AB ((w.setCell ⟨xb,i * 2,none⟩ (.int .i64 v.k)).setCell ⟨xb,i * 2+1,none⟩ (.int .i64 v.n)) B mb A {s with arr:=s.arr.set j ((s.arr.getD j []).set i v)} en /\
   Ch B (fun c=>c=13+4 * j) A.tag A.tag w ((w.setCell ⟨xb,i * 2,none⟩ (.int .i64 v.k)).setCell ⟨xb,i * 2+1,none⟩ (.int .i64 v.n)):=by
 have hrow:=h.arr j hj;rw[hv] at hrow;obtain⟨b',cap',hb',hB,hlt,ht,_⟩:=hrow.form (by omega);injection hb' with e1 e2 e3;injection e1 with e1;injection e1 with e1 e4;subst e1;have hch:Ch B (fun c=>c=13+4 * j) A.tag A.tag w ((w.setCell ⟨xb,i * 2,none⟩ (.int .i64 v.k)).setCell ⟨xb,i * 2+1,none⟩ (.int .i64 v.n)) :=
  ((Ch.refl B _ A.tag w).setOld (a:=⟨xb,_,none⟩) hB (fun _=>ht) _).setOld (a:=⟨xb,_,none⟩) hB (fun _=>ht) _
 refine⟨⟨?_,h.own,h.fr.keep hch (by omega),fun k hk=>?_,?_,h.out.keep hch (by omega),fun k hk=>(h.loc k hk).keep hch (by omega),fun k hk=>(h.stk k hk).keep hch (by omega),fun k hk=>?_⟩,hch⟩
 ·have hc:AL (s.arr.set j ((s.arr.getD j []).set i v))=AL s.arr:=Me _ _ _ (by rw[List.length_set]);have:D4 A {s with arr:=s.arr.set j ((s.arr.getD j []).set i v)} en=D4 A s en:=by unfold D4;rw[hc]
  rw[this];exact(hch.block mb (Ah h.run) (Or.inr (by rw[h.own.2];omega))).trans h.run
 ·obtain⟨g1,g2,g3⟩:=h.fb k hk;obtain⟨g4,g5⟩:=Bq g1 hch (by rw[g3];omega);exact⟨g4,g2,g5.trans g3⟩
 ·show Ae _ B A.tag 2 _ 1 A.av (s.arr.set j _).length A.AV;rw[List.length_set];exact h.ar.keep hch (by omega)
 ·have hk':k<s.arr.length:=by simpa using hk
  show Ae _ B A.tag (13+4 * k) _ 2 (A.AV k) ((s.arr.set j ((s.arr.getD j []).set i v)).getD k []).length (Ar ((s.arr.set j ((s.arr.getD j []).set i v)).getD k []));by_cases e:k=j
  ·subst e;rw[Mu _ _ _ hk',List.length_set,hv];exact((hrow.set (i * 2) _).set (i * 2+1) _).congr (fun c _=>Hj _ _ _ hi c)
  ·rw[KM _ _ _ _ e];exact(h.arr k hk').keep hch (by omega)
theorem Ap.length{w0:World}{A0:Af}{l:List (Nat × Array Value × TypeId)}(h:Ap w0 B mb A0 s en l w)(v:V)(hv:v.k=2->0<=v.n/\v.n<s.arr.length) :
  Calls prog 140 #[.pointer (some ⟨mb,0,none⟩),.agg #[.int .i64 v.k,.int .i64 v.n]] w fun e w' =>
   ((v.k=2/\e=.returned (.agg #[.int .i64 1,.int .i64 (s.arr.getD v.n.toNat []).length]))\/(v.k≠2/\e=BT 3))/\Ap w0 B mb A0 s en l w':=by
 have h':=h;obtain⟨hB,A,h1,h2,h3,h4⟩:=h;refine(SB h1 v hv w (Tu _ _)).mono ?_;rintro e w' ⟨he,hb⟩;exact⟨he,h'.below hb⟩
theorem G7(l:List V)(i:Nat):Ar l (i * 2)=.int .i64 (l.getD i As).k/\Ar l (i * 2+1)=.int .i64 (l.getD i As).n:=by
 unfold Ar;rw[if_pos (by omega),if_neg (by omega),show i * 2 / 2=i by omega,show (i * 2+1) / 2=i by omega];exact⟨rfl,rfl⟩
def Qc(w0:World)(B mb:Nat)(A0:Af)(s:Mc)(en:Int)(l:List (Nat × Array Value × TypeId))(j i b o:Nat)(w:World):Prop :=
 w.cell? ⟨b,o,none⟩=some (.int .i64 ((s.arr.getD j []).getD i As).k)/\w.cell? ⟨b,o+1,none⟩=some (.int .i64 ((s.arr.getD j []).getD i As).n)/\w.frozen? ⟨b,o,none⟩=false/\w.frozen? ⟨b,o+1,none⟩=false /\
  ∀ v:V,Ap w0 B mb A0 {s with arr:=s.arr.set j ((s.arr.getD j []).set i v)} en l ((w.setCell ⟨b,o,none⟩ (.int .i64 v.k)).setCell ⟨b,o+1,none⟩ (.int .i64 v.n))
theorem Ap.cell{w0:World}{A0:Af}{l:List (Nat × Array Value × TypeId)}(h:Ap w0 B mb A0 s en l w)(a i:V)(hv:a.k=2->0<=a.n/\a.n<s.arr.length) :
  Calls prog 141 #[.pointer (some ⟨mb,0,none⟩),.agg #[.int .i64 a.k,.int .i64 a.n],.agg #[.int .i64 i.k,.int .i64 i.n]] w fun e w' =>
   ((AS s.arr a i=0/\∃ b o,e=.returned (.pointer (some ⟨b,o,none⟩))/\Qc w0 B mb A0 s en l a.n.toNat i.n.toNat b o w')\/(AS s.arr a i≠0/\e=BT (AS s.arr a i)))/\Ap w0 B mb A0 s en l w':=by
 have h':=h;obtain⟨hB,A,h1,h2,h3,h4⟩:=h;refine(PP h1 a i hv w (Tu _ _)).mono ?_;rintro e w' ⟨he,hb⟩;refine⟨?_,h'.below hb⟩;rcases he with⟨hw,b,cp,hA,rfl⟩|⟨hw,rfl⟩
 ·obtain⟨o1,o2,o3,o4⟩:=GS hw;have hj:a.n.toNat<s.arr.length:=by have:=hv o1;omega
  have hi:i.n.toNat<(s.arr.getD a.n.toNat []).length:=by omega
  have hL:=h1.below hb;have hr:=hL.arr _ hj;rw[hA] at hr;have hm:=hr.cell (i:=i.n.toNat * 2) (by omega);have hm1:=hr.cell (i:=i.n.toNat * 2+1) (by omega);rw[(G7 _ _).1] at hm;rw[(G7 _ _).2] at hm1;refine Or.inl ⟨hw,b,_,rfl,hm,hm1,hr.frozen _,hr.frozen _,fun v=>?_⟩;obtain⟨q1,q2⟩:=hL.arrset hj hA hi v;refine⟨hB,A,q1,h2,(h3.trans' hb).trans (q2.mono (fun d hd=>by unfold N5;omega)),(h4.keep (Ch.of_below (p:=fun _=>False) (B:=B) hb) (fun h=>h)).keep q2 (by omega)⟩
 ·exact Or.inr ⟨hw,rfl⟩
theorem Pu(w:World)(B mb:Nat)(A:Af)(s:Mc)(en:Int)(f:Fr)(rest:List Fr)(n:Int)(v:V)(st:List V)(hst:f.stk=v::st)(hv:v.k=2->0<=v.n/\v.n<s.arr.length)(hL:AB w B mb A s en)(hs:s.fr=f::rest)(hB:B<=w.heap.size)(hn:st.length<=60) :
  Calls prog 121 #[.pointer (some ⟨mb,0,none⟩),.pointer (some ⟨A.FB rest.length,0,none⟩),.agg #[.int .i64 18,.int .i64 n]] w (Bv w B mb A s en rest (Ak 18 n f s.arr s.out)):=by
 have H0:=Aa ((Ap.start hL hB).box #[.int .i64 18,.int .i64 n] 33);generalize hfb:A.FB rest.length=fb;have HF:=Aa hfb;have hx:Ak 18 n f s.arr s.out=if v.k≠2 then ({f with stk:=st},s.arr,s.out,3) else ({f with stk:=Bn ((s.arr.getD v.n.toNat []).length:Int)::st},s.arr,s.out,0):=by
  unfold Ak;simp[hst]
 generalize Ak 18 n f s.arr s.out=xx at hx ⊢;have HX:=Aa hx;have HV:=Aa hv;clear hL hfb hx hv;go_enter func121,ntmps121
 go_wp2_with fail
 generalize w.alloc (.cells #[.int .i64 18,.int .i64 n] 33)=W at *;have H1:=Aa H0.out.drew;clear H0;refine AG (Hb [(w.heap.size,#[Value.int .i64 18,Value.int .i64 n],33)]) Tz (by kernel_rfl) (by kernel_rfl) (DN _ _ _) H1.out.hb ?_;simp only[Tz,lexL,Tl,Tm];iterate 7 (refine Aw (by rfl) (by intro w' hS'; clear hS';go_simp;exact rfl) ?_;simp only[Act.put,Td,Th,Tg])
 generalize W.drew=w1 at H1 ⊢;refine Az (fun K hK=>?_);go_simp;have hp:=H1.out.pop hs hst (by omega);rw[HF.out] at hp;refine hp.mono ?_;rintro e w2 ⟨rfl,c2⟩;have H2:=Aa c2;refine hK.out _ _ c2.hb ?_;clear hK K hp c2 H1;refine Az (fun K hK=>?_);go_simp;refine(H2.out.length v HV.out).mono ?_;rintro e w3 ⟨⟨hk,rfl⟩|⟨hk,rfl⟩,c3⟩
 ·have H3:=Aa c3;have HX2:=Aa (HX.out.trans (if_neg (fun h=>h hk)));refine hK.out _ _ c3.hb ?_;clear hK K c3 H2 hk;generalize ((s.arr.getD v.n.toNat []).length:Int)=al at *;refine Az (fun K hK=>?_);go_simp;have hp:=H3.out.push rfl (by show st.length<=64;omega) (Bn al);rw[HF.out] at hp;refine hp.mono ?_;rintro e w9 ⟨rfl,c9⟩;refine hK.out _ _ c9.hb ?_;have HQ:=Aa (Bv.ok c9.done);clear hK K c9 hp;refine AF ?_;go_wp2;go_end0;rw[HX2.out];exact HQ.out
 ·refine⟨rfl,?_⟩;rw[HX.out.trans (if_pos hk)];exact Bv.trap (by decide) c3.done
theorem M9(w:World)(B mb:Nat)(A:Af)(s:Mc)(en:Int)(f:Fr)(rest:List Fr)(n:Int)(b a:V)(st:List V)(hst:f.stk=b::a::st)(hv:a.k=2->0<=a.n/\a.n<s.arr.length)(hL:AB w B mb A s en)(hs:s.fr=f::rest)(hB:B<=w.heap.size)(hn:st.length<=60) :
  Calls prog 121 #[.pointer (some ⟨mb,0,none⟩),.pointer (some ⟨A.FB rest.length,0,none⟩),.agg #[.int .i64 16,.int .i64 n]] w (Bv w B mb A s en rest (Ak 16 n f s.arr s.out)):=by
 have H0:=Aa ((Ap.start hL hB).box #[.int .i64 16,.int .i64 n] 33);generalize hfb:A.FB rest.length=fb;have HF:=Aa hfb;have hx:Ak 16 n f s.arr s.out=if AS s.arr a b=0 then ({f with stk:=(s.arr.getD a.n.toNat []).getD b.n.toNat As::st},s.arr,s.out,0) else ({f with stk:=st},s.arr,s.out,AS s.arr a b):=by
  unfold Ak;simp[hst]
 generalize Ak 16 n f s.arr s.out=xx at hx ⊢;have HX:=Aa hx;have HV:=Aa hv;clear hL hfb hx hv;go_enter func121,ntmps121
 go_wp2_with fail
 generalize w.alloc (.cells #[.int .i64 16,.int .i64 n] 33)=W at *;have hp:=H0.out.popTwo H0.out.lt hs hst hn;rw[HF.out] at hp;refine hp.mono ?_;rintro e w2 ⟨rfl,c2⟩;have H2:=Aa (E7 c2 #[.int .i64 a.k,.int .i64 a.n] #[.int .i64 b.k,.int .i64 b.n] 43);clear c2 hp H0 hst;go_wp2_with fail
 generalize (w2.alloc (.cells #[.int .i64 a.k,.int .i64 a.n] 43)).alloc (.cells #[.int .i64 b.k,.int .i64 b.n] 43)=W2 at *;have H3:=Aa H2.out.drew;clear H2;refine AG (Hb [(w2.heap.size+1,#[Value.int .i64 b.k,Value.int .i64 b.n],43),(w2.heap.size,#[Value.int .i64 a.k,Value.int .i64 a.n],43),(w.heap.size,#[Value.int .i64 16,Value.int .i64 n],33)]) [(false,0),(false,1),(false,2),(false,3),(false,4),(false,5),(true,6),(true,7),(true,8),(true,9)] (by kernel_rfl) (by kernel_rfl) (DN _ _ _) H3.out.hb ?_;simp only[lexL,Tl,Tm];iterate 6 (refine Aw (by rfl) (by intro w' hS';obtain⟨y0,z0,_,_⟩:=hS'.two Ti;obtain⟨y1,z1,_,_⟩:=hS'.two (Tf _ Ti);clear hS';go_simp;exact rfl) ?_;simp only[Act.put,Td,Th,Tg])
 generalize W2.drew=w3 at H3 ⊢;refine Az (fun K hK=>?_);go_simp;refine(H3.out.cell a b HV.out).mono ?_;rintro e w4 ⟨⟨hw,bb,oo,rfl,k0,k1,_,_,_⟩|⟨hw,rfl⟩,c4⟩
 ·have H4:=Aa c4;have HX2:=Aa (HX.out.trans (if_pos hw));generalize (s.arr.getD a.n.toNat []).getD b.n.toNat As=x at *;refine hK.out _ _ c4.hb ?_;clear hK K c4 H3 hw;refine Az (fun K hK=>?_);go_simp;refine hK.out _ _ H4.out.hb ?_;clear hK K;refine Az (fun K hK=>?_);go_simp;refine hK.out _ _ H4.out.hb ?_;clear hK K;refine Az (fun K hK=>?_);go_simp;have hp:=H4.out.push rfl (by show st.length<=64;omega) x;rw[HF.out] at hp;refine hp.mono ?_;rintro e w9 ⟨rfl,c9⟩;refine hK.out _ _ c9.hb ?_;have HQ:=Aa (Bv.ok c9.done);clear hK K c9 hp;refine AF ?_;go_wp2;go_end0;rw[HX2.out];exact HQ.out
 ·refine⟨rfl,?_⟩;rw[HX.out.trans (if_neg hw)];exact Bv.trap hw c4.done
end
theorem Ra(w:World)(B mb:Nat)(A:Af)(s:Mc)(en:Int)(f:Fr)(rest:List Fr)(n:Int)(v i a:V)(st:List V)(hst:f.stk=v::i::a::st)(hv:a.k=2->0<=a.n/\a.n<s.arr.length)(hL:AB w B mb A s en)(hs:s.fr=f::rest)(hB:B<=w.heap.size)(hn:st.length<=58) :
  Calls prog 121 #[.pointer (some ⟨mb,0,none⟩),.pointer (some ⟨A.FB rest.length,0,none⟩),.agg #[.int .i64 17,.int .i64 n]] w (Bv w B mb A s en rest (Ak 17 n f s.arr s.out)):=by
 have H0:=Aa ((Ap.start hL hB).box #[.int .i64 17,.int .i64 n] 33);generalize hfb:A.FB rest.length=fb;have HF:=Aa hfb;have hx:Ak 17 n f s.arr s.out=if AS s.arr a i=0 then ({f with stk:=st},s.arr.set a.n.toNat ((s.arr.getD a.n.toNat []).set i.n.toNat v),s.out,0) else ({f with stk:=st},s.arr,s.out,AS s.arr a i):=by
  unfold Ak;simp[hst]
 generalize Ak 17 n f s.arr s.out=xx at hx ⊢;have HX:=Aa hx;have HV:=Aa hv;clear hL hfb hx hv;go_enter func121,ntmps121
 go_wp2_with fail
 generalize w.alloc (.cells #[.int .i64 17,.int .i64 n] 33)=W at *;have hp:=H0.out.pop hs hst (by simp;omega);rw[HF.out] at hp;refine hp.mono ?_;rintro e w1 ⟨rfl,c1⟩;have H1:=Aa (c1.box #[.int .i64 v.k,.int .i64 v.n] 43);clear c1 hp H0 hst;go_wp2_with fail
 generalize w1.alloc (.cells #[.int .i64 v.k,.int .i64 v.n] 43)=W1 at *;have hp:=H1.out.popTwo (b:=i) (a:=a) (st:=st) H1.out.lt rfl rfl (by omega);rw[HF.out] at hp;refine hp.mono ?_;rintro e w2 ⟨rfl,c2⟩;have H2:=Aa (E7 c2 #[.int .i64 a.k,.int .i64 a.n] #[.int .i64 i.k,.int .i64 i.n] 43);clear c2 hp H1;go_wp2_with fail
 generalize (w2.alloc (.cells #[.int .i64 a.k,.int .i64 a.n] 43)).alloc (.cells #[.int .i64 i.k,.int .i64 i.n] 43)=W2 at *;have H3:=Aa H2.out.drew;clear H2;refine AG (Hb [(w2.heap.size+1,#[Value.int .i64 i.k,Value.int .i64 i.n],43),(w2.heap.size,#[Value.int .i64 a.k,Value.int .i64 a.n],43),(w1.heap.size,#[Value.int .i64 v.k,Value.int .i64 v.n],43),(w.heap.size,#[Value.int .i64 17,Value.int .i64 n],33)]) [(false,0),(false,1),(false,2),(false,4),(true,3),(true,5),(true,6)] (by kernel_rfl) (by kernel_rfl) (DN _ _ _) H3.out.hb ?_;simp only[lexL,Tl,Tm];iterate 4 (refine Aw (by rfl) (by intro w' hS';obtain⟨y0,z0,_,_⟩:=hS'.two Ti;obtain⟨y1,z1,_,_⟩:=hS'.two (Tf _ Ti);obtain⟨y2,z2,_,_⟩:=hS'.two (Tf _ (Tf _ Ti));clear hS';go_simp;exact rfl) ?_;simp only[Act.put,Td,Th,Tg])
 generalize W2.drew=w3 at H3 ⊢;refine Az (fun K hK=>?_);go_simp;refine(H3.out.cell a i HV.out).mono ?_;rintro e w4 ⟨⟨hw,bb,oo,rfl,k0,k1,f0,f1,kc⟩|⟨hw,rfl⟩,c4⟩
 ·have H4:=Aa c4;have H5:=Aa (kc v);have HX2:=Aa (HX.out.trans (if_pos hw));generalize (s.arr.getD a.n.toNat []).getD i.n.toNat As=x at *;refine hK.out _ _ c4.hb ?_;clear hK K c4 H3 hw kc;refine Az (fun K hK=>?_);go_simp;refine hK.out _ _ H4.out.hb ?_;clear hK K;refine Az (fun K hK=>?_);go_simp;refine hK.out _ _ H5.out.hb ?_;have HQ:=Aa (Bv.ok H5.out.done);clear hK K;refine AF ?_;go_wp2;go_end0;rw[HX2.out];exact HQ.out
 ·refine⟨rfl,?_⟩;rw[HX.out.trans (if_neg hw)];exact Bv.trap hw c4.done
theorem SW(w:World)(b o n sb c:Nat)(v:V)(h:w.cell? ⟨b,o,none⟩=some (.slice (some ⟨sb,0,none⟩) (n+1) c))(h0:w.cell? ⟨sb,n * 2,none⟩=some (.int .i64 v.k))(h1:w.cell? ⟨sb,n * 2+1,none⟩=some (.int .i64 v.n))(hn:n<=100000) :
  Calls prog 143 #[.pointer (some ⟨b,o,none⟩)] w fun e w'=>e=.returned (.agg #[.int .i64 v.k,.int .i64 v.n])/\Below w.heap.size w w':=by
 have hW:Below w.heap.size w (w.alloc (.cells #[.int .i64 0,.int .i64 0] 43)):=(Tu _ _).alloc (Te _) _;have hbx:(w.alloc (.cells #[.int .i64 0,.int .i64 0] 43)).heap[w.heap.size]?=some (.cells #[.int .i64 0,.int .i64 0] 43 (0,0)):=Tv _ _;have HL:=Aa (Tc hW (Tc hbx (Tc h (Tc h0 h1))));clear hW hbx h h0 h1;go_enter func143,ntmps143
 go_wp2_with fail
 generalize w.alloc (.cells #[.int .i64 0,.int .i64 0] 43)=W at *;have S0:=Aa (show Sb W w.heap.size 43 W.drew from (show Sb W w.heap.size 43 W from ⟨Tu _ _,_,_,HL.out.2.1⟩).drew);have HC:=Aa (fun (w':World) (h:Sb W w.heap.size 43 w')=>(show w'.cell? ⟨b,o,none⟩=some (.slice (some ⟨sb,0,none⟩) (n+1) c)/\w'.cell? ⟨sb,n * 2,none⟩=some (.int .i64 v.k)/\w'.cell? ⟨sb,n * 2+1,none⟩=some (.int .i64 v.n) from by
  obtain⟨k1,_,k2,k3,k4⟩:=HL.out;have hh:=k1.trans h.1;exact⟨(hh.cell (p:=⟨b,o,none⟩) (Tr w _ k2)).trans k2,(hh.cell (p:=⟨sb,n * 2,none⟩) (Tr w _ k3)).trans k3,(hh.cell (p:=⟨sb,n * 2+1,none⟩) (Tr w _ k4)).trans k4⟩))
 refine AG (Sb W w.heap.size 43) [(false,0),(false,1),(false,2),(false,3),(false,4),(false,5),(false,6),(false,7),(false,8),(false,9),(false,10),(false,11),(true,12)] (by kernel_rfl) (by kernel_rfl) (Co _ _ _) S0.out ?_;simp only[lexL,Tl,Tm];have hw64:IntKind.i64.wrap (n:Int)=(n:Int):=by rw[IntKind.wrap_i64];omega
 have i0:(0:Int)<=(n:Int):=by omega
 have i1:(n:Int)<(n:Int)+1:=by omega
 iterate 12 (refine Aw (by rfl) (by intro w' hS';obtain⟨y0,y1,y2⟩:=HC.out w' hS';clear hS';go_simp;exact rfl) ?_;simp only[Act.put,Td,Th,Tg])
 generalize W.drew=w1 at S0 ⊢;obtain⟨x,y,y0,y1,z0,z1⟩:=S0.out.cells;refine Az (fun K hK=>?_);go_simp;refine hK.out _ _ (S0.out.set _ _) ?_;clear hK K;refine AF ?_;go_wp2;obtain⟨r0,r1⟩:=S0.out.read (.int .i64 v.k) (.int .i64 v.n);exact bodyPost_ret (v:=.agg #[.int .i64 v.k,.int .i64 v.n]) (by simp[results,Tryz.results143,go_sem,r0,r1]) rfl ⟨rfl,HL.out.1.trans (S0.out.set _ _).1⟩
theorem Ap.top{w0 w:World}{B mb:Nat}{A0:Af}{s:Mc}{en:Int}{l:List (Nat × Array Value × TypeId)}(h:Ap w0 B mb A0 s en l w){f:Fr}{rest:List Fr}(hs:s.fr=f::rest){v:V}{st:List V}(hst:f.stk=v::st)(hn:st.length<=64) :
  Calls prog 143 #[.pointer (some ⟨A0.FB rest.length,3,none⟩)] w fun e w'=>e=.returned (.agg #[.int .i64 v.k,.int .i64 v.n])/\Ap w0 B mb A0 s en l w':=by
 have h':=h;obtain⟨hB,A,h1,h2,h3,h4⟩:=h;have hfb:A.FB=A0.FB:=by unfold Af.FB;rw[h2]
 rw[<-hfb];have hlen:s.fr.length=rest.length+1:=by rw[hs];rfl
 have e0:Am s.fr rest.length=f:=by rw[hs];exact Bg _ _
 obtain⟨g1,g2,g3⟩:=h1.fb rest.length (by omega);have hrow:=h1.stk rest.length (by omega);rw[e0] at g1 hrow;rw[hst,Tn,List.reverse_cons] at hrow;obtain⟨sb,scap,hsv,hsb,Av,hstg,hsc⟩:=hrow.form (by omega);rw[hsv] at hrow;have x0:=hrow.cell (i:=st.length * 2) (by omega);have x1:=hrow.cell (i:=st.length * 2+1) (by omega);have hlr:st.reverse.length=st.length:=by simp
 have ht:=IA st.reverse v;rw[hlr] at ht;rw[ht.1] at x0;rw[ht.2] at x1;have c3:w.cell? ⟨A.FB rest.length,3,none⟩=some (.slice (some ⟨sb,0,none⟩) (st.length+1) scap):=by rw[Ab g1,<-hsv];rfl
 refine(SW w _ 3 st.length sb scap v c3 x0 x1 (by omega)).mono ?_;rintro e w' ⟨rfl,hb⟩;exact⟨rfl,h'.below hb⟩
theorem PN(w:World)(B mb:Nat)(A:Af)(s:Mc)(en:Int)(f:Fr)(rest:List Fr)(n:Int)(v:V)(st:List V)(hst:f.stk=v::st)(hL:AB w B mb A s en)(hs:s.fr=f::rest)(hB:B<=w.heap.size)(hn:st.length<=60) :
  Calls prog 121 #[.pointer (some ⟨mb,0,none⟩),.pointer (some ⟨A.FB rest.length,0,none⟩),.agg #[.int .i64 21,.int .i64 n]] w (Bv w B mb A s en rest (Ak 21 n f s.arr s.out)):=by
 have H0:=Aa ((Ap.start hL hB).box #[.int .i64 21,.int .i64 n] 33);generalize hfb:A.FB rest.length=fb;have HF:=Aa hfb;have hx:Ak 21 n f s.arr s.out=({f with stk:=v::v::st},s.arr,s.out,0):=by
  unfold Ak;simp[hst]
 rw[hx];clear hL hfb hx;go_enter func121,ntmps121
 go_wp2_with fail
 generalize w.alloc (.cells #[.int .i64 21,.int .i64 n] 33)=W at *;have H1:=Aa H0.out.drew;clear H0;refine AG (Hb [(w.heap.size,#[Value.int .i64 21,Value.int .i64 n],33)]) TA (by kernel_rfl) (by kernel_rfl) (DN _ _ _) H1.out.hb ?_;simp only[TA,lexL,Tl,Tm];iterate 6 (refine Aw (by rfl) (by intro w' hS'; clear hS';go_simp;exact rfl) ?_;simp only[Act.put,Td,Th,Tg])
 generalize W.drew=w1 at H1 ⊢;refine Az (fun K hK=>?_);go_simp;have hp:=H1.out.top hs hst (by omega);rw[HF.out] at hp;refine hp.mono ?_;rintro e w2 ⟨rfl,c2⟩;have H2:=Aa c2;refine hK.out _ _ c2.hb ?_;clear hK K hp c2 H1;refine Az (fun K hK=>?_);go_simp;have hp:=H2.out.push hs (by rw[hst];simp;omega) v;rw[HF.out,hst] at hp;refine hp.mono ?_;rintro e w9 ⟨rfl,c9⟩;refine hK.out _ _ c9.hb ?_;have HQ:=Aa (Bv.ok c9.done);clear hK K c9 hp hst;refine AF ?_;go_wp2;go_end0;exact HQ.out
end Go.Proofs.YtkafkipjedpohaaGreatDoor

import Derived.Test.YtkafkipjedpohaaGreatDoorM20
namespace Go.Proofs.YtkafkipjedpohaaGreatDoor
def CG(F:Nat->PF)(f:Fr)(rest:List Fr)(s0:Mc):Mc :=
 let s:={s0 with steps:=s0.steps+1,cH:=s0.cH+(if s0.high.headD false=true then 1 else 0)}
 let op:=(F f.fn).op f.pc
 let a:=(F f.fn).ar f.pc
 if op=10 then {s with fr:={f with pc:=a.toNat}::rest}
 else if op=11 then match f.stk with
  |[]=>s
  |v::r=>{s with fr:={f with pc:=(if Ce v=true then a.toNat else f.pc+1),stk:=r}::rest}
 else if op=13 then AJ F a.toNat f rest s
 else if op=14 then AT f rest s
 else
  let x:=Ak op a f s.arr s.out
  {s with fr:=(if x.2.2.2=0 then {x.1 with pc:=f.pc+1} else x.1)::rest,arr:=x.2.1,out:=x.2.2.1,fin:=x.2.2.2}
variable {m:Nat} {F:Nat->PF} {K:Nat->Nat->Bool} {H:Nat->Nat->Int} {s:Mc} {f:Fr} {rest:List Fr}
theorem Dw(hs:s.fr=f::rest):AA F s=CG F f rest s:=by
 obtain⟨fr,arr,out,gives,steps,fin,high,made,cH,cU,cD⟩:=s;simp only at hs;subst hs;rfl
theorem FG(h:(F f.fn).op f.pc=10):CG F f rest s={s with steps:=s.steps+1,cH:=s.cH+(if s.high.headD false=true then 1 else 0),fr:={f with pc:=((F f.fn).ar f.pc).toNat}::rest}:=by
 unfold CG;dsimp only;rw[if_pos h]
theorem Fq(h:(F f.fn).op f.pc=11){v:V}{r:List V}(hst:f.stk=v::r):CG F f rest s={s with steps:=s.steps+1,cH:=s.cH+(if s.high.headD false=true then 1 else 0),fr:={f with pc:=(if Ce v=true then ((F f.fn).ar f.pc).toNat else f.pc+1),stk:=r}::rest}:=by
 unfold CG;dsimp only;rw[if_neg (by omega),if_pos h,hst]
theorem Fy(h:(F f.fn).op f.pc=13):CG F f rest s=AJ F ((F f.fn).ar f.pc).toNat f rest {s with steps:=s.steps+1,cH:=s.cH+(if s.high.headD false=true then 1 else 0)}:=by
 unfold CG;dsimp only;rw[if_neg (by omega),if_neg (by omega),if_pos h]
theorem Fu(h:(F f.fn).op f.pc=14):CG F f rest s=AT f rest {s with steps:=s.steps+1,cH:=s.cH+(if s.high.headD false=true then 1 else 0)}:=by
 unfold CG;dsimp only;rw[if_neg (by omega),if_neg (by omega),if_neg (by omega),if_pos h]
theorem FA(h10:(F f.fn).op f.pc≠10)(h11:(F f.fn).op f.pc≠11)(h13:(F f.fn).op f.pc≠13)(h14:(F f.fn).op f.pc≠14) :
  CG F f rest s={s with steps:=s.steps+1,cH:=s.cH+(if s.high.headD false=true then 1 else 0),fr:=(if (Ak ((F f.fn).op f.pc) ((F f.fn).ar f.pc) f s.arr s.out).2.2.2=0 then {(Ak ((F f.fn).op f.pc) ((F f.fn).ar f.pc) f s.arr s.out).1 with pc:=f.pc+1} else (Ak ((F f.fn).op f.pc) ((F f.fn).ar f.pc) f s.arr s.out).1)::rest,arr:=(Ak ((F f.fn).op f.pc) ((F f.fn).ar f.pc) f s.arr s.out).2.1,out:=(Ak ((F f.fn).op f.pc) ((F f.fn).ar f.pc) f s.arr s.out).2.2.1,fin:=(Ak ((F f.fn).op f.pc) ((F f.fn).ar f.pc) f s.arr s.out).2.2.2}:=by
 unfold CG;dsimp only;rw[if_neg h10,if_neg h11,if_neg h13,if_neg h14]
def Cw(H:Nat->Nat->Int)(s:Mc):Prop:=∀ g,g∈s.fr->H g.fn g.pc<=16
theorem GK{na:Nat}(hF:AP m F K H)(hf:CS m na F K H 0 f){t:Int}(ht:t∈Bj ((F f.fn).op f.pc) ((F f.fn).ar f.pc) f.pc):H f.fn t.toNat<=16:=by
 have hc:=(hF.fn f.fn hf.fn).closed;rw[(hc.next f.pc hf.pc hf.known t ht).2.2];exact hc.high f.pc hf.pc hf.known
theorem FP(hF:AP m F K H)(hI:BS m F K H s)(h16:Cw H s)(h0:(AA F s).fin=0):Cw H (AA F s):=by
 obtain⟨⟨f,rest,hs,hf,hr,hn⟩,hhh,ha,hc⟩:=hI;have hlow:=hf.low hF;have hleg:=hf.legal hF;have hrest:∀ g,g∈rest->H g.fn g.pc<=16:=fun g hg=>h16 g (by rw[hs];exact Tf _ hg)
 rw[Dw hs] at h0 ⊢;by_cases e10:(F f.fn).op f.pc=10
 ·rw[FG e10];intro g hg;rcases List.mem_cons.1 hg with rfl|hg
  ·exact GK hF hf (t:=(F f.fn).ar f.pc) (by rw[e10];simp[Bj])
  ·exact hrest g hg
 by_cases e11:(F f.fn).op f.pc=11
 ·rw[e11,show At 11 ((F f.fn).ar f.pc)=1 by simp[At,A6]] at hlow;cases hst:f.stk with
  |nil=>rw[hst] at hlow;simp at hlow
  |cons v r =>
   rw[Fq e11 hst];intro g hg;rcases List.mem_cons.1 hg with rfl|hg
   ·show H f.fn (if Ce v=true then ((F f.fn).ar f.pc).toNat else f.pc+1)<=16;by_cases hz:Ce v=true
    ·rw[if_pos hz];exact GK hF hf (t:=(F f.fn).ar f.pc) (by rw[e11];simp[Bj])
    ·rw[if_neg hz];have:=GK hF hf (t:=(f.pc:Int)+1) (by rw[e11];simp[Bj]);rw[show ((f.pc:Int)+1).toNat=f.pc+1 by omega] at this;exact this
   ·exact hrest g hg
 by_cases e13:(F f.fn).op f.pc=13
 ·rw[Fy e13] at h0 ⊢;unfold AJ at h0 ⊢;cases hd:f.stk.drop ((F f.fn).ar f.pc).toNat with
  |nil =>
   intro g hg;exact h16 g hg
  |cons g0 r =>
   rw[hd] at h0;dsimp only at h0 ⊢;have hg0:g0∈f.stk:=List.mem_of_mem_drop (by rw[hd];exact Ti);by_cases h1:g0.k≠3\/(F g0.n.toNat).args≠(((F f.fn).ar f.pc).toNat:Int)
   ·rw[if_pos h1] at h0;simp at h0
   ·rw[if_neg h1] at h0 ⊢;by_cases h2:24<=rest.length+1
    ·rw[if_pos h2] at h0;simp at h0
    ·rw[if_neg h2];have hgv:=(hf.stk g0 hg0).2.1 (by omega);have hff:=hF.fn g0.n.toNat (by omega);intro g hg;rcases List.mem_cons.1 hg with rfl|hg
     ·show H g0.n.toNat 0<=16;rw[hff.closed.first.2];decide
     ·rcases List.mem_cons.1 hg with rfl|hg
      ·have:=GK hF hf (t:=(f.pc:Int)+1) (by rw[e13];simp[Bj]);rw[show ((f.pc:Int)+1).toNat=f.pc+1 by omega] at this;exact this
      ·exact hrest g hg
 by_cases e14:(F f.fn).op f.pc=14
 ·rw[Fu e14];unfold AT;cases hst:f.stk with
  |nil =>
   intro g hg;exact h16 g hg
  |cons v r =>
   cases hr2:rest with
   |nil =>
    intro g hg;cases hg
   |cons g0 r0 =>
    intro g hg;rcases List.mem_cons.1 hg with rfl|hg
    ·exact hrest g0 (by rw[hr2];exact Ti)
    ·exact hrest g (by rw[hr2];exact Tf _ hg)
 ·rw[FA e10 e11 e13 e14] at h0 ⊢;have hw:=E9 (f:=f) (out:=s.out) hleg e10 e11 e13 e14 hlow hf.loc hf.stk ha hc;intro g hg;rcases List.mem_cons.1 hg with rfl|hg
  ·have h0':(Ak ((F f.fn).op f.pc) ((F f.fn).ar f.pc) f s.arr s.out).2.2.2=0:=h0;rw[if_pos h0'];show H (Ak ((F f.fn).op f.pc) ((F f.fn).ar f.pc) f s.arr s.out).1.fn (f.pc+1)<=16;rw[hw.fn];have:=GK hF hf (t:=(f.pc:Int)+1) (by
    have hr:=E3 hleg;unfold Bj;simp[e10,e14,e11])
   rw[show ((f.pc:Int)+1).toNat=f.pc+1 by omega] at this;exact this
  ·exact hrest g hg
end Go.Proofs.YtkafkipjedpohaaGreatDoor
namespace Go.Proofs.YtkafkipjedpohaaGreatDoor
open Go.RowKit _root_.Go.Proofs.Tryz
theorem Hd{w X w':World}{B mb m:Nat}{F:Nat->PF}{MV:Nat->Value}{A:Af}{s1 s':Mc}{en:Int}{k n h n0:Nat}{b:Bool}(hX:Below w.heap.size w X)(hne:¬A.FB k=mb)(g1:AQ X B mb m F MV n0 A s1 en w')(k1:w'.cell? ⟨A.FB k,4,none⟩=some (A.g.CV k))(hcv:CT (A.g.CV k) b)(hb:s1.steps<=1000000)(hh:s1.cH<=1000000)(h3:s'.fin<3)
  (e1:s'.fr=s1.fr) (e2:s'.arr=s1.arr) (e3:s'.out=s1.out) (e4:s'.gives=s1.gives) (e5:s'.steps=s1.steps+1) (e6:s'.high=s1.high) (e7:s'.made=s1.made) (e8:s'.cH=s1.cH+(if b=true then 1 else 0)) (e9:s'.cU=s1.cU) (e10:s'.cD=s1.cD) :
  Calls prog 88 #[.pointer (some ⟨mb,0,none⟩),.pointer (some ⟨A.FB k,0,none⟩),.int .i64 1] w' fun e w''=>e=.returned (.tuple #[])/\Jo w B mb m F MV n0 A s' n h en e w'':=by
 obtain⟨A1,m1,s1',c1,f1,v1⟩:=g1;refine(m1.count _ _ b k1 hcv hne hb hh 1 (by omega)).mono ?_;rintro e w'' ⟨rfl,_,A2,m2,s2,c2,f2,v2⟩;refine⟨rfl,Or.inr ⟨h3,rfl,?_⟩⟩;have hg:AQ w B mb m F MV n0 A {s1 with steps:=s1.steps+1,cH:=s1.cH+(if b=true then 1 else 0)} en w'':=⟨A2,m2,s1'.trans s2,(Ch.of_below hX).trans (c1.trans c2),fun i hi hn=>(f2 i hi hi).trans (f1 i hi hn),fun i hi=>⟨fun h=>((v2 i hi).1 hi).trans ((v1 i hi).1 h),fun h=>((v2 i hi).1 hi).trans ((v1 i hi).2 h)⟩⟩
 exact hg.like e1 e2 e3 e4 e5 e6 e7 e8 e9 e10
theorem QL{w:World}{B mb m:Nat}{F:Nat->PF}{MV:Nat->Value}{K:Nat->Nat->Bool}{H:Nat->Nat->Int}{A:Af}{s:Mc}{en:Int}(hM:AH w B mb m F MV A s en)(hF:AP m F K H)(hI:BS m F K H s)(h16:Cw H s)(h0:s.fin=0)(hst:s.steps<=100000)(hcH:s.cH<=100000)(ho:s.out.length<=100000)(hm:s.arr.length<=100000)(k:Nat)(hk:s.fr.length=k+1) :
  Calls prog 104 #[.pointer (some ⟨mb,0,none⟩),.pointer (some ⟨A.FB k,0,none⟩)] w (Jo w B mb m F MV s.fr.length A (AA F s) s.steps s.cH en):=by
 obtain⟨⟨f,rest,hs,hf,hr,hn⟩,hhh,ha,hc⟩:=hI;obtain rfl:k=rest.length:=by rw[hs] at hk;simpa using hk.symm
 have hlow:=hf.low hF;have hleg:=hf.legal hF;have hff:=hF.fn f.fn hf.fn;have hst16:f.stk.length<=16:=by have h1:=h16 f (by rw[hs];exact Ti);have h2:=hf.height;omega
 have hrst:∀ g,g∈rest->g.stk.length<=60:=fun g hg=>by have h1:=h16 g (by rw[hs];exact Tf _ hg);have h2:=(hr g hg).height;omega
 have hpc64:f.pc<=64:=by have h1:=hf.pc;have h2:=hff.cn;omega
 obtain⟨t4,tne,_⟩:=hM.top hs;have hgr:=hM.gear hs;rw[Dw hs];by_cases e10:(F f.fn).op f.pc=10
 ·obtain⟨j0,j1⟩:=DF hleg (Or.inl e10);rw[FG e10];refine Gn hM hs hf.fn hf.pc 10 _ e10 rfl _ true (by decide) (fun _ X hX=>?_) (fun h=>by cases h);have h1:=SN (hM.below hX) hs ((F f.fn).ar f.pc).toNat;rw[show ((((F f.fn).ar f.pc).toNat:Nat):Int)=(F f.fn).ar f.pc by omega] at h1;refine h1.mono ?_;rintro e w' ⟨rfl,g1,k1⟩;exact Or.inr ⟨rfl,Hd hX tne g1 k1 hgr (by show s.steps<=_;omega) (by show s.cH<=_;omega) (by show s.fin<3;omega) rfl rfl rfl rfl rfl rfl rfl rfl rfl rfl⟩
 by_cases e11:(F f.fn).op f.pc=11
 ·obtain⟨j0,j1⟩:=DF hleg (Or.inr e11);rw[e11,show At 11 ((F f.fn).ar f.pc)=1 by simp[At,A6]] at hlow;cases hstk:f.stk with
  |nil=>rw[hstk] at hlow;simp at hlow
  |cons v r =>
   have hlr:r.length+1=f.stk.length:=by rw[hstk];rfl
   rw[Fq e11 hstk];refine Gn hM hs hf.fn hf.pc 11 _ e11 rfl _ true (by decide) (fun _ X hX=>?_) (fun h=>by cases h);have h1:=Pp (hM.below hX) hs hstk (by omega) (hf.stk v (by rw[hstk];exact Ti)).2.2 ((F f.fn).ar f.pc).toNat (by omega);rw[show ((((F f.fn).ar f.pc).toNat:Nat):Int)=(F f.fn).ar f.pc by omega] at h1;refine h1.mono ?_;rintro e w' ⟨rfl,g1,k1⟩;exact Or.inr ⟨rfl,Hd hX tne g1 k1 hgr (by show s.steps<=_;omega) (by show s.cH<=_;omega) (by show s.fin<3;omega) rfl rfl rfl rfl rfl rfl rfl rfl rfl rfl⟩
 by_cases e13:(F f.fn).op f.pc=13
 ·obtain⟨j0,j1⟩:=Fz hleg e13;rw[e13,show At 13 ((F f.fn).ar f.pc)=1+(F f.fn).ar f.pc by simp[At]] at hlow;obtain⟨cnt,hcnt⟩:∃ cnt:Nat,(F f.fn).ar f.pc=cnt:=⟨((F f.fn).ar f.pc).toNat,by omega⟩
  rw[hcnt] at hlow j1;have hct:((F f.fn).ar f.pc).toNat=cnt:=by omega
  cases hd:f.stk.drop cnt with
  |nil =>
   have:=congrArg List.length hd;simp at this;omega
  |cons g r =>
   have hg0:g∈f.stk:=List.mem_of_mem_drop (by rw[hd];exact Ti);have hlen:=congrArg List.length hd;simp only[List.length_drop,Tn] at hlen;have hst2:f.stk=f.stk.take cnt++g::r:=by rw[<-hd,List.take_append_drop]
   rw[Fy e13,hct];refine Gn hM hs hf.fn hf.pc 13 _ e13 hcnt _ true (by decide) (fun _ X hX=>?_) (fun h=>by cases h);have hfun:∀ k,k<m->0<=(F k).locals/\(F k).locals<=8/\(F k).args<=(F k).locals:=fun k hk=>⟨(hF.fn k hk).locals.1,(hF.fn k hk).locals.2,(hF.fn k hk).args.2.1⟩
   have h1:=Q0 (hM.below hX) hs (f.stk.take cnt) r g cnt hst2 (by rw[List.length_take];omega) (by omega) (by omega) (hf.stk g hg0).2.1 hfun (by omega) (by have:=hF.size;omega) hpc64 h0;have hcf:=Kc (F:=F) cnt f rest {s with steps:=s.steps+1,cH:=s.cH+(if s.high.headD false=true then 1 else 0)} h0;have hsame:∀ s2:Mc,(AJ F cnt f rest {s with steps:=s.steps+1,cH:=s.cH+(if s.high.headD false=true then 1 else 0)}).fr=(AJ F cnt f rest s).fr/\(AJ F cnt f rest {s with steps:=s.steps+1,cH:=s.cH+(if s.high.headD false=true then 1 else 0)}).fin=(AJ F cnt f rest s).fin/\(AJ F cnt f rest {s with steps:=s.steps+1,cH:=s.cH+(if s.high.headD false=true then 1 else 0)}).arr=(AJ F cnt f rest s).arr/\(AJ F cnt f rest s).out=s.out/\(AJ F cnt f rest s).gives=s.gives/\(AJ F cnt f rest s).steps=s.steps/\(AJ F cnt f rest {s with steps:=s.steps+1,cH:=s.cH+(if s.high.headD false=true then 1 else 0)}).high=(AJ F cnt f rest s).high/\(AJ F cnt f rest {s with steps:=s.steps+1,cH:=s.cH+(if s.high.headD false=true then 1 else 0)}).made=(AJ F cnt f rest s).made/\(AJ F cnt f rest {s with steps:=s.steps+1,cH:=s.cH+(if s.high.headD false=true then 1 else 0)}).cH=s.cH+(if s.high.headD false=true then 1 else 0)/\(AJ F cnt f rest s).cH=s.cH/\(AJ F cnt f rest {s with steps:=s.steps+1,cH:=s.cH+(if s.high.headD false=true then 1 else 0)}).cU=(AJ F cnt f rest s).cU/\(AJ F cnt f rest {s with steps:=s.steps+1,cH:=s.cH+(if s.high.headD false=true then 1 else 0)}).cD=(AJ F cnt f rest s).cD:=fun _=>by
    unfold AJ;rw[hd];dsimp only;by_cases q1:g.k≠3\/(F g.n.toNat).args≠(cnt:Int)
    ·rw[if_pos q1,if_pos q1];exact⟨rfl,rfl,rfl,rfl,rfl,rfl,rfl,rfl,rfl,rfl,rfl,rfl⟩
    ·rw[if_neg q1,if_neg q1];by_cases q2:24<=rest.length+1
     ·rw[if_pos q2,if_pos q2];exact⟨rfl,rfl,rfl,rfl,rfl,rfl,rfl,rfl,rfl,rfl,rfl,rfl⟩
     ·rw[if_neg q2,if_neg q2];exact⟨rfl,rfl,rfl,rfl,rfl,rfl,rfl,rfl,rfl,rfl,rfl,rfl⟩
   obtain⟨a1,a2,a3,a4,a5,a6,a7,a8,a9,a9',a10,a11⟩:=hsame s;obtain⟨b1,b2,b3,b4,b5⟩:=hcf;refine h1.mono ?_;rintro e w' (⟨k1,rfl,g1⟩|⟨k1,rfl,g1,k2⟩)
   ·refine Or.inl ⟨_,rfl,Or.inl ⟨by rw[a2];exact k1,by rw[a2],?_⟩⟩;obtain⟨A1,m1,s1',c1,f1,v1⟩:=g1;have hg:AQ w B mb m F MV s.fr.length A (AJ F cnt f rest s) en w':=⟨A1,m1,s1',(Ch.of_below hX).trans c1,f1,v1⟩
    exact hg.like a1 a3 (b2.trans a4.symm) (b3.trans a5.symm) a6.symm a7 a8 a9'.symm a10 a11
   ·exact Or.inr ⟨rfl,Hd hX tne g1 k2 hgr (by rw[a6];omega) (by rw[a9'];omega) (by rw[a2,k1];decide) a1 a3 (b2.trans a4.symm) (b3.trans a5.symm) (by rw[b1,a6]) a7 a8 (by rw[a9,a9']) a10 a11⟩
 by_cases e14:(F f.fn).op f.pc=14
 ·rw[e14,show At 14 ((F f.fn).ar f.pc)=1 by simp[At,A6]] at hlow;cases hstk:f.stk with
  |nil=>rw[hstk] at hlow;simp at hlow
  |cons v r =>
   have hlr:r.length+1=f.stk.length:=by rw[hstk];rfl
   rw[Fu e14];refine Gn hM hs hf.fn hf.pc 14 _ e14 rfl _ true (by decide) (fun _ X hX=>?_) (fun h=>by cases h);have h1:=Sh (hM.below hX) hs hstk (by omega) hrst (by omega) ((F f.fn).ar f.pc);refine h1.mono ?_;rintro e w' ⟨rfl,g1,k1⟩;refine Or.inr ⟨rfl,Hd hX tne g1 k1 hgr ?_ ?_ ?_ ?_ ?_ ?_ ?_ ?_ ?_ ?_ ?_ ?_ ?_⟩;all_goals (unfold AT;rw[hstk];cases rest)
   all_goals first|rfl|(dsimp only;omega)
 ·rw[FA e10 e11 e13 e14];have hw:=E9 (f:=f) (out:=s.out) hleg e10 e11 e13 e14 hlow hf.loc hf.stk ha hc;have hx:=Jp ((F f.fn).op f.pc) ((F f.fn).ar f.pc) f s.arr s.out;refine Gn hM hs hf.fn hf.pc _ _ rfl rfl _ false (by simp;omega) (fun h=>by cases h) (fun _ X hX=>?_);have hMX:=hM.below hX;have h1:=R6 X B mb A s en f rest ((F f.fn).op f.pc) ((F f.fn).ar f.pc) m _ _ hleg e10 e11 e13 e14 hlow hf.stk hf.locs (by omega) hMX.lay hs hMX.le ho (by omega) hc;generalize Ak ((F f.fn).op f.pc) ((F f.fn).ar f.pc) f s.arr s.out=x at *;refine h1.mono ?_;rintro e w' ⟨⟨k1,rfl⟩|⟨k1,rfl⟩,g1⟩
  ·obtain⟨A1,l1,q1,c1⟩:=g1;have m1:AH w' B mb m F MV A1 {s with fr:=x.1::rest,arr:=x.2.1,out:=x.2.2.1} en:=hMX.same l1 q1 c1 ⟨by rw[hs];rfl,rfl,rfl,rfl,rfl,rfl⟩;have s1':=Bw.of q1;refine Or.inr ⟨rfl,?_⟩;have hfb:A1.FB rest.length=A.FB rest.length:=Dc q1 _;have hp:=m1.pass (f:=x.1) (rest:=rest) rfl (by show s.steps<=_;omega) (by show s.cH<=_;omega) (by rw[hw.pc];omega) 1 (by omega);rw[hfb] at hp;refine hp.mono ?_;rintro e w'' ⟨rfl,A2,m2,s2,c2,f2,v2⟩;refine⟨rfl,Or.inr ⟨by show x.2.2.2<3;omega,rfl,?_⟩⟩;rw[if_pos k1];have hg:AQ w B mb m F MV s.fr.length A {s with steps:=s.steps+1,cH:=s.cH+(if s.high.headD false=true then 1 else 0),fr:={x.1 with pc:=x.1.pc+1}::rest,arr:=x.2.1,out:=x.2.2.1} en w'':=⟨A2,m2,s1'.trans s2,(Ch.of_below hX).trans (c1.trans c2),fun i hi hn=>(f2 i hi hi).trans (Dc q1 i),fun i hi=>⟨fun h=>((v2 i hi).1 hi).trans (by rw[q1]),fun h=>absurd (show i<rest.length+1 from hi) (by rw[hs] at h;simp at h;omega)⟩⟩
   rw[hw.pc] at hg;exact hg.like rfl rfl rfl rfl rfl rfl rfl rfl rfl rfl
  ·refine Or.inl ⟨_,rfl,Or.inl ⟨by show 3<=x.2.2.2;omega,rfl,?_⟩⟩;rw[if_neg k1];obtain⟨A1,m1,s1',c1,f1,v1⟩:=hMX.aft g1 ⟨by rw[hs];rfl,rfl,rfl,rfl,rfl,rfl⟩;have hg:AQ w B mb m F MV s.fr.length A {s with fr:=x.1::rest,arr:=x.2.1,out:=x.2.2.1} en w':=⟨A1,m1,s1',(Ch.of_below hX).trans c1,f1,v1⟩
   exact hg.like rfl rfl rfl rfl rfl rfl rfl rfl rfl rfl
set_option maxRecDepth 100000
set_option maxHeartbeats 16000000
def Bh(w w':World)(v:Value)(l:List V):Prop:=Ae w' w.heap.size (fun _=>0) 0 43 2 v l.length (Ar l)
def DP(l:List V):List Value:=(List.range (l.length * 2)).map (Ar l)
theorem Jw(w:World)(B:Nat)(tag:Nat->Nat)(c:Nat)(v:Value)(l:List V)(hrow:Ae w B tag c 43 2 v l.length (Ar l))(hl:l.length<=200000) :
  Calls prog 63 #[v] w fun e w'=>∃ v',e=.returned v'/\Below w.heap.size w w'/\Bh w w' v' l:=by
 rcases hrow with⟨rfl,h0⟩|⟨b,cap,cur,rfl,hb,ht,hh,hc,hm,hs,hf⟩
 ·have hnil:=fun wx=>Lib.run_eql_slice_nil (P:=prog) wx 44 43 none 0 0 0 0 underlying44
  have HQ:Hid (Bh w w (.slice none 0 0) l):=Or.inl ⟨rfl,h0⟩;clear h0;go_enter func63,ntmps63
  go_wp2;go_ret;exact⟨_,rfl,Tu _ _,HQ.out⟩
 ·have hnil:=fun wx=>Lib.run_eql_slice_nil (P:=prog) wx 44 43 (some ⟨b,0,none⟩) l.length cap 0 0 underlying44
  have hbz:=Ah hh;obtain⟨inf,hi,hz0,hz1,hz2⟩:∃ i,prog.info? 43=some i/\i.zero=some (.agg #[.int .i64 0,.int .i64 0])/\i.size=2/\i.bytes=16:=by
   obtain⟨i,hi,hzz⟩:=Tp.1 Tryz.info43;simp only[Prod.mk.injEq] at hzz;exact⟨i,hi,hzz.1,hzz.2.1,hzz.2.2⟩
  have hA:Below w.heap.size w (w.alloc (.cells #[] 43)):=(Tu _ _).alloc (Te _) _;by_cases hn:l.length=0
  ·have hrun:=run_append_room_src (P:=prog) (w.alloc (.cells #[] 43)) 44 44 44 43 inf underlying44 hi w.heap.size 0 0 0 (.slice (some ⟨b,0,none⟩) 0 cap) 0 [] (Src.ofSlice _ underlying44 ⟨b,0,none⟩ 0 cap [] (by simp) (by simp) (by simp)) (by omega) (by simp) (by simp);have HR:=Aa hrun;have HQ:Hid (Bh w (w.alloc (.cells #[] 43)) (.slice (some ⟨w.heap.size,0,none⟩) 0 0) l):=by
    unfold Hid Bh;rw[hn];exact Or.inr ⟨w.heap.size,0,#[],rfl,Te _,rfl,Tv _ _,Te _,by unfold maxLen;omega,rfl,fun i hi=>by omega⟩
   have HA:=Aa hA;clear hrun hA hf hs hm hc hh;rw[hn] at hnil ⊢;clear hn;go_enter func63,ntmps63
   go_wp2_with (at_builtin;refine BV _ rfl _ _ 44 rfl _ _ _ _ rfl rfl HR.out ?_)
   go_ret;exact⟨_,rfl,HA.out,HQ.out⟩
  ·have hown:(w.alloc (.cells #[] 43)).ownsRow w.heap.size 43 2 (.slice (some ⟨w.heap.size,0,none⟩) 0 0) 0 [] :=
    ⟨rfl,Or.inr ⟨w.heap.size,0,#[],rfl,Te _,Tv _ _,Te _,by unfold maxLen;omega,rfl,rfl⟩⟩
   have hnews:∀ j u,(DP l)[j]?=some u->(w.alloc (.cells #[] 43)).cell? ((⟨b,0,none⟩:Addr).add j)=some u:=fun j u hu=>by
    have hj:j<l.length * 2:=by have:=(List.getElem?_eq_some_iff.1 hu).1;simpa [DP] using this
    have hu':Ar l j=u:=by simpa [DP,hj] using hu
    rw[Addr.add_lit,Nat.zero_add,<-hu'];exact(hA.cell (p:=⟨b,j,none⟩) hbz).trans ((Ab hh).trans (hf j hj))
   have HO:=Aa (Tc hown (Tc hnews hA));clear hown hnews hA hf hs hm hc hh;generalize hln:l.length=ln at *;have HLN:=Aa hln;clear hln;go_enter func63,ntmps63
   go_wp2_with (at_builtin;refine FS ?_)
   refine⟨?_,trivial⟩;refine wpList_append_lies _ rfl _ _ _ rfl w.heap.size 43 inf _ 2 16 underlying44 hi hz0 hz1 hz2 rfl (by decide) (.slice (some ⟨w.heap.size,0,none⟩) 0 0) 0 [] rfl HO.out.1 ⟨b,0,none⟩ ln cap (DP l) rfl (by simp[DP,HLN.out]) HO.out.2.1 (fun u hu=>by obtain⟨j,_,rfl⟩:=List.mem_map.1 hu;exact I5 l j) (by omega) (by unfold maxLen;omega) (by omega) (by simp) _ rfl ?_;intro g cap2 w2 hown2 hgrow hat hlt;have hB2:Below w.heap.size w w2:=HO.out.2.2.trans ⟨hgrow.os,hgrow.tape,hgrow.output,hgrow.size,fun k hk=>hgrow.block k (by rw[World.size_alloc];omega) (by intro e;have e':some k=some w.heap.size:=e;injection e' with e';omega)⟩;have hQ:Bh w w2 (.slice (some ⟨g,0,none⟩) ln cap2) l:=by
    unfold Bh;rw[HLN.out];have h:=Ae.of_owns (tag:=fun _=>0) (c:=0) (f:=Ar l) hown2 rfl (fun i hi=>by
     rw[List.nil_append];have hi':i<l.length * 2:=by rw[HLN.out];omega
     simp[DP,hi'])
    rw[Nat.zero_add] at h;exact h
   have HQ:=Aa (Tc hB2 hQ);clear hB2 hQ hown2 hgrow hat hlt;go_wp2;go_ret;exact⟨_,rfl,HQ.out⟩
theorem Sr(w:World)(b o B:Nat)(tag:Nat->Nat)(c:Nat)(v:Value)(l:List V)(hc:w.cell? ⟨b,o,none⟩=some v)(hrow:Ae w B tag c 43 2 v l.length (Ar l))(hl:l.length<=200000) :
  Calls prog 65 #[.pointer (some ⟨b,o,none⟩)] w fun e w'=>∃ v',e=.returned v'/\Below w.heap.size w w'/\Bh w w' v' l:=by
 obtain⟨inf,hi,hz0,hz1,hz2⟩:∃ i,prog.info? 43=some i/\i.zero=some (.agg #[.int .i64 0,.int .i64 0])/\i.size=2/\i.bytes=16:=by
  obtain⟨i,hi,hzz⟩:=Tp.1 Tryz.info43;simp only[Prod.mk.injEq] at hzz;exact⟨i,hi,hzz.1,hzz.2.1,hzz.2.2⟩
 by_cases hn:l.length=0
 ·obtain⟨p,cp,hv,_⟩:=hrow.any;rw[hn] at hv;subst hv;have HQ:Hid (Bh w w (.slice none 0 0) l):=Or.inl ⟨rfl,hn⟩;clear hrow hn;rcases p with _|⟨pb,po,pe⟩
  ·go_enter func65,ntmps65
   go_wp2;go_ret;exact⟨_,rfl,Tu _ _,HQ.out⟩
  ·go_enter func65,ntmps65
   go_wp2;go_ret;exact⟨_,rfl,Tu _ _,HQ.out⟩
 ·obtain⟨sb,scap,hv,_,Av,_,_⟩:=hrow.form (by omega);rw[hv] at hrow;subst hv;have hown:w.ownsRow w.heap.size 43 2 (.slice none 0 0) 0 []:=⟨rfl,Or.inl ⟨rfl,rfl⟩⟩
  have hnews:∀ j u,(DP l)[j]?=some u->w.cell? ((⟨sb,0,none⟩:Addr).add j)=some u:=fun j u hu=>by
   have hj:j<l.length * 2:=by have:=(List.getElem?_eq_some_iff.1 hu).1;simpa [DP] using this
   have hu':Ar l j=u:=by simpa [DP,hj] using hu
   rw[Addr.add_lit,Nat.zero_add,<-hu'];exact hrow.cell hj
  have HO:=Aa (Tc hown hnews);clear hown hnews hrow;generalize hln:l.length=ln at *;have HLN:=Aa hln;clear hln;go_enter func65,ntmps65
  go_wp2_with (at_builtin;refine FS ?_)
  refine⟨?_,trivial⟩;refine wpList_append_lies _ rfl _ _ _ rfl w.heap.size 43 inf _ 2 16 underlying44 hi hz0 hz1 hz2 rfl (by decide) (.slice none 0 0) 0 [] rfl HO.out.1 ⟨sb,0,none⟩ ln scap (DP l) rfl (by simp[DP,HLN.out]) HO.out.2 (fun u hu=>by obtain⟨j,_,rfl⟩:=List.mem_map.1 hu;exact I5 l j) (by omega) (by unfold maxLen;omega) (by omega) (Te _) _ rfl ?_;intro g cap2 w2 hown2 hgrow hat hlt;have hB2:Below w.heap.size w w2:=⟨hgrow.os,hgrow.tape,hgrow.output,hgrow.size,fun k hk=>hgrow.block k hk (by intro e;cases e)⟩
  have hQ:Bh w w2 (.slice (some ⟨g,0,none⟩) ln cap2) l:=by
   unfold Bh;rw[HLN.out];have h:=Ae.of_owns (tag:=fun _=>0) (c:=0) (f:=Ar l) hown2 rfl (fun i hi=>by
    rw[List.nil_append];have hi':i<l.length * 2:=by rw[HLN.out];omega
    simp[DP,hi'])
   rw[Nat.zero_add] at h;exact h
  have HQ:=Aa (Tc hB2 hQ);clear hB2 hQ hown2 hgrow hat hlt;go_wp2;go_ret;exact⟨_,rfl,HQ.out⟩
def F1(w w':World)(v:Value)(n:Nat)(FB:Nat->Nat):Prop:=Ae w' w.heap.size (fun _=>0) 0 133 1 v n (CE FB)
theorem Ja(w:World)(b o B:Nat)(tag:Nat->Nat)(c:Nat)(v:Value)(ln:Nat)(FB:Nat->Nat)(hc:w.cell? ⟨b,o,none⟩=some v)(hrow:Ae w B tag c 133 1 v ln (CE FB))(hl:ln<=200000) :
  Calls prog 64 #[.pointer (some ⟨b,o,none⟩)] w fun e w'=>∃ v',e=.returned v'/\Below w.heap.size w w'/\F1 w w' v' ln FB:=by
 obtain⟨inf,hi,hz0,hz1,hz2⟩:∃ i,prog.info? 133=some i/\i.zero=some (.pointer none)/\i.size=1/\i.bytes=8:=by
  obtain⟨i,hi,hzz⟩:=Tp.1 Tryz.infoPtr;simp only[Prod.mk.injEq] at hzz;exact⟨i,hi,hzz.1,hzz.2.1,hzz.2.2⟩
 by_cases hn:ln=0
 ·obtain⟨p,cp,hv,_⟩:=hrow.any;rw[hn] at hv;subst hv;have HQ:Hid (F1 w w (.slice none 0 0) ln FB):=Or.inl ⟨rfl,hn⟩;clear hrow hn;rcases p with _|⟨pb,po,pe⟩
  ·go_enter func64,ntmps64
   go_wp2;go_ret;exact⟨_,rfl,Tu _ _,HQ.out⟩
  ·go_enter func64,ntmps64
   go_wp2;go_ret;exact⟨_,rfl,Tu _ _,HQ.out⟩
 ·obtain⟨sb,scap,hv,_,Av,_,_⟩:=hrow.form (by omega);rw[hv] at hrow;subst hv;have hown:w.ownsRow w.heap.size 133 1 (.slice none 0 0) 0 []:=⟨rfl,Or.inl ⟨rfl,rfl⟩⟩
  have hnews:∀ j u,((List.range ln).map (CE FB))[j]?=some u->w.cell? ((⟨sb,0,none⟩:Addr).add j)=some u:=fun j u hu=>by
   have hj:j<ln:=by have:=(List.getElem?_eq_some_iff.1 hu).1;simpa using this
   have hu':CE FB j=u:=by simpa [hj] using hu
   rw[Addr.add_lit,Nat.zero_add,<-hu'];exact hrow.cell (by omega)
  have HO:=Aa (Tc hown hnews);clear hown hnews hrow;go_enter func64,ntmps64
  go_wp2_with (at_builtin;refine FS ?_)
  refine⟨?_,trivial⟩;refine wpList_append_lies _ rfl _ _ _ rfl w.heap.size 133 inf _ 1 8 underlying126 hi hz0 hz1 hz2 rfl (by decide) (.slice none 0 0) 0 [] rfl HO.out.1 ⟨sb,0,none⟩ ln scap ((List.range ln).map (CE FB)) rfl (by simp) HO.out.2 (fun u hu=>by obtain⟨j,_,rfl⟩:=List.mem_map.1 hu;rfl) (by omega) (by unfold maxLen;omega) (by omega) (Te _) _ rfl ?_;intro g cap2 w2 hown2 hgrow hat hlt;have hB2:Below w.heap.size w w2:=⟨hgrow.os,hgrow.tape,hgrow.output,hgrow.size,fun k hk=>hgrow.block k hk (by intro e;cases e)⟩
  have hQ:F1 w w2 (.slice (some ⟨g,0,none⟩) ln cap2) ln FB:=by
   unfold F1;have h:=Ae.of_owns (tag:=fun _=>0) (c:=0) (f:=CE FB) hown2 rfl (fun i hi=>by
    rw[List.nil_append];have hi':i<ln:=by omega
    simp[hi'])
   rw[Nat.zero_add] at h;exact h
  have HQ:=Aa (Tc hB2 hQ);clear hB2 hQ hown2 hgrow hat hlt;go_wp2;go_ret;exact⟨_,rfl,HQ.out⟩
theorem SM(op a:Int)(f:Fr)(arr:List (List V))(out:List V):(Ak op a f arr out).2.1.length<=arr.length+1/\(Ak op a f arr out).2.2.1.length<=out.length+1:=by
 have t0:∀ (g:Fr) (ar:List (List V)) (t:Int),ar.length<=arr.length+1->((g,ar,out,t):Fr × List (List V) × List V × Int).2.1.length<=arr.length+1/\((g,ar,out,t):Fr × List (List V) × List V × Int).2.2.1.length<=out.length+1:=fun _ _ _ h=>⟨h,by dsimp only;omega⟩
 unfold Ak;by_cases e:op=0
 ·rw[if_pos e];exact t0 _ _ _ (by simp)
 rw[if_neg e];clear e;by_cases e:op=1
 ·rw[if_pos e];exact t0 _ _ _ (by simp)
 rw[if_neg e];clear e;by_cases e:op=12
 ·rw[if_pos e];exact t0 _ _ _ (by simp)
 rw[if_neg e];clear e;by_cases e:op=2
 ·rw[if_pos e];exact t0 _ _ _ (by simp)
 rw[if_neg e];clear e;cases f with
 |mk fn pc loc stk =>
 cases stk with
 |nil=>exact t0 _ _ _ (by simp)
 |cons x r =>
 dsimp only;by_cases e:op=3
 ·rw[if_pos e];exact t0 _ _ _ (by simp)
 rw[if_neg e];clear e;by_cases e:op=19
 ·rw[if_pos e];exact⟨by dsimp only;omega,by simp⟩
 rw[if_neg e];clear e;by_cases e:op=20
 ·rw[if_pos e];exact t0 _ _ _ (by simp)
 rw[if_neg e];clear e;by_cases e:op=21
 ·rw[if_pos e];exact t0 _ _ _ (by simp)
 rw[if_neg e];clear e;by_cases e:op=15
 ·rw[if_pos e];by_cases e:x.k≠1
  ·rw[if_pos e];exact t0 _ _ _ (by simp)
  rw[if_neg e];clear e;by_cases e:x.n<0
  ·rw[if_pos e];exact t0 _ _ _ (by simp)
  rw[if_neg e];clear e;by_cases e:200-AL arr<x.n
  ·rw[if_pos e];exact t0 _ _ _ (by simp)
  rw[if_neg e];exact t0 _ _ _ (by simp)
 rw[if_neg e];clear e;by_cases e:op=18
 ·rw[if_pos e];by_cases e:x.k≠2
  ·rw[if_pos e];exact t0 _ _ _ (by simp)
  rw[if_neg e];exact t0 _ _ _ (by simp)
 rw[if_neg e];clear e;cases r with
 |nil=>exact t0 _ _ _ (by simp)
 |cons y q =>
 dsimp only;by_cases e:op=16
 ·rw[if_pos e];by_cases e:AS arr y x=0
  ·rw[if_pos e];exact t0 _ _ _ (by simp)
  rw[if_neg e];exact t0 _ _ _ (by simp)
 rw[if_neg e];clear e;by_cases e:op=17
 ·rw[if_pos e];cases q with
  |nil=>exact t0 _ _ _ (by simp)
  |cons z p =>
  dsimp only;by_cases e:AS arr z y=0
  ·rw[if_pos e];exact t0 _ _ _ (by simp)
  rw[if_neg e];exact t0 _ _ _ (by simp)
 rw[if_neg e];clear e;by_cases e:(AE op y x).2=0
 ·rw[if_pos e];exact t0 _ _ _ (by simp)
 rw[if_neg e];exact t0 _ _ _ (by simp)
section
variable {F:Nat->PF}
theorem On(A:Nat)(f:Fr)(rest:List Fr)(s:Mc):(AJ F A f rest s).arr=s.arr:=by
 unfold AJ;repeat' split
 all_goals rfl
theorem LG(f:Fr)(rest:List Fr)(s:Mc):(AT f rest s).arr=s.arr/\(AT f rest s).out=s.out:=by
 unfold AT;repeat' split
 all_goals exact⟨rfl,rfl⟩
theorem NZ(A:Nat)(f:Fr)(rest:List Fr)(s:Mc):(AJ F A f rest s).out=s.out:=by
 unfold AJ;repeat' split
 all_goals rfl
theorem Jk{s:Mc}{f:Fr}{rest:List Fr}(hs:s.fr=f::rest):(AA F s).arr.length<=s.arr.length+1/\(AA F s).out.length<=s.out.length+1:=by
 rw[Dw hs];by_cases e10:(F f.fn).op f.pc=10
 ·rw[FG e10];exact⟨Nat.le_succ _,Nat.le_succ _⟩
 by_cases e11:(F f.fn).op f.pc=11
 ·cases hst:f.stk with
  |nil =>
   unfold CG;dsimp only;rw[if_neg e10,if_pos e11,hst];exact⟨Nat.le_succ _,Nat.le_succ _⟩
  |cons v r =>
   rw[Fq e11 hst];exact⟨Nat.le_succ _,Nat.le_succ _⟩
 by_cases e13:(F f.fn).op f.pc=13
 ·rw[Fy e13,On,NZ];exact⟨Nat.le_succ _,Nat.le_succ _⟩
 by_cases e14:(F f.fn).op f.pc=14
 ·rw[Fu e14,(LG _ _ _).1,(LG _ _ _).2];exact⟨Nat.le_succ _,Nat.le_succ _⟩
 ·rw[FA e10 e11 e13 e14];exact SM _ _ _ _ _
theorem IX{s:Mc}{f:Fr}{rest:List Fr}(hs:s.fr=f::rest)(h0:s.fin=0)(h3:3<=(AA F s).fin):∃ f',(AA F s).fr=f'::rest:=by
 rw[Dw hs] at h3 ⊢;by_cases e10:(F f.fn).op f.pc=10
 ·rw[FG e10];exact⟨_,rfl⟩
 by_cases e11:(F f.fn).op f.pc=11
 ·cases hst:f.stk with
  |nil =>
   unfold CG at h3;dsimp only at h3;rw[if_neg e10,if_pos e11,hst] at h3;dsimp only at h3;omega
  |cons v r =>
   rw[Fq e11 hst];exact⟨_,rfl⟩
 by_cases e13:(F f.fn).op f.pc=13
 ·rw[Fy e13] at h3 ⊢;unfold AJ at h3 ⊢;cases hd:f.stk.drop ((F f.fn).ar f.pc).toNat with
  |nil =>
   rw[hd] at h3;dsimp only at h3;omega
  |cons g r =>
   rw[hd] at h3;dsimp only at h3 ⊢;by_cases q1:g.k≠3\/(F g.n.toNat).args≠(((F f.fn).ar f.pc).toNat:Int)
   ·rw[if_pos q1];exact⟨_,rfl⟩
   ·rw[if_neg q1] at h3 ⊢;by_cases q2:24<=rest.length+1
    ·rw[if_pos q2];exact⟨_,rfl⟩
    ·rw[if_neg q2] at h3;dsimp only at h3;omega
 by_cases e14:(F f.fn).op f.pc=14
 ·rw[Fu e14] at h3;unfold AT at h3;cases hst:f.stk with
  |nil =>
   rw[hst] at h3;dsimp only at h3;omega
  |cons v r =>
   rw[hst] at h3;cases rest with
   |nil=>dsimp only at h3;omega
   |cons g0 r0=>dsimp only at h3;omega
 ·rw[FA e10 e11 e13 e14];exact⟨_,rfl⟩
structure Pt (m:Nat) (F:Nat->PF) (K:Nat->Nat->Bool) (H:Nat->Nat->Int) (S:Nat->Mc):Prop where
 first:(S 0).fin=0
 go:∀ j,(S j).fin=0->BS m F K H (S j)/\Cw H (S j)/\(S j).steps=j/\(S j).out.length<=j/\(S j).arr.length<=j/\S (j+1)=AA F (S j)
 stay:∀ j k,(S j).fin≠0->j<=k->S k=S j
 fin:∀ j,(S j).fin=0\/(S j).fin=1\/(3<=(S j).fin/\(S j).fin<=8)
 fr:∀ j,(S j).fr=[]↔(S j).fin=1
theorem Fj{m:Nat}{K:Nat->Nat->Bool}{H:Nat->Nat->Int}(hF:AP m F K H):BS m F K H (AC F)/\Cw H (AC F):=by
 have h0:=hF.fn 0 hF.size.1;refine⟨⟨⟨_,[],rfl,⟨hF.size.1,?_,h0.closed.first.1,?_,?_,?_,(fun v hv=>by cases hv)⟩,(fun g hg=>by cases hg),(by simp)⟩,rfl,(fun l hl=>by cases hl),(by simp[AC,AL])⟩,?_⟩
 ·have:=h0.cn;show 0<(F 0).cn;omega
 ·have:=h0.locals;show ((List.replicate (F 0).locals.toNat As).length:Int)=(F 0).locals;rw[List.length_replicate];omega
 ·show ((([]:List V).length:Nat):Int)+0=H 0 0;rw[h0.closed.first.2];rfl
 ·intro v hv;rw[(List.mem_replicate.1 hv).2];exact F5 _ _
 ·intro g hg;obtain rfl:g={fn:=0,pc:=0,loc:=List.replicate (F 0).locals.toNat As,stk:=[]}:=by simpa [AC] using hg
  show H 0 0<=16;rw[h0.closed.first.2];decide
theorem SC{m:Nat}{K:Nat->Nat->Bool}{H:Nat->Nat->Int}(hF:AP m F K H):Pt m F K H (AY F (AC F)):=by
 obtain⟨hI,h16⟩:=Fj hF;have hA:=Li hF hI rfl rfl rfl;have hs:∀ j,(AY F (AC F) j).fin=0->AY F (AC F) (j+1)=AA F (AY F (AC F) j):=fun j hz=>by
  show (if _ then _ else _)=_;rw[if_pos hz]
 have hx:∀ j,(AY F (AC F) j).fin=0->Cw H (AY F (AC F) j)/\(AY F (AC F) j).out.length<=j/\(AY F (AC F) j).arr.length<=j:=by
  intro j;induction j with
  |zero=>exact fun _=>⟨h16,Tt _,Tt _⟩
  |succ j ih =>
   intro hz;by_cases hy:(AY F (AC F) j).fin=0
   ·obtain⟨i1,i2,i3⟩:=ih hy;have hi:=((hA j).inv hy).1;rw[hs j hy] at hz ⊢;obtain⟨f,rest,hfr,_⟩:=hi.top;obtain⟨z1,z2⟩:=Jk (F:=F) hfr;exact⟨FP hF hi i1 hz,by omega,by omega⟩
   ·rw[show AY F (AC F) (j+1)=AY F (AC F) j from Jf hy 1] at hz;exact absurd hz hy
 refine⟨rfl,fun j hz=>?_,fun j k hz hk=>?_,fun j=>(hA j).fin,fun j=>(hA j).fr⟩
 ·obtain⟨i1,i2,i3⟩:=hx j hz;exact⟨((hA j).inv hz).1,i1,((hA j).inv hz).2,i2,i3,hs j hz⟩
 ·have:=Jf hz (k-j);rw[show j+(k-j)=k by omega] at this;exact this
end
end Go.Proofs.YtkafkipjedpohaaGreatDoor

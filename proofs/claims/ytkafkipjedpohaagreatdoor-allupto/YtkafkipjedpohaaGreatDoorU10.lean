import Derived.Test.YtkafkipjedpohaaGreatDoorM15
namespace Go.Proofs.YtkafkipjedpohaaGreatDoor
set_option maxRecDepth 100000
set_option maxHeartbeats 16000000
open Go.RowKit _root_.Go.Proofs.Tryz
def El(f:PF)(n i:Nat):Bool:=(List.range n).any fun k=>decide (i<=k)&&CP f i k
theorem JF(f:PF)(n i:Nat):El f (n+1) i=(El f n i || (decide (i<=n)&&CP f i n)):=by
 unfold El;rw[List.range_succ,List.any_append];simp
theorem PU(f:PF)(i:Nat):El f f.cn i=CB f i:=by
 unfold El CB;congr 1;funext k;unfold CP;by_cases h1:i<=k
 ·by_cases h2:f.op k=10\/f.op k=11
  ·by_cases h3:f.ar k=(i:Int)
   ·have h2':(f.op k==10 || f.op k==11)=true:=by simpa using h2
    simp[h1,h2,h3,h2']
   ·simp[h1,h3]
  ·have h2':(f.op k==10 || f.op k==11)=false:=by simpa using h2
   simp[h2,h2']
 ·simp[h1]
theorem IN(op:Int)(w:World):Calls prog 69 #[.int .i64 op] w fun e w'=>e=.returned (.bool (op==10 || op==11))/\w'=w:=by
 cases h10:(op==10:Bool)
 ·cases h11:(op==11:Bool)
  ·go_enter func69,ntmps69
   go_wp2;go_ret;exact⟨rfl,rfl⟩
  ·go_enter func69,ntmps69
   go_wp2;go_ret;exact⟨rfl,rfl⟩
 ·go_enter func69,ntmps69
  go_wp2;go_ret;exact⟨rfl,rfl⟩
def Dr(w wr:World)(f:PF)(n:Nat):Prop :=
 Below w.heap.size w wr/\∃ cur:Array Value,wr.heap[w.heap.size]?=some (.cells cur 4 (0,0))/\cur.size=f.cn/\∀ i,i<f.cn->cur[i]?=some (.bool (El f n i))
section
variable {w wr:World}{f:PF}{n:Nat}
theorem Dr.box(h:Dr w wr f n)(o:Obj):Dr w (wr.alloc o) f n:=by
 obtain⟨hB,cur,h1,h2⟩:=h;exact⟨hB.alloc hB.size o,cur,(Ty _ _ _ (Ah h1)).trans h1,h2⟩
theorem Dr.skip(h:Dr w wr f n)(hno:∀ i,i<f.cn->(decide (i<=n)&&CP f i n)=false):Dr w wr f (n+1):=by
 obtain⟨hB,cur,h1,h2,h3⟩:=h;exact⟨hB,cur,h1,h2,fun i hi=>by rw[h3 i hi,JF,hno i hi,Bool.or_false]⟩
theorem Dr.mark{a:Nat}(h:Dr w wr f n)(ha:f.ar n=(a:Int))(hj:(f.op n==10 || f.op n==11)=true)(hle:a<=n):Dr w (wr.setCell ⟨w.heap.size,a,none⟩ (.bool true)) f (n+1):=by
 obtain⟨hB,cur,h1,h2,h3⟩:=h;refine⟨hB.setCell (Te _) _,cur.setIfInBounds a (.bool true),AM h1 _,by simpa using h2,fun i hi=>?_⟩;rw[Array.getElem?_setIfInBounds];by_cases e:a=i
 ·subst e;rw[if_pos rfl,if_pos (by omega),JF];have:(decide (a<=n)&&CP f a n)=true:=by unfold CP;rw[hj,ha];simp[hle]
  rw[this,Bool.or_true]
 ·rw[if_neg e,h3 i hi,JF];have:(decide (i<=n)&&CP f i n)=false:=by
   unfold CP;have:(f.ar n==(i:Int))=false:=by rw[ha];simp;omega
   rw[this];simp
  rw[this,Bool.or_false]
theorem LW(w:World)(cb co cc:Nat)(f:PF)(hc:BB w cb co f.cn f.op f.ar)(hcb:cb<w.heap.size)(hn:f.cn<=64)(hleg:∀ k,k<f.cn->(f.op k=10\/f.op k=11)->0<=f.ar k/\f.ar k<f.cn) :
  Calls prog 47 #[.slice (some ⟨cb,co,none⟩) f.cn cc] w fun e w'=>∃ v,e=.returned v/\Ae w' w.heap.size (fun _=>0) 0 3 1 v (BC f f.cn).length (Dm (BC f f.cn))/\Below w.heap.size w w':=by
 have hmk4:∀ wx:World,(Instr.makeSlice 142 (.int .i64 (f.cn:Int)) (.int .i64 (f.cn:Int))).run prog wx=.ok (.slice (some ⟨wx.heap.size,0,none⟩) f.cn f.cn) (wx.alloc (.cells (CW f.cn) 4)) :=
  fun wx=>run_make_row' (P:=prog) 142 4 _ 1 underlying142 Tryz.info4 rfl .i64 .i64 f.cn (by omega) (by omega) wx
 have HC:=Aa (Tc hc hleg);have hst:Dr w (w.alloc (.cells (CW f.cn) 4)) f 0:=by
  refine⟨(Tu _ _).alloc (Te _) _,CW f.cn,Tv _ _,by simp[CW,size_madeCells],fun i hi=>?_⟩;have e1:i % 1=0:=by omega
  simp[CW,madeCells,hi,El,e1]
 have HS:=Aa hst;clear hc hleg hst;go_enter func47,ntmps47
 go_wp2;go_loopw [13] (fun v wr=>∃ k:Nat,k<=f.cn/\v=.int .i64 k/\Dr w wr f k) (fun v _=>f.cn-(intOf v).toNat)
 case atStart=>exact⟨0,Tt _,rfl,HS.out⟩
 case round =>
  clear HS hmk4;obtain⟨k,hk,rfl,hM⟩:=hrel;by_cases hlt:k<f.cn
  ·have hd:decide ((k:Int)<(f.cn:Int))=true:=by simp;omega
   obtain⟨c0,c1⟩:=HC.out.1 k hlt;replace c0:=(hM.1.cell (p:=⟨cb,_,none⟩) hcb).trans c0;replace c1:=(hM.1.cell (p:=⟨cb,_,none⟩) hcb).trans c1;have hcbr:cb<wr.heap.size:=Ts hcb hM.1.size;have hwz:w.heap.size<wr.heap.size:=Ah hM.2.choose_spec.1;have hlg:=HC.out.2 k hlt;have HM:=Aa hM;have ho:Hid (∀ i,(decide (i<=k)&&CP f i k)=(decide (i<=k)&&((f.op k==10 || f.op k==11)&&f.ar k==(i:Int)))):=fun _=>rfl
   have HA:=Aa (fun a=>hM.mark (a:=a));generalize hop:f.op k=op at *;generalize har:f.ar k=ar at *;have HO:=Aa (Tc hop har);clear hM hop har;by_cases hj:(op==10 || op==11)=true
   ·have hl2:=hlg (by simpa using hj);obtain⟨a,rfl⟩:∃ a:Nat,ar=a:=⟨ar.toNat,by omega⟩
    by_cases hle:a<=k
    ·have hdl:decide ((a:Int)<=(k:Int))=true:=by simpa using hle
     obtain⟨_,cur,h1,h2,h3⟩:=HM.out;have y0:wr.cell? ⟨w.heap.size,a,none⟩=some (.bool (El f k a)):=(Ab h1).trans (h3 a (by omega));have z0:wr.frozen? ⟨w.heap.size,a,none⟩=false:=Ax h1;have i0:(0:Int)<=(a:Int):=by omega
     have i1:(a:Int)<(f.cn:Int):=by omega
     have HN:=Aa ((HA.out a rfl hj hle).box (.cells #[.int .i64 op,.int .i64 a] 33));generalize El f k a=u0 at y0;clear h1 h2 h3 hlg;go_wp2_with fail
     refine(IN op _).mono ?_;rintro e w' ⟨rfl,rfl⟩;rw[hj];go_wp2;exact⟨⟨k+1,by omega,by go_num,HN.out⟩,by simp[intOf];omega⟩
    ·have hdl:decide ((a:Int)<=(k:Int))=false:=by simp;omega
     have HN:=Aa ((HM.out.skip (fun i hi=>by
      rw[ho.out];by_cases e:i=a
      ·subst e;simp;omega
      ·have:((a:Int)==(i:Int))=false:=by simp;omega
       rw[this];simp)).box (.cells #[.int .i64 op,.int .i64 a] 33))
     clear hlg;go_wp2_with fail
     refine(IN op _).mono ?_;rintro e w' ⟨rfl,rfl⟩;rw[hj];go_wp2;exact⟨⟨k+1,by omega,by go_num,HN.out⟩,by simp[intOf];omega⟩
   ·have hj2:(op==10 || op==11)=false:=by simpa using hj
    have HN:=Aa ((HM.out.skip (fun i hi=>by rw[ho.out,hj2];simp)).box (.cells #[.int .i64 op,.int .i64 ar] 33));clear hlg hj;go_wp2_with fail
    refine(IN op _).mono ?_;rintro e w' ⟨rfl,rfl⟩;rw[hj2];go_wp2;exact⟨⟨k+1,by omega,by go_num,HN.out⟩,by simp[intOf];omega⟩
  ·have hd:decide ((k:Int)<(f.cn:Int))=false:=by simp;omega
   obtain rfl:k=f.cn:=by omega
   have HM:=Aa hM;clear hM;go_wp2;go_loopw [6,34] (fun o v wz=>∃ j:Nat,j<=f.cn/\v=.int .i64 j/\Dr w wz f f.cn/\∃ t:Nat->Nat,t w.heap.size=1/\Ae wz w.heap.size t 0 3 1 o (BC f j).length (Dm (BC f j))) (fun _ v _=>f.cn-(intOf v).toNat)
   case atStart=>exact⟨0,Tt _,rfl,HM.out,fun _=>1,rfl,Ae.nil _ _ _ _ _ _ _⟩
   case round =>
    clear HM;obtain⟨j,hj,rfl,hM,t,ht,hR⟩:=hrel;by_cases hlt:j<f.cn
    ·have hd:decide ((j:Int)<(f.cn:Int))=true:=by simp;omega
     obtain⟨hB,cur,h1,h2,h3⟩:=hM;have y0:wr.cell? ⟨w.heap.size,j,none⟩=some (.bool (El f f.cn j)):=(Ab h1).trans (h3 j hlt);rw[PU] at y0;have i0:(0:Int)<=(j:Int):=by omega
     have i1:(j:Int)<(f.cn:Int):=by omega
     have hwz:w.heap.size<wr.heap.size:=Ah h1;have HM:=Aa (show Dr w wr f f.cn from ⟨hB,cur,h1,h2,h3⟩);have HR:=Aa (Tc ht hR);clear hB h1 h2 h3 ht hR;cases hdh:CB f j with
     |true =>
      rw[hdh] at y0;have hsucc:Hid (BC f (j+1)=BC f j++[j]):=by unfold Hid;rw[He,hdh];rfl
      clear hdh;obtain⟨inf,hi,hz0,hz1,hz2⟩:∃ i,prog.info? 3=some i/\i.zero=some (.int .i64 0)/\i.size=1/\i.bytes=8:=by
       obtain⟨i,hi,hzz⟩:=Tp.1 Tryz.infoInt;simp only[Prod.mk.injEq] at hzz;exact⟨i,hi,hzz.1,hzz.2.1,hzz.2.2⟩
      have hl:=In f j;have hwb:w.heap.size<=wr.heap.size:=by omega
      go_wp2_with (at_builtin;refine wpList_append_lies _ rfl _ _ _ rfl w.heap.size 3 inf _ 1 8 underlying66 hi hz0 hz1 hz2 rfl (by decide) _ (BC f j).length _ rfl (HR.out.2.owns.alloc _) ⟨wr.heap.size,0,none⟩ 1 1 [.int .i64 j] rfl rfl (World.news_of_block (Tv wr _)) (by intro u hu;simp at hu;subst hu;rfl) (by omega) (by unfold maxLen;omega) (by omega) (by simp;omega) (wr.heap.size+1) (by simp) ?_;intro g cap w3 hown hgrow hat hlt3)
      have hX:Ch w.heap.size (fun _=>False) t t wr (wr.alloc (.cells #[.int .i64 j] 3)):=Ch.of_below ((Tu _ _).alloc (Te _) _);obtain⟨tag',hst,hgc⟩:=(HR.out.2.keep hX (fun h=>h)).grew hown hgrow (by rcases hat with h|h;exact Or.inl h;right;rw[h];simp) rfl;have HN:=Aa (show Dr w w3 f f.cn/\∃ t:Nat->Nat,t w.heap.size=1/\Ae w3 w.heap.size t 0 3 1 (.slice (some ⟨g,0,none⟩) ((BC f j).length+1) cap) ((BC f j).length+1) (Dm (BC f j++[j])) from by
       obtain⟨hB,cur,h1,h2,h3⟩:=HM.out;have hc2:=(hX.mono (q:=fun d=>d=0) (fun _ h=>h.elim)).trans hgc;refine⟨⟨hB.trans (hc2.below hwb),cur,(hc2.block _ hwz (Or.inr (by rw[HR.out.1];omega))).trans h1,h2,h3⟩,tag',(hc2.tags _ hwz).trans HR.out.1,hst.congr (fun i hi=>MF _ _ i (by omega))⟩)
      clear hX hst hgc hown hgrow;go_roundw
      case rel=>exact⟨j+1,by omega,by go_num,HN.out.1,by rw[hsucc.out,List.length_append];exact HN.out.2⟩
      case measure=>simp[intOf];omega
     |false =>
      rw[hdh] at y0;have hsucc:Hid (BC f (j+1)=BC f j):=by unfold Hid;rw[He,hdh];simp
      go_wp2;go_roundw
      case rel=>exact⟨j+1,by omega,by go_num,HM.out,t,HR.out.1,by rw[hsucc.out];exact HR.out.2⟩
      case measure=>simp[intOf];omega
    ·have hd:decide ((j:Int)<(f.cn:Int))=false:=by simp;omega
     obtain rfl:j=f.cn:=by omega
     have HQ:=Aa (Tc hR.untag hM.1);clear hM hR ht;go_wp2;go_ret;exact⟨_,rfl,HQ.out⟩
end
def Es(q j:Nat)(f:Nat->Value)(i:Nat):Value:=if i<j * 2 then DB q (i % 2) else f i
theorem SK(q j:Nat)(f:Nat->Value)(i:Nat):Ac (Ac (Es q j f) (j * 2) (.int .i64 (Cs q))) (j * 2+1) (.int .i64 0) i=Es q (j+1) f i:=by
 by_cases h1:i=j * 2+1
 ·subst h1;rw[Au];unfold Es DB;rw[if_pos (by omega),if_neg (by omega)]
 ·rw[Ao _ _ _ _ h1];by_cases h2:i=j * 2
  ·subst h2;rw[Au];unfold Es DB;rw[if_pos (by omega),if_pos (by omega)]
  ·rw[Ao _ _ _ _ h2];unfold Es;by_cases h3:i<j * 2
   ·rw[if_pos h3,if_pos (by omega)]
   ·rw[if_neg h3,if_neg (by omega)]
def KZ(w:World)(B:Nat)(t:Nat->Nat)(c:Nat)(lv:Value)(nl q j:Nat)(f:Nat->Value)(mv:Int)(wr:World):Prop :=
 Ae wr B t c 43 2 lv nl (Es q j f)/\Ch B (fun d=>d=c) t t (w.alloc (.cells #[.int .i64 mv,.int .i64 0] 43)) wr
theorem B5{P:Program}{w:World}{ops:Array Oper}{rest:List Oper}{o:Oper}{a:Act}{Q:Exit->Act->World->Prop}(_hg:o.guard=none)(x y:Operand)(t:TypeId)(_hop:o.op=Op.call {callee:=Callee.builtin Builtin.append,args:=#[x,y],argTypes:=#[t,t]})
  (h:wpList P ops Q (o::rest) a w/\True):wpList P ops Q (o::rest) a w:=h.1
theorem JP(q:Nat)(mv:Int)(hm:Cs q=mv)(k:Nat)(hk:k=1\/k=2\/k=3):∃ news:List Value,news=(if k=1 then [.int .i64 mv,.int .i64 0] else if k=2 then [.int .i64 mv,.int .i64 0,.int .i64 mv,.int .i64 0] else [.int .i64 mv,.int .i64 0,.int .i64 mv,.int .i64 0,.int .i64 mv,.int .i64 0])/\news.length=k * 2/\(∀ r,r<k * 2->news[r]?=some (DB q (r % 2)))/\∀ u,u∈news->u.oneCell'=true:=by
 have hr:∀ r,r % 2=0\/r % 2=1:=fun r=>by omega
 have v0:DB q 0=.int .i64 mv:=by unfold DB;rw[if_pos rfl,hm]
 have v1:DB q 1=.int .i64 0:=rfl;rcases hk with rfl|rfl|rfl
 ·refine⟨_,rfl,rfl,fun r hr=>?_,fun u hu=>?_⟩
  ·have:r=0\/r=1:=by omega
   rcases this with rfl|rfl
   ·exact congrArg some v0.symm
   ·exact congrArg some v1.symm
  ·simp at hu;rcases hu with rfl|rfl<;>rfl
 ·refine⟨_,rfl,rfl,fun r hr=>?_,fun u hu=>?_⟩
  ·have:r=0\/r=1\/r=2\/r=3:=by omega
   rcases this with rfl|rfl|rfl|rfl
   ·exact congrArg some v0.symm
   ·exact congrArg some v1.symm
   ·exact congrArg some v0.symm
   ·exact congrArg some v1.symm
  ·simp at hu;rcases hu with rfl|rfl|rfl|rfl<;>rfl
 ·refine⟨_,rfl,rfl,fun r hr=>?_,fun u hu=>?_⟩
  ·have:r=0\/r=1\/r=2\/r=3\/r=4\/r=5:=by omega
   rcases this with rfl|rfl|rfl|rfl|rfl|rfl
   ·exact congrArg some v0.symm
   ·exact congrArg some v1.symm
   ·exact congrArg some v0.symm
   ·exact congrArg some v1.symm
   ·exact congrArg some v0.symm
   ·exact congrArg some v1.symm
  ·simp at hu;rcases hu with rfl|rfl|rfl|rfl|rfl|rfl<;>rfl
def EB(w:World)(B:Nat)(A:AN)(Kd:Nat->Prop)(q:Nat):Prop:=A.XB q<w.heap.size/\B<=A.XB q/\Kd (A.tag (A.XB q))/\w.cell? ⟨A.XB q,0,none⟩=some (.int .i64 (Cs q))/\w.cell? ⟨A.XB q,1,none⟩=some (.int .i64 0)
theorem EB.keep{w w':World}{B:Nat}{A A':AN}{Kd p:Nat->Prop}{q:Nat}(h:EB w B A Kd q)(k:Ch B p A.tag A'.tag w w')(hp:∀ d,Kd d->¬p d)(hx:A'.XB=A.XB):EB w' B A' Kd q:=by
 obtain⟨h1,h2,h3,h4,h5⟩:=h;unfold EB;rw[hx];have ht:=k.tags _ h1;exact⟨Ts h1 k.size,h2,by rw[ht];exact h3,(k.cell (a:=⟨A.XB q,0,none⟩) h1 (hp _ h3)).trans h4,(k.cell (a:=⟨A.XB q,1,none⟩) h1 (hp _ h3)).trans h5⟩
theorem AZ.four{w:World}{B wb:Nat}{A:AN}{Kd:Nat->Prop}{n:Nat->Nat}(h:AZ w B wb A Kd n)(k:Nat)(hk:k<4)(q:Nat)(hX:k=2->EB w B A Kd q)(hq:n k=4 * q)(hq2:q<=1000000000000)(vp:Option Addr)(vc:Nat)(hv:A.hv k=.slice vp (4 * q) vc)(a b c d:Value)(eT ty:TypeId)
  (ha:Ck w B A.tag Kd (Av k) a (Dz A.XB k q)) (hb:Ck w B A.tag Kd (Av k) b (Dz A.XB k q)) (hc:Ck w B A.tag Kd (Av k) c (Dz A.XB k q)) (hd:Ck w B A.tag Kd (Av k) d (Dz A.XB k q)) :
  ∃ g1 c1 w1,(Builtin.append_ #[hS k,hS k] ty #[.slice vp (4 * q) vc,.slice (some ⟨w.heap.size,0,none⟩) 1 1]).run prog (w.alloc (.cells #[a] eT))=.ok (.slice (some ⟨g1,0,none⟩) (4 * q+1) c1) w1/\w1.cell? ⟨wb,2+k,none⟩=some (.slice vp (4 * q) vc)/\w1.frozen? ⟨wb,2+k,none⟩=false/\(∀ b,b<w.heap.size->A.tag b≠5+k->w1.heap[b]?=w.heap[b]?) /\
  ∃ W1,W1=w1.setCell ⟨wb,2+k,none⟩ (.slice (some ⟨g1,0,none⟩) (4 * q+1) c1)/\W1.cell? ⟨wb,2+k,none⟩=some (.slice (some ⟨g1,0,none⟩) (4 * q+1) c1)/\wb<W1.heap.size /\
  ∃ g2 c2 w2,(Builtin.append_ #[hS k,hS k] ty #[.slice (some ⟨g1,0,none⟩) (4 * q+1) c1,.slice (some ⟨W1.heap.size,0,none⟩) 1 1]).run prog (W1.alloc (.cells #[b] eT))=.ok (.slice (some ⟨g2,0,none⟩) (4 * q+1+1) c2) w2/\w2.cell? ⟨wb,2+k,none⟩=some (.slice (some ⟨g1,0,none⟩) (4 * q+1) c1)/\w2.frozen? ⟨wb,2+k,none⟩=false /\
  ∃ W2,W2=w2.setCell ⟨wb,2+k,none⟩ (.slice (some ⟨g2,0,none⟩) (4 * q+1+1) c2)/\W2.cell? ⟨wb,2+k,none⟩=some (.slice (some ⟨g2,0,none⟩) (4 * q+1+1) c2)/\wb<W2.heap.size /\
  ∃ g3 c3 w3,(Builtin.append_ #[hS k,hS k] ty #[.slice (some ⟨g2,0,none⟩) (4 * q+1+1) c2,.slice (some ⟨W2.heap.size,0,none⟩) 1 1]).run prog (W2.alloc (.cells #[c] eT))=.ok (.slice (some ⟨g3,0,none⟩) (4 * q+1+1+1) c3) w3/\w3.cell? ⟨wb,2+k,none⟩=some (.slice (some ⟨g2,0,none⟩) (4 * q+1+1) c2)/\w3.frozen? ⟨wb,2+k,none⟩=false /\
  ∃ W3,W3=w3.setCell ⟨wb,2+k,none⟩ (.slice (some ⟨g3,0,none⟩) (4 * q+1+1+1) c3)/\W3.cell? ⟨wb,2+k,none⟩=some (.slice (some ⟨g3,0,none⟩) (4 * q+1+1+1) c3)/\wb<W3.heap.size /\
  ∃ g4 c4 w4,(Builtin.append_ #[hS k,hS k] ty #[.slice (some ⟨g3,0,none⟩) (4 * q+1+1+1) c3,.slice (some ⟨W3.heap.size,0,none⟩) 1 1]).run prog (W3.alloc (.cells #[d] eT))=.ok (.slice (some ⟨g4,0,none⟩) (4 * q+1+1+1+1) c4) w4/\w4.cell? ⟨wb,2+k,none⟩=some (.slice (some ⟨g3,0,none⟩) (4 * q+1+1+1) c3)/\w4.frozen? ⟨wb,2+k,none⟩=false /\
  ∃ A':AN,AZ (w4.setCell ⟨wb,2+k,none⟩ (.slice (some ⟨g4,0,none⟩) (4 * q+1+1+1+1) c4)) B wb A' Kd (Ac n k (4 * (q+1)))/\A'.cv=A.cv/\A'.pv=A.pv/\A'.XB=A.XB/\Ch B (fun d=>d=0\/d=5+k) A.tag A'.tag w (w4.setCell ⟨wb,2+k,none⟩ (.slice (some ⟨g4,0,none⟩) (4 * q+1+1+1+1) c4)):=by
 have hkd:∀ d,Kd d->¬(d=0\/d=5+k):=fun d hd hp=>h.kd d hd (by unfold Wt;omega)
 have hcl:∀ (W:World) (A:AN) (n:Nat->Nat),AZ W B wb A Kd n->W.cell? ⟨wb,2+k,none⟩=some (A.hv k)/\wb<W.heap.size:=fun W A n h=>by
  refine⟨?_,Ah h.blk⟩;rw[Ab h.blk];have:k=0\/k=1\/k=2\/k=3:=by omega
  rcases this with rfl|rfl|rfl|rfl<;>rfl
 have hd0:n k / 4=q:=by omega
 obtain⟨g1,c1,w1,r1,x1,z1,_,bl1,A1,h1,cv1,pv1,xb1,hv1,ch1⟩:=h.more k hk (by omega) a (by rw[hd0];exact ha) (fun e=>by subst e;rw[hd0];exact hX rfl) eT ty;rw[hq] at r1;rw[hv] at r1 x1;rw[hq] at h1 hv1 ch1;refine⟨g1,c1,w1,r1,x1,z1,bl1,_,rfl,?_⟩;obtain⟨k1,k2⟩:=hcl _ _ _ h1;rw[hv1] at k1;refine⟨k1,k2,?_⟩;have hn1:Ac n k (4 * q+1) k=4 * q+1:=Au _ _ _;have hb1:=hb.keep (Kd':=Kd) ch1 hkd (fun _ h=>h);have hc1:=hc.keep (Kd':=Kd) ch1 hkd (fun _ h=>h);have hd1:=hd.keep (Kd':=Kd) ch1 hkd (fun _ h=>h);rw[<-xb1] at hb1 hc1 hd1;have hX1:k=2->EB _ B A1 Kd q:=fun e=>(hX e).keep ch1 hkd xb1
 generalize w1.setCell ⟨wb,2+k,none⟩ (.slice (some ⟨g1,0,none⟩) (4 * q+1) c1)=W1 at *;obtain⟨g2,c2,w2,r2,x2,z2,_,_,A2,h2,cv2,pv2,xb2,hv2,ch2⟩:=h1.more k hk (by rw[hn1];omega) b (by rw[hn1,show (4 * q+1) / 4=q by omega];exact hb1) (fun e=>by subst e;rw[hn1,show (4 * q+1) / 4=q by omega];exact hX1 rfl) eT ty;rw[hn1,hv1] at r2;rw[hv1] at x2;rw[hn1] at h2 hv2 ch2;refine⟨g2,c2,w2,r2,x2,z2,_,rfl,?_⟩;obtain⟨k3,k4⟩:=hcl _ _ _ h2;rw[hv2] at k3;refine⟨k3,k4,?_⟩;have hn2:Ac (Ac n k (4 * q+1)) k (4 * q+1+1) k=4 * q+1+1:=Au _ _ _;have hc2:=hc1.keep (Kd':=Kd) ch2 hkd (fun _ h=>h);have hd2:=hd1.keep (Kd':=Kd) ch2 hkd (fun _ h=>h);rw[<-xb2] at hc2 hd2;have hX2:k=2->EB _ B A2 Kd q:=fun e=>(hX1 e).keep ch2 hkd xb2
 generalize w2.setCell ⟨wb,2+k,none⟩ (.slice (some ⟨g2,0,none⟩) (4 * q+1+1) c2)=W2 at *;obtain⟨g3,c3,w3,r3,x3,z3,_,_,A3,h3,cv3,pv3,xb3,hv3,ch3⟩:=h2.more k hk (by rw[hn2];omega) c (by rw[hn2,show (4 * q+1+1) / 4=q by omega];exact hc2) (fun e=>by subst e;rw[hn2,show (4 * q+1+1) / 4=q by omega];exact hX2 rfl) eT ty;rw[hn2,hv2] at r3;rw[hv2] at x3;rw[hn2] at h3 hv3 ch3;refine⟨g3,c3,w3,r3,x3,z3,_,rfl,?_⟩;obtain⟨k5,k6⟩:=hcl _ _ _ h3;rw[hv3] at k5;refine⟨k5,k6,?_⟩;have hn3:Ac (Ac (Ac n k (4 * q+1)) k (4 * q+1+1)) k (4 * q+1+1+1) k=4 * q+1+1+1:=Au _ _ _;have hd3:=hd2.keep (Kd':=Kd) ch3 hkd (fun _ h=>h);rw[<-xb3] at hd3;have hX3:k=2->EB _ B A3 Kd q:=fun e=>(hX2 e).keep ch3 hkd xb3
 generalize w3.setCell ⟨wb,2+k,none⟩ (.slice (some ⟨g3,0,none⟩) (4 * q+1+1+1) c3)=W3 at *;obtain⟨g4,c4,w4,r4,x4,z4,_,_,A4,h4,cv4,pv4,xb4,hv4,ch4⟩:=h3.more k hk (by rw[hn3];omega) d (by rw[hn3,show (4 * q+1+1+1) / 4=q by omega];exact hd3) (fun e=>by subst e;rw[hn3,show (4 * q+1+1+1) / 4=q by omega];exact hX3 rfl) eT ty;rw[hn3,hv3] at r4;rw[hv3] at x4;rw[hn3] at h4 hv4 ch4;refine⟨g4,c4,w4,r4,x4,z4,A4,?_,by rw[cv4,cv3,cv2,cv1],by rw[pv4,pv3,pv2,pv1],by rw[xb4,xb3,xb2,xb1],((ch1.trans ch2).trans ch3).trans ch4⟩;have en:Ac (Ac (Ac (Ac n k (4 * q+1)) k (4 * q+1+1)) k (4 * q+1+1+1)) k (4 * q+1+1+1+1)=Ac n k (4 * (q+1)):=by
  funext i;unfold Ac;by_cases e:i=k
  ·simp[e];omega
  ·simp[e]
 rw[<-en];exact h4
theorem Gk(w:World)(B wb:Nat)(A:AN)(Kd:Nat->Prop)(n:Nat->Nat)(q c:Nat)(lp:Option Addr)(lc nl:Nat)(f:Nat->Value)(h:AZ w B wb A Kd n)(hq:n 0=4 * q)(hq2:q<=1000000000000)(hl:Ae w B A.tag c 43 2 (.slice lp nl lc) nl f)(hnl:nl<=200000)(hck:¬Kd c)(hcw:¬Wt c)(hc9:c≠9) :
  Calls prog 58 #[.pointer (some ⟨wb,2,none⟩),.slice lp nl lc] w fun e w'=>e=.returned (.tuple #[]) /\
   ∃ A':AN,AZ w' B wb A' (fun d=>Kd d\/d=c) (Ac n 0 (4 * (q+1)))/\A'.cv=A.cv/\A'.pv=A.pv/\A'.XB=A.XB/\Ch B (fun d=>d=0\/d=5\/d=c) A.tag A'.tag w w':=by
 have hrv:=h.row 0 (by omega);rw[hq] at hrv;obtain⟨vp,vc,hvv⟩:∃ vp vc,A.hv 0=.slice vp (4 * q) vc:=by
  rcases hrv with⟨h1,h2⟩|⟨b,cap,cur,h1,_⟩
  ·exact⟨none,0,by rw[h1,h2]⟩
  ·exact⟨_,_,h1⟩
 have x2:w.cell? ⟨wb,2,none⟩=some (.slice vp (4 * q) vc):=by rw[Ab h.blk,<-hvv];rfl
 have e1:Int.tdiv (4 * (q:Int)) 4=(q:Int):=by rw[Int.mul_comm];exact Int.mul_tdiv_cancel _ (by omega)
 have e2:wrap64 (-1000-(q:Int))=-1000-(q:Int):=by unfold wrap64;omega
 have hwz:=Ah h.blk;have hBw:=h.le;have HX:=Aa (Tc h (Tc hl (Tc hck (Tc hcw (Tc hc9 (Tc hq hvv))))));clear h hrv hl hck hcw hvv;go_enter func58,ntmps58
 go_wp2;clear e1 e2;generalize hmv:(-1000-(q:Int))=mv at *;have HMV:=Aa hmv;clear hmv x2;obtain⟨t1,ht1⟩:∃ t1,t1=Ac A.tag w.heap.size 9:=⟨_,rfl⟩
 have c1:Ch B (fun _=>False) A.tag t1 w (w.alloc (.cells #[.int .i64 mv,.int .i64 0] 43)):=by rw[ht1];exact Ch.of_tags ((Tu _ _).alloc (Te _) _) (fun b hb=>Ao _ _ _ _ (by omega))
 have t9:t1 w.heap.size=9:=by rw[ht1];exact Au _ _ _
 have HC1:=Aa (Tc c1 t9);clear c1 t9 ht1;go_loopw [5] (fun v wr=>∃ j:Nat,j<=nl/\v=.int .i64 j/\KZ w B t1 c (.slice lp nl lc) nl q j f mv wr) (fun v _=>nl-(intOf v).toNat)
 case atStart =>
  refine⟨0,Tt _,rfl,(HX.out.2.1.keep HC1.out.1 (fun h=>h)).congr (fun i hi=>?_),Ch.refl _ _ _ _⟩;unfold Es;rw[if_neg (by omega)]
 case round =>
  obtain⟨j,hj,rfl,hrow,hch⟩:=hrel;have hbm:(w.alloc (.cells #[.int .i64 mv,.int .i64 0] 43)).heap[w.heap.size]?=some (.cells #[.int .i64 mv,.int .i64 0] 43 (0,0)):=Tv _ _;have hbr:wr.heap[w.heap.size]?=some (.cells #[.int .i64 mv,.int .i64 0] 43 (0,0)):=(hch.block _ (Ah hbm) (Or.inr (by rw[HC1.out.2];exact fun e=>HX.out.2.2.2.2.1 e.symm))).trans hbm;have m0:wr.cell? ⟨w.heap.size,0,none⟩=some (.int .i64 mv):=(Ab hbr).trans rfl;have m1:wr.cell? ⟨w.heap.size,1,none⟩=some (.int .i64 0):=(Ab hbr).trans rfl;have hwr:w.heap.size<wr.heap.size:=Ah hbr;by_cases hlt:j<nl
  ·have hd:decide ((j:Int)<(nl:Int))=true:=by simp;omega
   obtain⟨b,cap,e1,hb,hbz,hbt,hcap⟩:=hrow.form (by omega);injection e1 with e1 _ e3;subst e1;subst e3;have y0:=hrow.cell (i:=j * 2) (by omega);have y1:=hrow.cell (i:=j * 2+1) (by omega);have z0:=hrow.frozen (j * 2);have z1:=hrow.frozen (j * 2+1);have HN:=Aa (show KZ w B t1 c (.slice (some ⟨b,0,none⟩) nl lc) nl q (j+1) f mv ((wr.setCell ⟨b,j * 2,none⟩ (.int .i64 mv)).setCell ⟨b,j * 2+1,none⟩ (.int .i64 0)) from by
    refine⟨((hrow.set (j * 2) (.int .i64 mv)).set (j * 2+1) (.int .i64 0)).congr (fun i _=>?_),(hch.trans (Ch.set wr _ _ _ hb hbt)).trans (Ch.set _ _ _ _ hb hbt)⟩;rw[<-SK];unfold Cs;rw[HMV.out])
   have hne:¬w.heap.size=b:=by intro e;have h9:=HC1.out.2;rw[e,hbt] at h9;exact HX.out.2.2.2.2.1 h9
   generalize Es q j f (j * 2)=u0 at y0;generalize Es q j f (j * 2+1)=u1 at y1;clear hrow hch hbm hbr hb hbt;go_wp2;exact⟨⟨j+1,by omega,by go_num,HN.out⟩,by simp[intOf];omega⟩
  ·have hd:decide ((j:Int)<(nl:Int))=false:=by simp;omega
   obtain rfl:j=nl:=by omega
   obtain⟨inf,hi,hz0,hz1,hz2⟩:∃ i,prog.info? 43=some i/\i.zero=some (.agg #[.int .i64 0,.int .i64 0])/\i.size=2/\i.bytes=16:=by
    obtain⟨i,hi,hzz⟩:=Tp.1 Tryz.info43;simp only[Prod.mk.injEq] at hzz;exact⟨i,hi,hzz.1,hzz.2.1,hzz.2.2⟩
   obtain⟨hH,hlrow,hck,hcw,hc9,hq,hvv⟩:=HX.out;have hrow2:Ae wr B t1 c 43 2 (.slice lp j lc) j (fun i=>DB q (i % 2)):=hrow.congr (fun i hi=>by unfold Es;rw[if_pos hi]);have ks0:KS wr B t1 c 43 2 (.slice lp j lc) j (DB q) [.slice lp j lc]:=⟨hrow2,fun v hv=>by
    obtain rfl:v=.slice lp j lc:=by simpa using hv
    exact hrow2.full (by omega) rfl (fun _ _=>rfl)⟩
   have hBr:B<=wr.heap.size:=by omega
   have hmq:Cs q=mv:=HMV.out;obtain⟨nw1,en1,hl1,hr1,ho1⟩:=JP q mv hmq 1 (Or.inl rfl);rw[if_pos rfl] at en1;obtain⟨g1,c1,w1,r1,_,t2,ks1,ch1,hB1⟩:=ks0.app (P:=prog) hBr hnl 1 (by omega) (by omega) nw1 hl1 hr1 ho1 44 44 43 inf _ 16 underlying44 hi hz0 hz1 hz2 rfl (by decide) (by omega);obtain⟨nw2,en2,hl2,hr2,ho2⟩:=JP q mv hmq 2 (Or.inr (Or.inl rfl));rw[if_neg (by omega),if_pos rfl] at en2;obtain⟨g2,c2,w2,r2,_,t3,ks2,ch2,hB2⟩:=ks1.app (P:=prog) hB1 hnl 2 (by omega) (by omega) nw2 hl2 hr2 ho2 44 44 43 inf _ 16 underlying44 hi hz0 hz1 hz2 rfl (by decide) (by omega);obtain⟨nw3,en3,hl3,hr3,ho3⟩:=JP q mv hmq 3 (Or.inr (Or.inr rfl));rw[if_neg (by omega),if_neg (by omega)] at en3;obtain⟨g3,c3,w3,r3,_,t4,ks3,ch3,hB3⟩:=ks2.app (P:=prog) hB2 hnl 3 (by omega) (by omega) nw3 hl3 hr3 ho3 44 44 43 inf _ 16 underlying44 hi hz0 hz1 hz2 rfl (by decide) (by omega);rw[en1] at r1;rw[en2] at r2;rw[en3] at r3;have ht9:t1 w.heap.size≠c:=by rw[HC1.out.2];exact fun e=>hc9 e.symm
   have hb1:=(ch1.block _ hwr (Or.inr ht9)).trans hbr;have ht92:t2 w.heap.size≠c:=by rw[ch1.tags _ hwr];exact ht9
   have hb2:=(ch2.block _ (Ah hb1) (Or.inr ht92)).trans hb1;have m01:w1.cell? ⟨w.heap.size,0,none⟩=some (.int .i64 mv):=(Ab hb1).trans rfl;have m11:w1.cell? ⟨w.heap.size,1,none⟩=some (.int .i64 0):=(Ab hb1).trans rfl;have m02:w2.cell? ⟨w.heap.size,0,none⟩=some (.int .i64 mv):=(Ab hb2).trans rfl;have m12:w2.cell? ⟨w.heap.size,1,none⟩=some (.int .i64 0):=(Ab hb2).trans rfl;have hs1:=ch1.size;have hs2:=ch2.size;have hwz1:w.heap.size<w1.heap.size:=by omega
   have hwz2:w.heap.size<w2.heap.size:=by omega
   have hkc:∀ d,Kd d\/Wt d->¬d=c:=fun d hd e=>by rcases hd with hd|hd;exact hck (e ▸ hd);exact hcw (e ▸ hd)
   have hH3:=((((hH.keep HC1.out.1 (fun _ _ h=>h)).keep hch hkc).keep ch1 hkc).keep ch2 hkc).keep ch3 hkc;have hH4:=hH3.retag (Kd':=fun d=>Kd d\/d=c) (tag':=t4) (fun b _ _=>rfl) (fun b _ h=>Or.inl h) (fun d hd=>by rcases hd with hd|hd;exact hH.kd d hd;rw[hd];exact hcw);have hfull:∀ v,v∈[Value.slice (some ⟨g3,0,none⟩) (j+3) c3,.slice (some ⟨g2,0,none⟩) (j+2) c2,.slice (some ⟨g1,0,none⟩) (j+1) c1,.slice lp j lc]->Ck w3 B t4 (fun d=>Kd d\/d=c) 2 v (DB q):=fun v hv=>(ks3.full v hv).retag (fun b _ h=>Or.inr h)
   have x3:w3.cell? ⟨wb,2,none⟩=some (.slice vp (4 * q) vc):=by rw[Ab hH4.blk,<-hvv];rfl
   have hwz3:wb<w3.heap.size:=Ah hH4.blk;obtain⟨ga,ca,wa,ra,xa,za,_,WA,eA,yA,lA,gb,cb,wb2,rb,xb,zb,WB,eB,yB,lB,gc,cc,wc2,rc,xc,zc,WC,eC,yC,lC,gd,cd,wd,rd,xd,zd,A',hA',cvA,pvA,xbA,chA⟩:=hH4.four 0 (by omega) q (fun e=>by omega) hq hq2 vp vc hvv _ _ _ _ 44 51 (hfull (.slice lp j lc) (by simp)) (hfull (.slice (some ⟨g1,0,none⟩) (j+1) c1) (by simp)) (hfull (.slice (some ⟨g2,0,none⟩) (j+2) c2) (by simp)) (hfull (.slice (some ⟨g3,0,none⟩) (j+3) c3) (by simp));have xa':wa.cell? ⟨wb,2,none⟩=some (.slice vp (4 * q) vc):=xa;have za':wa.frozen? ⟨wb,2,none⟩=false:=za;have xb':wb2.cell? ⟨wb,2,none⟩=some (.slice (some ⟨ga,0,none⟩) (4 * q+1) ca):=xb;have zb':wb2.frozen? ⟨wb,2,none⟩=false:=zb;have xc':wc2.cell? ⟨wb,2,none⟩=some (.slice (some ⟨gb,0,none⟩) (4 * q+1+1) cb):=xc;have zc':wc2.frozen? ⟨wb,2,none⟩=false:=zc;have xd':wd.cell? ⟨wb,2,none⟩=some (.slice (some ⟨gc,0,none⟩) (4 * q+1+1+1) cc):=xd;have zd':wd.frozen? ⟨wb,2,none⟩=false:=zd;have eA':WA=wa.setCell ⟨wb,2,none⟩ (.slice (some ⟨ga,0,none⟩) (4 * q+1) ca):=eA;have eB':WB=wb2.setCell ⟨wb,2,none⟩ (.slice (some ⟨gb,0,none⟩) (4 * q+1+1) cb):=eB;have eC':WC=wc2.setCell ⟨wb,2,none⟩ (.slice (some ⟨gc,0,none⟩) (4 * q+1+1+1) cc):=eC;have lA':wb<wa.heap.size:=by have:=lA;rw[eA'] at this;simpa using this
   have lB':wb<wb2.heap.size:=by have:=lB;rw[eB'] at this;simpa using this
   have lC':wb<wc2.heap.size:=by have:=lC;rw[eC'] at this;simpa using this
   rw[eA',show (wa.setCell ⟨wb,2,none⟩ (.slice (some ⟨ga,0,none⟩) (4 * q+1) ca)).heap.size=wa.heap.size by simp] at rb;rw[eB',show (wb2.setCell ⟨wb,2,none⟩ (.slice (some ⟨gb,0,none⟩) (4 * q+1+1) cb)).heap.size=wb2.heap.size by simp] at rc;rw[eC',show (wc2.setCell ⟨wb,2,none⟩ (.slice (some ⟨gc,0,none⟩) (4 * q+1+1+1) cc)).heap.size=wc2.heap.size by simp] at rd;clear xa za xb zb xc zc xd zd eA eB eC yA yB yC lA lB lC eA' eB' eC';have hcall:Ch B (fun d=>d=0\/d=5\/d=c) A.tag A'.tag w _:=(((((HC1.out.1.mono (q:=fun d=>d=0\/d=5\/d=c) (fun _ h=>h.elim)).trans (hch.mono (fun d hd=>Or.inr (Or.inr hd)))).trans (ch1.mono (fun d hd=>Or.inr (Or.inr hd)))).trans (ch2.mono (fun d hd=>Or.inr (Or.inr hd)))).trans (ch3.mono (fun d hd=>Or.inr (Or.inr hd)))).trans (chA.mono (fun d hd=>by omega));have HQ:=Aa (Tc hA' (Tc cvA (Tc pvA (Tc xbA hcall))));have HR:=Aa (Tc r1 (Tc r2 (Tc r3 (Tc ra (Tc rb (Tc rc rd))))));clear ks0 ks1 ks2 ks3 ch1 ch2 ch3 chA hA' hcall hfull hH3 hH4 hH hrow hrow2 hlrow hch hbm hbr hb1 hb2 r1 r2 r3 ra rb rc rd en1 en2 en3 hl1 hl2 hl3 hr1 hr2 hr3 ho1 ho2 ho3 hkc cvA pvA xbA ht9 ht92 hck hcw hvv hq HX HC1 HMV hi hz0 hz1 hz2;go_wp2_with (at_builtin;refine B5 rfl _ _ 44 rfl ?_)
   refine⟨?_,trivial⟩;refine BV _ rfl _ _ 44 rfl _ _ _ _ rfl rfl HR.out.1 ?_;clear m0 m1;go_wp2_with (at_builtin;refine B5 rfl _ _ 44 rfl ?_)
   refine⟨?_,trivial⟩;refine BV _ rfl _ _ 44 rfl _ _ _ _ rfl rfl HR.out.2.1 ?_;clear m01 m11;go_wp2_with (at_builtin;refine B5 rfl _ _ 44 rfl ?_)
   refine⟨?_,trivial⟩;refine BV _ rfl _ _ 44 rfl _ _ _ _ rfl rfl HR.out.2.2.1 ?_;clear m02 m12;go_wp2_with (at_builtin;refine B5 rfl _ _ 51 rfl ?_)
   refine⟨?_,trivial⟩;refine BV _ rfl _ _ 51 rfl _ _ _ _ rfl rfl HR.out.2.2.2.1 ?_;clear x3;go_wp2_with (at_builtin;refine B5 rfl _ _ 51 rfl ?_)
   refine⟨?_,trivial⟩;refine BV _ rfl _ _ 51 rfl _ _ _ _ rfl rfl HR.out.2.2.2.2.1 ?_;clear xa' za' lA';go_wp2_with (at_builtin;refine B5 rfl _ _ 51 rfl ?_)
   refine⟨?_,trivial⟩;refine BV _ rfl _ _ 51 rfl _ _ _ _ rfl rfl HR.out.2.2.2.2.2.1 ?_;clear xb' zb' lB';go_wp2_with (at_builtin;refine B5 rfl _ _ 51 rfl ?_)
   refine⟨?_,trivial⟩;refine BV _ rfl _ _ 51 rfl _ _ _ _ rfl rfl HR.out.2.2.2.2.2.2 ?_;clear xc' zc' lC';go_wp2;go_end0;exact⟨rfl,A',HQ.out⟩
end Go.Proofs.YtkafkipjedpohaaGreatDoor

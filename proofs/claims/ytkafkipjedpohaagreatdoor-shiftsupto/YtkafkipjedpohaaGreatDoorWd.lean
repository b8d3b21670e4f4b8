import Derived.Test.YtkafkipjedpohaaGreatDoorAx
import Derived.Test.YtkafkipjedpohaaGreatDoorProg
import Derived.WalkKit
import Derived.WalkSpells
import Derived.WalkLawsBesides
import Derived.BigQuiet
import Derived.Deep.LoopGhost
namespace Go.Proofs.YtkafkipjedpohaaGreatDoor
open Go.RowKit _root_.Go.Proofs.Tryz
theorem A__mkf(fn:Fn)(first cap:Array Value)(w:World):(Instr.makeFunc fn first cap).run prog w=.ok (.func fn first cap) w:=rfl
def Cb(w:World):Prop:=∀ o:Nat,o<22->w.cell? ⟨0,o * 2,none⟩=some (.int .i64 (A6 o))/\w.cell? ⟨0,o * 2+1,none⟩=some (.int .i64 (Bc o))
def BB(w:World)(b off n:Nat)(op ar:Nat->Int):Prop :=
 ∀ i,i<n->w.cell? ⟨b,off+i * 2,none⟩=some (.int .i64 (op i))/\w.cell? ⟨b,off+i * 2+1,none⟩=some (.int .i64 (ar i))
def Cz(s:St):Nat->Value:=fun j=>if j % 3=0 then .bool (s.K (j / 3)) else if j % 3=1 then .bool (s.L (j / 3)) else .int .i64 (s.H (j / 3))
theorem Ox(s:St)(i:Nat):Cz s (i * 3)=.bool (s.K i):=by
 unfold Cz;rw[if_pos (by omega),show i * 3 / 3=i by omega]
theorem NP(s:St)(i:Nat):Cz s (i * 3+1)=.bool (s.L i):=by
 unfold Cz;rw[if_neg (by omega),if_pos (by omega),show (i * 3+1) / 3=i by omega]
theorem Rq(s:St)(i:Nat):Cz s (i * 3+2)=.int .i64 (s.H i):=by
 unfold Cz;rw[if_neg (by omega),if_neg (by omega),show (i * 3+2) / 3=i by omega]
def Bf(w:World)(b n:Nat)(s:St):Prop:=w.rowIs b 171 (n * 3) (Cz s)
section
variable {w w' u:World}{b n i B:Nat}{s:St}
theorem Bf.K(h:Bf w b n s)(hi:i<n):w.cell? ⟨b,i * 3,none⟩=some (.bool (s.K i)):=by
 rw[<-Ox];exact World.rowIs.cell h (by omega)
theorem Bf.L(h:Bf w b n s)(hi:i<n):w.cell? ⟨b,i * 3+1,none⟩=some (.bool (s.L i)):=by
 rw[<-NP];exact World.rowIs.cell h (by omega)
theorem Bf.H(h:Bf w b n s)(hi:i<n):w.cell? ⟨b,i * 3+2,none⟩=some (.int .i64 (s.H i)):=by
 rw[<-Rq];exact World.rowIs.cell h (by omega)
theorem Jb(j:Nat):j=j / 3 * 3\/j=j / 3 * 3+1\/j=j / 3 * 3+2:=by omega
theorem Bf.setK(h:Bf w b n s)(i:Nat)(v:Bool):Bf (w.setCell ⟨b,i * 3,none⟩ (.bool v)) b n {s with K:=Ac s.K i v}:=by
 refine World.rowIs.congr (World.rowIs.set h (i * 3) (.bool v)) fun j hj=>?_
 rcases Jb j with e|e|e
 ·have e3:j % 3=0:=by omega
  by_cases hji:j / 3=i
  ·rw[if_pos (by omega)];simp[Cz,Ac,e3,hji]
  ·rw[if_neg (by omega)];simp[Cz,Ac,e3,hji]
 ·have e3:j % 3=1:=by omega
  rw[if_neg (by omega)];simp[Cz,e3]
 ·have e3:j % 3=2:=by omega
  rw[if_neg (by omega)];simp[Cz,e3]
theorem Bf.setL(h:Bf w b n s)(i:Nat)(v:Bool):Bf (w.setCell ⟨b,i * 3+1,none⟩ (.bool v)) b n {s with L:=Ac s.L i v}:=by
 refine World.rowIs.congr (World.rowIs.set h (i * 3+1) (.bool v)) fun j hj=>?_
 rcases Jb j with e|e|e
 ·have e3:j % 3=0:=by omega
  rw[if_neg (by omega)];simp[Cz,e3]
 ·have e3:j % 3=1:=by omega
  by_cases hji:j / 3=i
  ·rw[if_pos (by omega)];simp[Cz,Ac,e3,hji]
  ·rw[if_neg (by omega)];simp[Cz,Ac,e3,hji]
 ·have e3:j % 3=2:=by omega
  rw[if_neg (by omega)];simp[Cz,e3]
theorem Bf.setH(h:Bf w b n s)(i:Nat)(v:Int):Bf (w.setCell ⟨b,i * 3+2,none⟩ (.int .i64 v)) b n {s with H:=Ac s.H i v}:=by
 refine World.rowIs.congr (World.rowIs.set h (i * 3+2) (.int .i64 v)) fun j hj=>?_
 rcases Jb j with e|e|e
 ·have e3:j % 3=0:=by omega
  rw[if_neg (by omega)];simp[Cz,e3]
 ·have e3:j % 3=1:=by omega
  rw[if_neg (by omega)];simp[Cz,e3]
 ·have e3:j % 3=2:=by omega
  by_cases hji:j / 3=i
  ·rw[if_pos (by omega)];simp[Cz,Ac,e3,hji]
  ·rw[if_neg (by omega)];simp[Cz,Ac,e3,hji]
structure Kp (b:Nat) (w w':World):Prop where
 os:w'.os=w.os
 tape:w'.tape=w.tape
 output:w'.output=w.output
 size:w.heap.size<=w'.heap.size
 block:∀ k,k<w.heap.size->k≠b->w'.heap[k]?=w.heap[k]?
theorem Kp.refl(b:Nat)(w:World):Kp b w w:=⟨rfl,rfl,rfl,Te _,fun _ _ _=>rfl⟩
theorem Kp.trans{v:World}(h:Kp b u v)(k:Kp b v w):Kp b u w :=
 ⟨k.os.trans h.os,k.tape.trans h.tape,k.output.trans h.output,Nat.le_trans h.size k.size,fun i hi hb=>(k.block i (Ts hi h.size) hb).trans (h.block i hi hb)⟩
theorem Kp.of_below(h:Below w.heap.size w w'):Kp b w w':=⟨h.os,h.tape,h.output,h.size,fun k hk _=>h.block k hk⟩
theorem Kp.alloc(h:Kp b u w)(o:Obj):Kp b u (w.alloc o) :=
 h.trans ⟨rfl,rfl,rfl,by simp,fun k hk _=>Ty _ _ _ hk⟩
theorem Kp.set(h:Kp b u w)(o:Nat)(v:Value):Kp b u (w.setCell ⟨b,o,none⟩ v) :=
 h.trans ⟨rfl,rfl,rfl,by simp[World.setCell],fun k _ hb=>Tx _ _ _ _ hb⟩
theorem Kp.cell(h:Kp b w w'){p:Addr}(hp:p.block<w.heap.size)(hb:p.block≠b):w'.cell? p=w.cell? p:=Tw (w:=w) (h.block p.block hp hb)
theorem Kp.below(h:Kp b w w')(hB:B<=b)(hw:B<=w.heap.size):Below B w w':=⟨h.os,h.tape,h.output,h.size,fun k hk=>h.block k (by omega) (by omega)⟩
theorem BB.below{off:Nat}{op ar:Nat->Int}(h:BB w b off n op ar)(k:Below B w w')(hb:b<B):BB w' b off n op ar :=
 fun i hi=>⟨(k.cell (p:=⟨b,_,none⟩) hb).trans (h i hi).1,(k.cell (p:=⟨b,_,none⟩) hb).trans (h i hi).2⟩
theorem BB.kp{c off:Nat}{op ar:Nat->Int}(h:BB w b off n op ar)(k:Kp c w w')(hb:b<w.heap.size)(hc:b≠c):BB w' b off n op ar :=
 fun i hi=>⟨(k.cell (p:=⟨b,_,none⟩) hb hc).trans (h i hi).1,(k.cell (p:=⟨b,_,none⟩) hb hc).trans (h i hi).2⟩
theorem Cb.below(h:Cb w)(k:Below B w w')(hb:0<B):Cb w' :=
 fun i hi=>⟨(k.cell (p:=⟨0,_,none⟩) hb).trans (h i hi).1,(k.cell (p:=⟨0,_,none⟩) hb).trans (h i hi).2⟩
theorem Cb.kp{c:Nat}(h:Cb w)(k:Kp c w w')(hb:0<w.heap.size)(hc:0≠c):Cb w' :=
 fun i hi=>⟨(k.cell (p:=⟨0,_,none⟩) hb hc).trans (h i hi).1,(k.cell (p:=⟨0,_,none⟩) hb hc).trans (h i hi).2⟩
theorem FK{a b:Bool}(h:a=b):Ending.returned (.bool a)=.returned (.bool b):=by rw[h]
theorem JY{k:IntKind}{a b:Int}(h:a=b):Ending.returned (.int k a)=.returned (.int k b):=by rw[h]
end
set_option maxRecDepth 100000
set_option maxHeartbeats 16000000
theorem Gu(n a b:Int)(w:World) :
  Calls prog 48 #[.int .i64 n,.int .i64 a,.int .i64 b] w fun e w'=>e=.returned (.bool (decide (a<=n/\n<=b)))/\w'=w:=by
 by_cases h1:a<=n
 ·go_enter func48,ntmps48
  go_wp2;go_ret;exact⟨by simp[h1],rfl⟩
 ·have h1':decide (a<=n)=false:=by simpa using h1
  go_enter func48,ntmps48
  go_wp2;go_ret;exact⟨by simp,rfl⟩
theorem JX(n:Int)(w:World) :
  Calls prog 71 #[.int .i64 n] w fun e w'=>e=.returned (.bool (decide (0<=n/\n<22)))/\w'=w:=by
 by_cases h1:0<=n
 ·go_enter func71,ntmps71
  go_wp2;go_ret;exact⟨by simp[h1],rfl⟩
 ·have h1':decide (0<=n)=false:=by simpa using h1
  go_enter func71,ntmps71
  go_wp2;go_ret;exact⟨by simp,rfl⟩
theorem OY(a n:Int)(w:World) :
  Calls prog 93 #[.int .i64 a,.int .i64 n] w fun e w'=>e=.returned (.bool (decide (0<=a/\a<n)))/\w'=w:=by
 by_cases h1:0<=a
 ·go_enter func93,ntmps93
  go_wp2;go_ret;exact⟨by simp[h1],rfl⟩
 ·have h1':decide (0<=a)=false:=by simpa using h1
  go_enter func93,ntmps93
  go_wp2;go_ret;exact⟨by simp,rfl⟩
theorem Iy(ag lc:Int)(ca:Option Addr)(cn cc:Nat)(w:World) :
  Calls prog 70 #[.agg #[.int .i64 ag,.int .i64 lc,.slice ca cn cc]] w fun e w' =>
   e=.returned (.bool (decide (0<=lc/\lc<=8)&&decide (0<=ag/\ag<=lc)&&decide (1<=cn/\cn<=64)))/\Below w.heap.size w w':=by
 go_enter func70,ntmps70
 go_wp2_with (go_at_call 48;refine(Gu _ _ _ _).mono ?_;rintro e w' ⟨rfl,rfl⟩)
 all_goals go_ret
 all_goals refine⟨FK ?_,by repeat (first|exact Tu _ _|refine Below.alloc ?_ (by simp<;>omega) _)⟩
 all_goals (rw[Bool.eq_iff_iff];simp_all<;>omega)
theorem MD(op a ag lc:Int)(ca:Option Addr)(cn cc:Nat)(m:Int)(w:World) :
  Calls prog 72 #[.agg #[.int .i64 op,.int .i64 a],.agg #[.int .i64 ag,.int .i64 lc,.slice ca cn cc],.int .i64 m] w fun e w' =>
   e=.returned (.bool (Gf op a lc cn m))/\Below w.heap.size w w':=by
 go_enter func72,ntmps72
 go_wp2_with (go_at_call 93;refine(OY _ _ _).mono ?_;rintro e w' ⟨rfl,rfl⟩)
 all_goals go_ret
 all_goals (refine⟨FK ?_,by repeat (first|exact Tu _ _|refine Below.alloc ?_ (by simp<;>omega) _)⟩)
 all_goals (unfold Gf;simp_all)
theorem P2{w:World}(h:Cb w){op:Int}(h0:0<=op)(h1:op<22):w.cell? ⟨0,op.toNat * 2,none⟩=some (.int .i64 (A6 op))/\w.cell? ⟨0,op.toNat * 2+1,none⟩=some (.int .i64 (Bc op)):=by
 obtain⟨n,rfl⟩:=Int.eq_ofNat_of_zero_le h0;exact h n (by omega)
theorem R7(op a:Int)(w:World)(ht:Cb w)(h0:0<=op)(h1:op<22)(h13:op=13->0<=a/\a<=8)(hw:0<w.heap.size) :
  Calls prog 105 #[.agg #[.int .i64 op,.int .i64 a]] w fun e w' =>
   e=.returned (.agg #[.int .i64 (At op a),.int .i64 (Bc op)])/\Below w.heap.size w w':=by
 obtain⟨t0,t1⟩:=P2 ht h0 h1;by_cases h:op=13
 ·obtain⟨a0,a8⟩:=h13 h;subst h;have t0':w.cell? ⟨0,26,none⟩=some (.int .i64 1):=t0;have t1':w.cell? ⟨0,27,none⟩=some (.int .i64 1):=t1;clear ht h13 t0 t1;go_enter func105,ntmps105
  go_wp2;exact bodyPost_ret (v:=.agg #[.int .i64 (1+a),.int .i64 1]) (by simp[results,Tryz.results105,go_sem]) rfl ⟨by simp[At,Bc],by repeat (first|exact Tu _ _|refine Below.alloc ?_ (by simp<;>omega) _)⟩
 ·have hb:(op==13)=false:=by simpa using h
  have hp:A6 op=At op a:=by unfold At;rw[if_neg h]
  rw[hp] at t0;generalize At op a=pp at *;generalize Bc op=qq at *;clear ht h13 h hp;go_enter func105,ntmps105
  go_wp2;exact bodyPost_ret (v:=.agg #[.int .i64 pp,.int .i64 qq]) (by simp[results,Tryz.results105,go_sem]) rfl ⟨rfl,by repeat (first|exact Tu _ _|refine Below.alloc ?_ (by simp<;>omega) _)⟩
def Eb(w:World)(b:Nat)(l:List Int):Prop:=∀ j,j<l.length->w.cell? ⟨b,j,none⟩=some (.int .i64 (l.getD j 0))
theorem G0(w:World)(x:Int)(t:TypeId)(B:Nat)(hB:B=w.heap.size):Eb (w.alloc (.cells #[.int .i64 x] t)) B [x]:=by
 subst hB;intro j hj;obtain rfl:j=0:=by simpa using hj
 unfold World.cell?;rw[Tv];rfl
theorem J7(w:World)(x y:Int)(t:TypeId)(B:Nat)(hB:B=w.heap.size):Eb (w.alloc (.cells #[.int .i64 x,.int .i64 y] t)) B [x,y]:=by
 subst hB;intro j hj;have:j=0\/j=1:=by simp at hj;omega
 rcases this with rfl|rfl<;>(unfold World.cell?;rw[Tv];rfl)
def Ku(w w':World)(p:Option Addr)(l:List Int):Prop:=l=[]\/∃ b,w.heap.size<=b/\b<w'.heap.size/\p=some ⟨b,0,none⟩/\Eb w' b l
theorem Nh(op a:Int)(i:Nat)(w:World)(hi:i<64) :
  Calls prog 106 #[.agg #[.int .i64 op,.int .i64 a],.int .i64 i] w fun e w' =>
   ∃ p c,e=.returned (.slice p (Bj op a i).length c)/\Below w.heap.size w w'/\Ku w w' p (Bj op a i):=by
 by_cases h1:op=14
 ·subst h1;have hl:Bj 14 a i=[]:=by simp[Bj]
  rw[hl];go_enter func106,ntmps106
  go_wp2;go_ret;exact⟨_,_,rfl,(Tu _ _).alloc (Te _) _,Or.inl rfl⟩
 ·have b1:(op==14)=false:=by simpa using h1
  by_cases h2:op=10
  ·subst h2;have hl:Bj 10 a i=[a]:=by simp[Bj]
   rw[hl];clear hl h1;go_enter func106,ntmps106
   go_wp2;go_ret;exact⟨_,_,rfl,((Tu _ _).alloc (Te _) _).alloc (by simp) _,Or.inr ⟨w.heap.size+1,by omega,by simp,rfl,G0 (w.alloc _) a 3 _ (by simp)⟩⟩
  ·have b2:(op==10)=false:=by simpa using h2
   by_cases h3:op=11
   ·subst h3;have hl:Bj 11 a i=[(i:Int)+1,a]:=by simp[Bj]
    rw[hl];clear hl h1;go_enter func106,ntmps106
    go_wp2;go_ret;exact⟨_,_,rfl,((Tu _ _).alloc (Te _) _).alloc (by simp) _,Or.inr ⟨w.heap.size+1,by omega,by simp,rfl,J7 (w.alloc _) _ a 3 _ (by simp)⟩⟩
   ·have b3:(op==11)=false:=by simpa using h3
    have hl:Bj op a i=[(i:Int)+1]:=by simp[Bj,h1,h2,h3]
    rw[hl];clear hl h1 h2 h3;go_enter func106,ntmps106
    go_wp2;go_ret;exact⟨_,_,rfl,((Tu _ _).alloc (Te _) _).alloc (by simp) _,Or.inr ⟨w.heap.size+1,by omega,by simp,rfl,G0 (w.alloc _) _ 3 _ (by simp)⟩⟩
theorem Q9(b n:Nat)(s:St)(to h:Int)(w:World)(hp:Bf w b n s)(ht:0<=to) :
  Calls prog 107 #[.slice (some ⟨b,0,none⟩) n n,.int .i64 to,.int .i64 h] w fun e w' =>
   e=.returned (.int .i64 (Cg n s to h).1)/\Bf w' b n (Cg n s to h).2/\Kp b w w':=by
 obtain⟨i,rfl⟩:=Int.eq_ofNat_of_zero_le ht;unfold Cg;by_cases hn:(n:Int)<=(i:Int)
 ·rw[if_pos hn];go_enter func107,ntmps107
  go_wp2;go_ret;exact⟨rfl,hp,Kp.refl _ _⟩
 ·rw[if_neg hn];simp only[Int.toNat_natCast];have c0:=hp.K (i:=i) (by omega);have c2:=hp.H (i:=i) (by omega);have fz:∀ o,w.frozen? ⟨b,o,none⟩=false:=fun o=>World.rowIs.frozen hp o
  by_cases hk:s.K i=true
  ·by_cases hh:s.H i=h
   ·have fin:Bf ((w.setCell ⟨b,i * 3,none⟩ (.bool true)).setCell ⟨b,i * 3+2,none⟩ (.int .i64 h)) b n {K:=Ac s.K i true,L:=s.L,H:=Ac s.H i h}:=(hp.setK i true).setH i h;have HF:Hid (Bf ((w.setCell ⟨b,i * 3,none⟩ (.bool true)).setCell ⟨b,i * 3+2,none⟩ (.int .i64 h)) b n {K:=Ac s.K i true,L:=s.L,H:=Ac s.H i h}):=fin;rw[hk] at c0;rw[hh] at c2;rw[if_neg (by simp[hh])];clear fin hk hh hp;go_enter func107,ntmps107
    go_wp2;go_ret;exact⟨rfl,HF.out,((Kp.refl _ _).set _ _).set _ _⟩
   ·have hb:(s.H i != h)=true:=by simpa using hh
    rw[hk] at c0;rw[if_pos ⟨hk,hh⟩];have HF:Hid (Bf w b n s):=hp;clear hk hh hp;generalize s.H i=hi at *;go_enter func107,ntmps107
    go_wp2;go_ret;exact⟨rfl,HF.out,Kp.refl _ _⟩
  ·have hk':s.K i=false:=by simpa using hk
   have fin:Bf ((w.setCell ⟨b,i * 3,none⟩ (.bool true)).setCell ⟨b,i * 3+2,none⟩ (.int .i64 h)) b n {K:=Ac s.K i true,L:=s.L,H:=Ac s.H i h}:=(hp.setK i true).setH i h;have HF:Hid (Bf ((w.setCell ⟨b,i * 3,none⟩ (.bool true)).setCell ⟨b,i * 3+2,none⟩ (.int .i64 h)) b n {K:=Ac s.K i true,L:=s.L,H:=Ac s.H i h}):=fin;rw[hk'] at c0;rw[if_neg (by simp[hk'])];clear fin hk hk' hp;generalize s.H i=hi at *;go_enter func107,ntmps107
   go_wp2;go_ret;exact⟨rfl,HF.out,((Kp.refl _ _).set _ _).set _ _⟩
def GX(s:St)(n:Nat):Value:=.tuple #[.int .i64 (if Bi (Ba s) n<n then (Bi (Ba s) n:Int) else 0),.bool (decide (Bi (Ba s) n<n))]
theorem QM(b n:Nat)(s:St)(w:World)(hp:Bf w b n s)(hn:n<=64) :
  Calls prog 94 #[.slice (some ⟨b,0,none⟩) n n] w fun e w' =>
   e=.returned (GX s n)/\Below w.heap.size w w':=by
 have hb:b<w.heap.size:=World.rowIs.lt hp;go_enter func94,ntmps94
 go_wp2;go_loopw [8] (fun i wr=>∃ k:Nat,k<=n/\i=.int .i64 k/\(∀ j,j<k->Ba s j=false)/\Below w.heap.size w wr) (fun i _=>n-(intOf i).toNat)
 case atStart=>exact⟨0,Tt _,rfl,fun j hj=>by omega,Tu _ _⟩
 case round =>
  obtain⟨k,hk,rfl,hno,hB⟩:=hrel;by_cases hlt:k<n
  ·have c0:wr.cell? ⟨b,k * 3,none⟩=some (.bool (s.K k)):=(hB.cell (p:=⟨b,_,none⟩) hb).trans (hp.K hlt);have c1:wr.cell? ⟨b,k * 3+1,none⟩=some (.bool (s.L k)):=(hB.cell (p:=⟨b,_,none⟩) hb).trans (hp.L hlt);have c2:wr.cell? ⟨b,k * 3+2,none⟩=some (.int .i64 (s.H k)):=(hB.cell (p:=⟨b,_,none⟩) hb).trans (hp.H hlt);have hz:=hB.size;have HN:Hid (∀ j,j<k->Ba s j=false):=hno;clear hno;cases hK:s.K k
   ·have HS:Hid (∀ j,j<k+1->Ba s j=false):=fun j hj=>by
     by_cases e:j=k
     ·rw[e];simp[Ba,hK]
     ·exact HN.out j (by omega)
    rw[hK] at c0;clear hK HN;generalize s.L k=lk at *;generalize s.H k=hk' at *;go_wp2;go_roundw
    case rel=>exact⟨k+1,by omega,by go_num,HS.out,by repeat (first|exact hB|refine Below.alloc ?_ (by first|omega|(simp;omega)) _)⟩
    case measure=>simp[intOf];omega
   ·cases hL:s.L k
    ·have HS:Hid (Bi (Ba s) n=k):=GL _ _ _ hlt (by simp[Ba,hK,hL]) HN.out;rw[hK] at c0;rw[hL] at c1;clear hK hL HN;generalize s.H k=hk' at *;go_wp2;go_ret2
     refine⟨?_,by repeat (first|exact hB|refine Below.alloc ?_ (by first|omega|(simp;omega)) _)⟩;unfold GX;rw[HS.out];simp[hlt]
    ·have HS:Hid (∀ j,j<k+1->Ba s j=false):=fun j hj=>by
      by_cases e:j=k
      ·rw[e];simp[Ba,hL]
      ·exact HN.out j (by omega)
     rw[hK] at c0;rw[hL] at c1;clear hK hL HN;generalize s.H k=hk' at *;go_wp2;go_roundw
     case rel=>exact⟨k+1,by omega,by go_num,HS.out,by repeat (first|exact hB|refine Below.alloc ?_ (by first|omega|(simp;omega)) _)⟩
     case measure=>simp[intOf];omega
  ·have HS:Hid (Bi (Ba s) n=n):=Gc _ _ (fun j hj=>hno j (by omega));clear hno;go_wp2;go_ret2
   refine⟨?_,hB⟩;unfold GX;rw[HS.out];simp
theorem Aa{p:Prop}(h:p):Hid p:=h
section
variable {w:World}{b n:Nat}{s:St}
theorem Bf.alloc(h:Bf w b n s)(o:Obj):Bf (w.alloc o) b n s:=World.rowIs.alloc h o
theorem Bf.drewN(h:Bf w b n s)(k:Nat):Bf (w.drewN k) b n s:=h
theorem Kp.drewN{u:World}(h:Kp b u w)(k:Nat):Kp b u (w.drewN k):=⟨h.os,h.tape,h.output,h.size,h.block⟩
theorem Bf.below{w':World}{B:Nat}(h:Bf w b n s)(k:Below B w w')(hb:b<B):Bf w' b n s:=World.rowIs.of_block h (k.block b hb)
theorem LJ{op a:Int}{i:Nat}(hj:op=10\/op=11->0<=a):∀ t,t∈Bj op a i->0<=t:=by
 intro t ht;unfold Bj at ht;split at ht
 ·simp at ht
 ·split at ht
  ·simp at ht;subst ht;exact hj (Or.inl (by assumption))
  ·split at ht
   ·simp at ht;rcases ht with rfl|rfl
    ·omega
    ·exact hj (Or.inr (by assumption))
   ·simp at ht;omega
theorem LD(op a:Int)(i:Nat):(Bj op a i).length<=2:=by unfold Bj;split<;>(try split)<;>(try split)<;>simp
theorem Jz(l:List Int)(k:Nat)(h:k<l.length):l.getD k 0=l[k]:=by simp[List.getD_eq_getElem?_getD,h]
theorem Mx(n:Nat)(h:Int)(l:List Int)(s:St)(k:Nat)(hk:k<l.length) :
  BU n h (l.drop k) s=if (Cg n s (l.getD k 0) h).1=0 then BU n h (l.drop (k+1)) (Cg n s (l.getD k 0) h).2 else Cg n s (l.getD k 0) h:=by
 rw[List.drop_eq_getElem_cons hk,BU,Jz l k hk]
theorem Ma(n:Nat)(h:Int)(l:List Int)(s:St):BU n h (l.drop l.length) s=(0,s):=by simp[BU]
theorem Eb.kp{w':World}{c:Nat}{l:List Int}(h:Eb w b l)(k:Kp c w w')(hb:b<w.heap.size)(hc:b≠c):Eb w' b l :=
 fun j hj=>(k.cell (p:=⟨b,_,none⟩) hb hc).trans (h j hj)
theorem Nu(cb co cc b n i:Nat)(op ar:Nat->Int)(s:St)(w:World)(hc:BB w cb co n op ar)(hcb:cb<w.heap.size)(hne:¬cb=b)(hp:Bf w b n s)(ht:Cb w)(h0b:¬0=b)(hs:HB s)(hi:i<n)(hn:n<=64)
  (ho:0<=op i/\op i<22) (h13:op i=13->0<=ar i/\ar i<=8) (hj:op i=10\/op i=11->0<=ar i/\ar i<n) :
  Calls prog 95 #[.slice (some ⟨cb,co,none⟩) n cc,.slice (some ⟨b,0,none⟩) n n,.int .i64 i] w fun e w' =>
   e=.returned (.int .i64 (BM n op ar s i).1)/\Bf w' b n (BM n op ar s i).2/\Kp b w w':=by
 have hb:b<w.heap.size:=World.rowIs.lt hp;obtain⟨x0,x1⟩:=hc i hi;have fz:∀ o,w.frozen? ⟨b,o,none⟩=false:=fun o=>World.rowIs.frozen hp o
 have l1:=hp.L hi;have hp1:=hp.setL i true;have hk1:Kp b w (w.setCell ⟨b,i * 3+1,none⟩ (.bool true)):=(Kp.refl b w).set _ _;have ht1:=ht.kp hk1 (by omega) h0b;have HP:Hid (Bf (w.setCell ⟨b,i * 3+1,none⟩ (.bool true)) b n {s with L:=Ac s.L i true}/\Kp b w (w.setCell ⟨b,i * 3+1,none⟩ (.bool true))/\Cb (w.setCell ⟨b,i * 3+1,none⟩ (.bool true))/\BB w cb co n op ar/\HB s):=⟨hp1,hk1,ht1,hc,hs⟩
 clear hp1 hk1 ht1 hp ht hc hs;have Av:(w.setCell ⟨b,i * 3+1,none⟩ (.bool true)).heap.size=w.heap.size:=by simp[World.setCell]
 have hpb:=Mq h13;have hqb:=IJ (op i);have hHi:=HP.out.2.2.2.2 i;go_enter func95,ntmps95
 go_wp2_with fail
 refine(R7 _ _ _ HP.out.2.2.1 ho.1 ho.2 h13 (by omega)).mono ?_;rintro e w2 ⟨rfl,hB2⟩;obtain⟨hp1,hk1,ht1,hc,hs⟩:=HP.out;have hp2:=hp1.below hB2 (by omega);have hk2:Kp b w w2:=hk1.trans (Kp.of_below hB2);have y0:w2.cell? ⟨cb,co+i * 2,none⟩=some (.int .i64 (op i)):=((hc.kp hk2 hcb hne) i hi).1;have y1:w2.cell? ⟨cb,co+i * 2+1,none⟩=some (.int .i64 (ar i)):=((hc.kp hk2 hcb hne) i hi).2;have y2:w2.cell? ⟨b,i * 3+2,none⟩=some (.int .i64 (s.H i)):=hp2.H hi;have hsz2:w.heap.size<=w2.heap.size:=hk2.size;have hb2:b<w2.heap.size:=by omega
 have hcb2:cb<w2.heap.size:=by omega
 clear HP x0 x1 l1 hB2 hp1 hk1 ht1 hc Av fz;have hs1:HB {s with L:=Ac s.L i true}:=hs;clear hs;by_cases hA:s.H i<At (op i) (ar i)
 ·have HL:Hid (BM n op ar s i=(4,{s with L:=Ac s.L i true})):=by unfold Hid BM;rw[if_pos hA]
  have HP2:Hid (Bf w2 b n {s with L:=Ac s.L i true}/\Kp b w w2):=⟨hp2,hk2⟩
  clear hp2 hk2 hs1;generalize At (op i) (ar i)=pp at *;generalize Bc (op i)=qq at *;generalize s.H i=hh at *;go_wp2;go_quiet (fail)
  go_wp2;go_ret;rw[HL.out];exact⟨rfl,(HP2.out.1.alloc _).drewN _,(HP2.out.2.alloc _).drewN _⟩
 ·by_cases hC:16<s.H i-At (op i) (ar i)+Bc (op i)
  ·have HL:Hid (BM n op ar s i=(4,{s with L:=Ac s.L i true})):=by unfold Hid BM;rw[if_neg hA,if_pos hC]
   have HP2:Hid (Bf w2 b n {s with L:=Ac s.L i true}/\Kp b w w2):=⟨hp2,hk2⟩
   clear hp2 hk2 hs1;generalize At (op i) (ar i)=pp at *;generalize Bc (op i)=qq at *;generalize s.H i=hh at *;go_wp2;go_quiet (fail)
   go_wp2;go_quiet (fail)
   go_wp2;go_ret;rw[HL.out];exact⟨rfl,(HP2.out.1.alloc _).drewN _,(HP2.out.2.alloc _).drewN _⟩
  ·have HL:Hid (BM n op ar s i=BU n (s.H i-At (op i) (ar i)+Bc (op i)) (Bj (op i) (ar i) i) {s with L:=Ac s.L i true}):=by unfold Hid BM;rw[if_neg hA,if_neg hC]
   have HP2:Hid (Bf w2 b n {s with L:=Ac s.L i true}/\Kp b w w2/\HB {s with L:=Ac s.L i true}):=⟨hp2,hk2,hs1⟩
   clear hp2 hk2 hs1;generalize At (op i) (ar i)=pp at *;generalize Bc (op i)=qq at *;generalize s.H i=hh at *;go_wp2;go_quiet (fail)
   go_wp2;go_quiet (fail)
   go_wp2_with fail
   refine(Nh _ _ _ _ (by omega)).mono ?_;rintro e w3 ⟨p,c,rfl,hB3,hG⟩;obtain⟨hp2,hk2,hs1⟩:=HP2.out;have hp3:Bf w3 b n {s with L:=Ac s.L i true}:=((hp2.alloc _).drewN _).below hB3 (by simp;omega);have hk3:Kp b w w3:=((hk2.alloc _).drewN _).trans (Kp.of_below hB3);have hnn:=LJ (i:=i) (fun hx=>(hj hx).1);have hln:=LD (op i) (ar i) i;have hsz3:w2.heap.size+1<=w3.heap.size:=by have:=hB3.size;simpa using this
   clear HP2 hp2 hk2 hB3 y0 y1 y2 hcb2;generalize {s with L:=Ac s.L i true}=s1 at *;generalize Bj (op i) (ar i) i=l at *;clear ho h13 hj;rcases hG with rfl|⟨bl,hbl,hbl3,rfl,hI⟩
   ·have HF:Hid (Bf w3 b n s1/\Kp b w w3):=⟨hp3,hk3⟩
    clear hp3 hk3 hnn hs1;go_wp2;go_loopw [49] (fun j wr=>j=.int .i64 0/\wr=w3) (fun _ _=>0)
    case atStart=>exact⟨rfl,rfl⟩
    case round =>
     obtain⟨rfl,rfl⟩:=hrel;go_wp2;go_ret;rw[HL.out];exact⟨rfl,HF.out⟩
   ·have hblb:¬bl=b:=by simp at hbl;omega
    have hblw:w2.heap.size+1<=bl:=by simpa using hbl
    have HF:Hid ((∀ t,t∈l->0<=t)/\HB s1):=⟨hnn,hs1⟩
    clear hbl hnn hs1;have h16:0<=hh-pp+qq:=by omega
    generalize hh-pp+qq=ht at *;go_wp2;go_loopw [49] (fun j wr=>∃ (k:Nat) (sk:St),k<=l.length/\j=.int .i64 k/\BU n ht l s1=BU n ht (l.drop k) sk/\Bf wr b n sk/\Kp b w wr/\Eb wr bl l/\bl<wr.heap.size) (fun j _=>l.length-(intOf j).toNat)
    case atStart=>exact⟨0,s1,Tt _,rfl,rfl,hp3,hk3,hI,hbl3⟩
    case round =>
     obtain⟨k,sk,hk,rfl,hR,hpk,hkk,hIk,hblk⟩:=hrel;by_cases hlt:k<l.length
     ·have z:=hIk k hlt;have hz0:0<=l.getD k 0:=HF.out.1 _ (by rw[Jz l k hlt];exact List.getElem_mem _);have HK:Hid (BU n ht l s1=BU n ht (l.drop k) sk/\Bf wr b n sk/\Kp b w wr/\Eb wr bl l):=⟨hR,hpk,hkk,hIk⟩
      have hst:=Mx n ht l sk k hlt;clear hR hpk hkk hIk hp3 hk3 hI;generalize l.getD k 0=tk at *;have HS:Hid (BU n ht (l.drop k) sk=if (Cg n sk tk ht).1=0 then BU n ht (l.drop (k+1)) (Cg n sk tk ht).2 else Cg n sk tk ht):=hst;clear hst;have hcon:=Q9 b n sk tk ht wr HK.out.2.1 hz0;rcases hrp:Cg n sk tk ht with⟨er,sr⟩
      rw[hrp] at hcon;unfold Hid at HS;rw[hrp] at HS;simp only at hcon HS;have HC:=Aa hcon;have HS':=Aa HS;clear hcon HS hrp;go_wp2_with fail
      refine HC.out.mono ?_;rintro e w4 ⟨rfl,hp4,hk4⟩;have hk5:Kp b w w4:=HK.out.2.2.1.trans hk4;have hI5:Eb w4 bl l:=HK.out.2.2.2.kp hk4 hblk hblb;have hb5:bl<w4.heap.size:=by have:=hk4.size;omega
      have HM:Hid (Bf w4 b n sr/\Kp b w w4/\Eb w4 bl l):=⟨hp4,hk5,hI5⟩
      clear hp4 hk4 hk5 hI5 HC;by_cases her:er=0
      ·subst her;go_wp2;go_roundw
       case rel=>exact⟨k+1,sr,by omega,by go_num,by rw[HK.out.1,HS'.out];rfl,HM.out.1,HM.out.2.1,HM.out.2.2,hb5⟩
       case measure=>simp[intOf];omega
      ·have hne:(er != 0)=true:=by simpa using her
       have HR:Hid (BM n op ar s i=(er,sr)):=by unfold Hid;rw[HL.out,HK.out.1,HS'.out,if_neg her]
       clear her;go_wp2;go_ret;rw[HR.out];exact⟨rfl,HM.out.1,HM.out.2.1⟩
     ·obtain rfl:k=l.length:=by omega
      have HR:Hid (BM n op ar s i=(0,sk)):=by unfold Hid;rw[HL.out,hR,Ma]
      have HM:Hid (Bf wr b n sk/\Kp b w wr):=⟨hpk,hkk⟩
      clear hR hpk hkk hIk hp3 hk3 hI;go_wp2;go_ret;rw[HR.out];exact⟨rfl,HM.out.1,HM.out.2⟩
end
theorem Fo{P:Program}(t e:TypeId)(z:Value)(zs:Array Value)(sz bytes:Nat)(ht:P.underlying t=some (.slice e))(hinfo:(P.info? e).map (fun i=>(i.zero,i.size,i.bytes))=some (some z,sz,bytes))(hz:z.cells=zs)
  (kl kc:IntKind) (n:Nat) (hbytes:bytes * n<=281474976710656) (h63:n<=9223372036854775807) (w:World) :
  (Instr.makeSlice t (.int kl (n:Int)) (.int kc (n:Int))).run P w=.ok (.slice (some ⟨w.heap.size,0,none⟩) n n) (w.alloc (.cells (madeCells zs (n * sz)) e)):=by
 obtain⟨i,hi,hzz⟩:=Tp.1 hinfo;simp only[Prod.mk.injEq] at hzz;obtain⟨hzero,hs,hb⟩:=hzz;have hb':(i.bytes:Int) * (n:Int)<=281474976710656:=by
  have h:((i.bytes * n:Nat):Int)<=281474976710656:=by rw[hb];omega
  rwa [Int.natCast_mul] at h
 have hr:=run_make (P:=P) w t e i z ht hi hzero kl kc n n (by omega) (Int.le_refl _) hb' (by omega);simp only[Int.toNat_natCast,hs,hz] at hr;exact hr
theorem Tryz.info171:(prog.info? 171).map (fun i=>(i.zero,i.size,i.bytes))=some (some (.agg #[.bool false,.bool false,.int .i64 0]),3,16):=by kernel_rfl
def EV(n:Nat):Array Value:=madeCells #[.bool false,.bool false,.int .i64 0] (n * 3)
theorem Pe(n:Nat)(h:1<=n):(EV n)[0]?=some (.bool false):=by
 have:0<n * 3:=by omega
 simp[EV,madeCells,this]
theorem RV(w:World)(n:Nat)(hn:1<=n):Bf (w.alloc (.cells ((EV n).setIfInBounds 0 (.bool true)) 171)) w.heap.size n s0:=by
 refine⟨_,Tv _ _,by simp[EV,size_madeCells],fun i hi=>?_⟩;have:i % 3=0\/i % 3=1\/i % 3=2:=by omega
 by_cases h0:i=0
 ·subst h0;have hl:0<(EV n).size:=by simp[EV,size_madeCells];omega
  simp[hl,Cz,s0,Ac]
 ·rw[Array.getElem?_setIfInBounds_ne (by omega)];rcases this with e|e|e<;>simp[EV,madeCells,hi,Cz,e,s0,Ac]
  omega
theorem Ms(n:Nat)(op ar:Nat->Int)(f:Nat)(s:St):Cl n op ar (f+1) s =
  if Bi (Ba s) n<n then
   if (BM n op ar s (Bi (Ba s) n)).1=0 then Cl n op ar f (BM n op ar s (Bi (Ba s) n)).2
   else ((BM n op ar s (Bi (Ba s) n)).1,(Bi (Ba s) n:Int))
  else (0,0):=rfl
theorem RW(cb co cc n:Nat)(op ar:Nat->Int)(w:World)(hc:BB w cb co n op ar)(hcb:cb<w.heap.size)(ht:Cb w)(hn1:1<=n)(hn:n<=64)(lc m:Int)
  (hleg:∀ j,j<n->Bz (op j) (ar j) lc n m=true) :
  Calls prog 73 #[.slice (some ⟨cb,co,none⟩) n cc] w fun e w' =>
   e=.returned (.tuple #[.int .i64 (Cl n op ar (n+1) s0).1,.int .i64 (Cl n op ar (n+1) s0).2])/\Below w.heap.size w w':=by
 have hmk:∀ wx:World,(Instr.makeSlice 169 (.int .i64 (n:Int)) (.int .i64 (n:Int))).run prog wx=.ok (.slice (some ⟨wx.heap.size,0,none⟩) n n) (wx.alloc (.cells (EV n) 171)) :=
  fun wx=>Fo (P:=prog) 169 171 _ _ 3 16 underlying169 Tryz.info171 rfl .i64 .i64 n (by omega) (by omega) wx
 have h0:=Pe n hn1;have HI:Hid (BB w cb co n op ar/\Cb w/\∀ j,j<n->Bz (op j) (ar j) lc n m=true):=⟨hc,ht,hleg⟩
 clear hc ht hleg;generalize hR:Cl n op ar (n+1) s0=R at *;have HR:=Aa hR;clear hR;have hw0:Below w.heap.size w (w.alloc (.cells ((EV n).setIfInBounds 0 (.bool true)) 171)):=(Tu _ _).alloc (Te _) _;have HW:=Aa hw0;clear hw0;go_enter func73,ntmps73
 go_wp2;go_loopg [] n (fun gk wr=>∃ s:St,Cf s.L n<=gk/\Cl n op ar (gk+1) s=R/\HB s/\Bf wr w.heap.size n s/\Below w.heap.size w wr)
 case atStart=>exact⟨s0,I1 _ _,HR.out,Lt,RV w n hn1,HW.out⟩
 case round =>
  obtain⟨s,hu,hF,hH,hP,hB⟩:=hrel;have HK:Hid (Cf s.L n<=gk/\Cl n op ar (gk+1) s=R/\HB s/\Bf wr w.heap.size n s/\Below w.heap.size w wr):=⟨hu,hF,hH,hP,hB⟩
  clear hu hF hH hP hB HR HW h0 hmk;go_wp2_with fail
  refine(QM _ n s wr HK.out.2.2.2.1 hn).mono ?_;rintro e w2 ⟨rfl,hB2⟩;obtain⟨hu,hF,hH,hP,hB⟩:=HK.out;have hs1:w.heap.size<wr.heap.size:=World.rowIs.lt hP;have hB2':Below w.heap.size w w2:=hB.trans (hB2.mono (by omega));have hP2:=hP.below hB2 hs1;have hF2:=hF;rw[Ms] at hF2;unfold GX;rcases FR (Ba s) n with⟨h1,h2,h3⟩|⟨h1,h2⟩
  ·rw[if_pos h1] at hF2 ⊢;have hdec:decide (Bi (Ba s) n<n)=true:=by simp[h1]
   rw[hdec];have hwt:s.L (Bi (Ba s) n)=false:=by
    have:=h2;simp only[Ba,Bool.and_eq_true,Bool.not_eq_true'] at this;exact this.2
   generalize Bi (Ba s) n=i at *;have hul:=JW s.L n i h1 hwt;have hl:=HI.out.2.2 i h1;have hcon:=Nu cb co cc w.heap.size n i op ar s w2 (HI.out.1.below hB2' hcb) (by have:=hB2'.size;omega) (by omega) hP2 (HI.out.2.1.below hB2' (by omega)) (by omega) hH h1 hn (E3 hl) (Fz hl) (DF hl);have hLL:=JQ n op ar s i;have hHH:=KX (n:=n) (op:=op) (ar:=ar) (i:=i) hH;rcases hlk:BM n op ar s i with⟨er,sr⟩
   rw[hlk] at hcon hF2 hLL hHH;simp only at hcon hF2 hLL hHH;have HC:=Aa hcon;have HX:Hid (Below w.heap.size w w2/\(if er=0 then Cl n op ar gk sr else (er,(i:Int)))=R/\sr.L=Ac s.L i true/\HB sr/\Cf (Ac s.L i true) n+1=Cf s.L n/\Cf s.L n<=gk):=⟨hB2',hF2,hLL,hHH,hul,hu⟩
   clear hcon hF2 hLL hHH hul hu hF hH hP hB hP2 hB2 hB2' hlk hl h2 h3 hdec hwt HK;go_wp2_with fail
   refine HC.out.mono ?_;rintro e w3 ⟨rfl,hP3,hK3⟩;obtain⟨hB2,hF2,hLL,hHH,hul,hu⟩:=HX.out;have hB3:Below w.heap.size w w3:=hB2.trans (hK3.below (Te _) hB2.size);by_cases her:er=0
   ·subst her;rw[if_pos rfl] at hF2;have HY:Hid (∃ s:St,Cf s.L n<=gk-1/\Cl n op ar (gk-1+1) s=R/\HB s/\Bf w3 w.heap.size n s/\Below w.heap.size w w3) :=
     ⟨sr,by rw[hLL];omega,by rw[show gk-1+1=gk by omega];exact hF2,hHH,hP3,hB3⟩
    have hgk:gk-1<gk:=by omega
    clear hF2 hLL hHH hul hu hP3 hB3 hB2 hK3 HX HC;go_wp2;go_roundg (gk-1)
    case measure=>exact hgk
    case rel=>exact HY.out
   ·have hb:(er != 0)=true:=by simpa using her
    rw[if_neg her] at hF2;have HY:Hid (R=(er,(i:Int))/\Below w.heap.size w w3):=⟨hF2.symm,hB3⟩
    clear hF2 hLL hHH hul hu hP3 hB3 hB2 hK3 HX HC her;go_wp2;go_ret2
    rw[HY.out.1];exact⟨rfl,HY.out.2⟩
  ·rw[h1,if_neg (by omega)] at hF2 ⊢;have hdec:decide (n<n)=false:=by simp
   rw[hdec];have HY:Hid (R=(0,0)/\Below w.heap.size w w2):=⟨hF2.symm,hB2'⟩
   clear hF2 h1 h2 hu hF hH hP hB hP2 hB2 hB2' HK hdec;go_wp2;go_ret2
   rw[HY.out.1];exact⟨rfl,HY.out.2⟩
end Go.Proofs.YtkafkipjedpohaaGreatDoor

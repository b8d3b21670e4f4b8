import Derived.Test.YtkafkipjedpohaaGreatDoorU10
namespace Go.Proofs.YtkafkipjedpohaaGreatDoor
set_option maxRecDepth 100000
set_option maxHeartbeats 16000000
open Go.RowKit _root_.Go.Proofs.Tryz
theorem GY(i:Nat):Int.tdiv (i:Int) 4=((i / 4:Nat):Int):=rfl
theorem KF(k:Int)(X:World):(binOp .neq 43 (.agg #[.int .i64 k,.int .i64 0]) (.agg #[.int .i64 k,.int .i64 0])).run prog X=.ok (.bool false) X:=by
 have e1:(k==k)=true:=by simp
 go_simp
theorem AZ.look{w wr:World}{B wb:Nat}{A:AN}{Kd:Nat->Prop}{n:Nat->Nat}(h:AZ w B wb A Kd n)(hB:Below w.heap.size w wr)(k:Nat)(hk:k<4)(i:Nat)(hi:i<n k) :
  ∃ rb rcap p m cap,A.hv k=.slice (some ⟨rb,0,none⟩) (n k) rcap/\wr.cell? ⟨rb,i,none⟩=some (.slice p m cap)/\m<=200003/\(0<m->∃ b,p=some ⟨b,0,none⟩/\∀ wz,Below w.heap.size w wz->∀ j,j<m * Av k->wz.cell? ⟨b,j,none⟩=some (Dz A.XB k (i / 4) (j % Av k)))/\∀ wz,Below w.heap.size w wz->wz.cell? ⟨rb,i,none⟩=some (.slice p m cap):=by
 have hr:=h.row k hk;obtain⟨rb,rcap,e,hb,hz,ht,_⟩:=hr.form (by omega);rw[e] at hr;have hc:=hr.cell (i:=i) (by omega);obtain⟨p,m,cap,hv,hm,hf⟩:=h.ent k hk i hi;rw[hv] at hc;refine⟨rb,rcap,p,m,cap,e,(hB.cell (p:=⟨rb,i,none⟩) hz).trans hc,hm,fun h0=>?_,fun wz hw=>(hw.cell (p:=⟨rb,i,none⟩) hz).trans hc⟩;obtain⟨b,e2,_,_,hbz,hcs⟩:=hf h0;exact⟨b,e2,fun wz hw j hj=>(hw.cell (p:=⟨b,j,none⟩) hbz).trans (hcs j hj)⟩
theorem AZ.fld{w wr:World}{B wb:Nat}{A:AN}{Kd:Nat->Prop}{n:Nat->Nat}(h:AZ w B wb A Kd n)(hB:Below w.heap.size w wr)(k:Nat)(hk:k<4):∃ p cap,A.hv k=.slice p (n k) cap/\wr.cell? ⟨wb,2+k,none⟩=some (.slice p (n k) cap):=by
 have hr:=h.row k hk;obtain⟨p,cap,e⟩:∃ p cap,A.hv k=.slice p (n k) cap:=by
  rcases hr with⟨h1,h2⟩|⟨b,cap,cur,h1,_⟩
  ·exact⟨none,0,by rw[h1,h2]⟩
  ·exact⟨_,_,h1⟩
 refine⟨p,cap,e,?_⟩;rw[hB.cell (p:=⟨wb,2+k,none⟩) (Ah h.blk),Ab h.blk,<-e];have:k=0\/k=1\/k=2\/k=3:=by omega
 rcases this with rfl|rfl|rfl|rfl<;>rfl
theorem RP(w:World)(B wb:Nat)(A:AN)(Kd:Nat->Prop)(n:Nat->Nat)(h:AZ w B wb A Kd n)(hn:∀ k,k<4->n k<=5000000000000) :
  Calls prog 39 #[.pointer (some ⟨wb,2,none⟩)] w fun e w'=>e=.returned (.bool true)/\Below w.heap.size w w':=by
 have HX:=Aa h;have b0:=hn 0 (by omega);have b1:=hn 1 (by omega);have b2:=hn 2 (by omega);have b3:=hn 3 (by omega);generalize h0:n 0=n0 at *;generalize h1:n 1=n1 at *;generalize h2:n 2=n2 at *;generalize h3:n 3=n3 at *;have HE:=Aa (Tc h0 (Tc h1 (Tc h2 h3)));clear h h0 h1 h2 h3 hn;go_enter func39,ntmps39
 go_wp2;go_loopw [3] (fun v wr=>∃ i:Nat,i<=n0/\v=.int .i64 i/\Below w.heap.size w wr) (fun v _=>n0-(intOf v).toNat)
 case atStart=>exact⟨0,Tt _,rfl,Tu _ _⟩
 case round =>
  obtain⟨i,hi,rfl,hB⟩:=hrel;obtain⟨p0,c0,ev,f0⟩:=HX.out.fld hB 0 (by omega);rw[HE.out.1] at ev f0;simp only[Nat.add_zero] at f0;by_cases hlt:i<n0
  ·have hd:decide ((i:Int)<(n0:Int))=true:=by simp;omega
   obtain⟨rb,rcap,p,m,cap,e1,y0,hm,hcs,hyz⟩:=HX.out.look hB 0 (by omega) i (by rw[HE.out.1];exact hlt);rw[ev,HE.out.1] at e1;injection e1 with e1 _ e3;subst e1;subst e3;have HB:=Aa hB;have HC:=Aa (Tc hcs hyz);have HF:=Aa (fun wz (hz:Below w.heap.size w wz)=>HX.out.fld hz 0 (by omega));clear hB hcs hyz;go_wp2;clear y0 f0;go_loopw [4] (fun v wz=>∃ k:Nat,k<=m/\v=.int .i64 k/\Below w.heap.size w wz) (fun v _=>m-(intOf v).toNat)
   case atStart=>exact⟨0,Tt _,rfl,HB.out⟩
   case round =>
    clear HB;obtain⟨k,hk,rfl,hB⟩:=hrel;obtain⟨p0',c0',ev',f0⟩:=HF.out _ hB;rw[HE.out.1] at ev' f0;rw[ev] at ev';injection ev' with e1 _ e3;subst e1;subst e3;simp only[Nat.add_zero] at f0;have y0:=HC.out.2 _ hB;by_cases hltk:k<m
    ·have hdk:decide ((k:Int)<(m:Int))=true:=by simp;omega
     obtain⟨b,rfl,hcs⟩:=HC.out.1 (by omega);have x0:=hcs _ hB (k * 2) (by show k * 2<m * 2;omega);have x1:=hcs _ hB (k * 2+1) (by show k * 2+1<m * 2;omega);rw[show Dz A.XB 0 (i / 4) (k * 2 % Av 0)=.int .i64 (-1000-((i / 4:Nat):Int)) by show DB (i / 4) (k * 2 % 2)=_;rw[show k * 2 % 2=0 by omega];rfl] at x0;rw[show Dz A.XB 0 (i / 4) ((k * 2+1) % Av 0)=.int .i64 0 by show DB (i / 4) ((k * 2+1) % 2)=_;rw[show (k * 2+1) % 2=1 by omega];rfl] at x1;have e4:=GY i;have hqd:i / 4<=5000000000000:=by omega
     generalize i / 4=qd at *;have e5:wrap64 (-1000-(qd:Int))=-1000-(qd:Int):=by unfold wrap64;omega
     have hne:=KF (-1000-(qd:Int));have HB:=Aa hB;clear hB hcs;go_wp2;exact⟨⟨k+1,by omega,by go_num,HB.out⟩,by simp[intOf];omega⟩
    ·have hdk:decide ((k:Int)<(m:Int))=false:=by simp;omega
     have HB:=Aa hB;clear hB;go_wp2;exact⟨⟨i+1,by omega,by go_num,HB.out⟩,by simp[intOf];omega⟩
  ·have hd:decide ((i:Int)<(n0:Int))=false:=by simp;omega
   have HB:=Aa hB;clear hB;go_wp2;clear f0;go_loopw [5] (fun v wr=>∃ i:Nat,i<=n3/\v=.int .i64 i/\Below w.heap.size w wr) (fun v _=>n3-(intOf v).toNat)
   case atStart=>exact⟨0,Tt _,rfl,HB.out⟩
   case round =>
    clear HB;obtain⟨i,hi,rfl,hB⟩:=hrel;obtain⟨p0,c0,ev,f0⟩:=HX.out.fld hB 3 (by omega);rw[HE.out.2.2.2] at ev f0;change _=some _ at f0;have f5:wr.cell? ⟨wb,5,none⟩=some (.slice p0 n3 c0):=f0;clear f0;by_cases hlt:i<n3
    ·have hd:decide ((i:Int)<(n3:Int))=true:=by simp;omega
     obtain⟨rb,rcap,p,m,cap,e1,y0,hm,hcs,hyz⟩:=HX.out.look hB 3 (by omega) i (by rw[HE.out.2.2.2];exact hlt);rw[ev,HE.out.2.2.2] at e1;injection e1 with e1 _ e3;subst e1;subst e3;have HB:=Aa hB;have HC:=Aa (Tc hcs hyz);have HF:=Aa (fun wz (hz:Below w.heap.size w wz)=>HX.out.fld hz 3 (by omega));clear hB hcs hyz;go_wp2;clear y0 f5;go_loopw [6] (fun v wz=>∃ k:Nat,k<=m/\v=.int .i64 k/\Below w.heap.size w wz) (fun v _=>m-(intOf v).toNat)
     case atStart=>exact⟨0,Tt _,rfl,HB.out⟩
     case round =>
      clear HB;obtain⟨k,hk,rfl,hB⟩:=hrel;obtain⟨p0',c0',ev',f0⟩:=HF.out _ hB;rw[HE.out.2.2.2] at ev' f0;rw[ev] at ev';injection ev' with e1 _ e3;subst e1;subst e3;have f5:wr.cell? ⟨wb,5,none⟩=some (.slice (some ⟨rb,0,none⟩) n3 c0):=f0;clear f0;have y0:=HC.out.2 _ hB;by_cases hltk:k<m
      ·have hdk:decide ((k:Int)<(m:Int))=true:=by simp;omega
       obtain⟨b,rfl,hcs⟩:=HC.out.1 (by omega);have x0:wr.cell? ⟨b,k,none⟩=some (.int .i64 (-1000-((i / 4:Nat):Int))):=hcs _ hB k (by show k<m * 1;omega);have e4:=GY i;have hqd:i / 4<=5000000000000:=by omega
       generalize i / 4=qd at *;have e5:wrap64 (-1000-(qd:Int))=-1000-(qd:Int):=by unfold wrap64;omega
       have hne:((-1000-(qd:Int)) != (-1000-(qd:Int)))=false:=by simp
       have HB:=Aa hB;clear hB hcs;go_wp2;exact⟨⟨k+1,by omega,by go_num,HB.out⟩,by simp[intOf];omega⟩
      ·have hdk:decide ((k:Int)<(m:Int))=false:=by simp;omega
       have HB:=Aa hB;clear hB;go_wp2;exact⟨⟨i+1,by omega,by go_num,HB.out⟩,by simp[intOf];omega⟩
    ·have hd:decide ((i:Int)<(n3:Int))=false:=by simp;omega
     have HB:=Aa hB;clear hB;go_wp2;clear f5;go_loopw [7] (fun v wr=>∃ i:Nat,i<=n1/\v=.int .i64 i/\Below w.heap.size w wr) (fun v _=>n1-(intOf v).toNat)
     case atStart=>exact⟨0,Tt _,rfl,HB.out⟩
     case round =>
      clear HB;obtain⟨i,hi,rfl,hB⟩:=hrel;obtain⟨p0,c0,ev,f0⟩:=HX.out.fld hB 1 (by omega);rw[HE.out.2.1] at ev f0;have f3:wr.cell? ⟨wb,3,none⟩=some (.slice p0 n1 c0):=f0;clear f0;by_cases hlt:i<n1
      ·have hd:decide ((i:Int)<(n1:Int))=true:=by simp;omega
       obtain⟨rb,rcap,p,m,cap,e1,y0,hm,hcs,hyz⟩:=HX.out.look hB 1 (by omega) i (by rw[HE.out.2.1];exact hlt);rw[ev,HE.out.2.1] at e1;injection e1 with e1 _ e3;subst e1;subst e3;have HB:=Aa hB;have HC:=Aa (Tc hcs hyz);have HF:=Aa (fun wz (hz:Below w.heap.size w wz)=>HX.out.fld hz 1 (by omega));clear hB hcs hyz;go_wp2;clear y0 f3;go_loopw [8] (fun v wz=>∃ k:Nat,k<=m/\v=.int .i64 k/\Below w.heap.size w wz) (fun v _=>m-(intOf v).toNat)
       case atStart=>exact⟨0,Tt _,rfl,HB.out⟩
       case round =>
        clear HB;obtain⟨k,hk,rfl,hB⟩:=hrel;obtain⟨p0',c0',ev',f0⟩:=HF.out _ hB;rw[HE.out.2.1] at ev' f0;rw[ev] at ev';injection ev' with e1 _ e3;subst e1;subst e3;have f3:wr.cell? ⟨wb,3,none⟩=some (.slice (some ⟨rb,0,none⟩) n1 c0):=f0;clear f0;have y0:=HC.out.2 _ hB;by_cases hltk:k<m
        ·have hdk:decide ((k:Int)<(m:Int))=true:=by simp;omega
         obtain⟨b,rfl,hcs⟩:=HC.out.1 (by omega);have x0:=hcs _ hB (k * 4) (by show k * 4<m * 4;omega);have x1:=hcs _ hB (k * 4+1) (by show k * 4+1<m * 4;omega);have x2:=hcs _ hB (k * 4+2) (by show k * 4+2<m * 4;omega);have x3:=hcs _ hB (k * 4+3) (by show k * 4+3<m * 4;omega);rw[show Dz A.XB 1 (i / 4) (k * 4 % Av 1)=.int .i64 (-1000-((i / 4:Nat):Int)) by show CI (i / 4) (k * 4 % 4)=_;rw[show k * 4 % 4=0 by omega];rfl] at x0;rw[show Dz A.XB 1 (i / 4) ((k * 4+1) % Av 1)=.int .i64 0 by show CI (i / 4) ((k * 4+1) % 4)=_;rw[show (k * 4+1) % 4=1 by omega];rfl] at x1;rw[show Dz A.XB 1 (i / 4) ((k * 4+2) % Av 1)=.slice none 0 0 by show CI (i / 4) ((k * 4+2) % 4)=_;rw[show (k * 4+2) % 4=2 by omega];rfl] at x2;rw[show Dz A.XB 1 (i / 4) ((k * 4+3) % Av 1)=.slice none 0 0 by show CI (i / 4) ((k * 4+3) % 4)=_;rw[show (k * 4+3) % 4=3 by omega];rfl] at x3;have e4:=GY i;have hqd:i / 4<=5000000000000:=by omega
         generalize i / 4=qd at *;have e5:wrap64 (-1000-(qd:Int))=-1000-(qd:Int):=by unfold wrap64;omega
         have hne:((-1000-(qd:Int)) != (-1000-(qd:Int)))=false:=by simp
         have HB:=Aa (hB.alloc hB.size (.cells #[.int .i64 (-1000-(qd:Int)),.int .i64 0,.slice none 0 0,.slice none 0 0] 73));clear hB hcs;go_wp2;exact⟨⟨k+1,by omega,by go_num,HB.out⟩,by simp[intOf];omega⟩
        ·have hdk:decide ((k:Int)<(m:Int))=false:=by simp;omega
         have HB:=Aa hB;clear hB;go_wp2;exact⟨⟨i+1,by omega,by go_num,HB.out⟩,by simp[intOf];omega⟩
      ·have hd:decide ((i:Int)<(n1:Int))=false:=by simp;omega
       have HB:=Aa hB;clear hB;go_wp2;clear f3;go_loopw [10] (fun v wr=>∃ i:Nat,i<=n2/\v=.int .i64 i/\Below w.heap.size w wr) (fun v _=>n2-(intOf v).toNat)
       case atStart=>exact⟨0,Tt _,rfl,HB.out⟩
       case round =>
        clear HB;obtain⟨i,hi,rfl,hB⟩:=hrel;obtain⟨p0,c0,ev,f0⟩:=HX.out.fld hB 2 (by omega);rw[HE.out.2.2.1] at ev f0;have f4:wr.cell? ⟨wb,4,none⟩=some (.slice p0 n2 c0):=f0;clear f0;by_cases hlt:i<n2
        ·have hd:decide ((i:Int)<(n2:Int))=true:=by simp;omega
         obtain⟨rb,rcap,p,m,cap,e1,y0,hm,hcs,hyz⟩:=HX.out.look hB 2 (by omega) i (by rw[HE.out.2.2.1];exact hlt);rw[ev,HE.out.2.2.1] at e1;injection e1 with e1 _ e3;subst e1;subst e3;have HXX:=Aa (HX.out.ex i (by rw[HE.out.2.2.1];exact hlt));have HB:=Aa hB;have HC:=Aa (Tc hcs hyz);have HF:=Aa (fun wz (hz:Below w.heap.size w wz)=>HX.out.fld hz 2 (by omega));clear hB hcs hyz;go_wp2;clear y0 f4;go_loopw [11] (fun v wz=>∃ k:Nat,k<=m/\v=.int .i64 k/\Below w.heap.size w wz) (fun v _=>m-(intOf v).toNat)
         case atStart=>exact⟨0,Tt _,rfl,HB.out⟩
         case round =>
          clear HB;obtain⟨k,hk,rfl,hB⟩:=hrel;obtain⟨p0',c0',ev',f0⟩:=HF.out _ hB;rw[HE.out.2.2.1] at ev' f0;rw[ev] at ev';injection ev' with e1 _ e3;subst e1;subst e3;have f4:wr.cell? ⟨wb,4,none⟩=some (.slice (some ⟨rb,0,none⟩) n2 c0):=f0;clear f0;have y0:=HC.out.2 _ hB;by_cases hltk:k<m
          ·have hdk:decide ((k:Int)<(m:Int))=true:=by simp;omega
           obtain⟨b,rfl,hcs⟩:=HC.out.1 (by omega);have x0:wr.cell? ⟨b,k,none⟩=some (.slice (some ⟨A.XB (i / 4),0,none⟩) 1 1):=hcs _ hB k (by show k<m * 1;omega);obtain⟨hz1,_,_,q0,q1⟩:=HXX.out;have x1:wr.cell? ⟨A.XB (i / 4),0,none⟩=some (.int .i64 (-1000-((i / 4:Nat):Int))):=(hB.cell (p:=⟨A.XB (i / 4),0,none⟩) hz1).trans q0;have x2:wr.cell? ⟨A.XB (i / 4),1,none⟩=some (.int .i64 0):=(hB.cell (p:=⟨A.XB (i / 4),1,none⟩) hz1).trans q1;clear hz1 q0 q1;generalize A.XB (i / 4)=xb at *;have e4:=GY i;have hqd:i / 4<=5000000000000:=by omega
           generalize i / 4=qd at *;have e5:wrap64 (-1000-(qd:Int))=-1000-(qd:Int):=by unfold wrap64;omega
           have hne:=KF (-1000-(qd:Int));have HB:=Aa hB;clear hB hcs;go_wp2;exact⟨⟨k+1,by omega,by go_num,HB.out⟩,by simp[intOf];omega⟩
          ·have hdk:decide ((k:Int)<(m:Int))=false:=by simp;omega
           have HB:=Aa hB;clear hB;go_wp2;exact⟨⟨i+1,by omega,by go_num,HB.out⟩,by simp[intOf];omega⟩
        ·have hd:decide ((i:Int)<(n2:Int))=false:=by simp;omega
         have HB:=Aa hB;clear hB;go_wp2;go_ret;exact⟨rfl,HB.out⟩
open Go
section
variable {P:Program} {ops:Array Oper} {Q:Exit->Act->World->Prop} {S:World->Prop} {z:Nat}
def GM(ops:Array Oper)(z:Nat):Bool:=match ops[z]? with
 |none=>false
 |some o=>(List.range ops.size).all fun i=>i==z || o.after.any fun e=>Region.binds .any e&&e.on==i
theorem M7{listed:Array Bool}{i:Nat}(hw:GM ops z=true)(hi:i∈Region.ready .any ops listed)(hne:i≠z):¬z∈Region.ready .any ops listed:=by
 intro hz;obtain⟨u0,oi,hoi,_⟩:=mem_ready.1 hi;obtain⟨_,oz,hoz,hall⟩:=mem_ready.1 hz;unfold GM at hw;rw[hoz] at hw;have h1:=List.all_eq_true.1 hw i (List.mem_range.2 (Array.getElem?_eq_some_iff.1 hoi).1);simp only[Bool.or_eq_true,beq_iff_eq,hne,false_or,Array.any_eq_true',Bool.and_eq_true] at h1;obtain⟨e,he,hb,rfl⟩:=h1;have h2:=hall e he hb;rcases Nat.lt_or_ge e.on listed.size with h|h
 ·simp[h] at u0 h2;rw[u0] at h2;cases h2
 ·simp[Array.getElem?_eq_none h] at h2
def EC(P:Program)(ops:Array Oper)(Q:Exit->Act->World->Prop)(S:World->Prop)(z:Nat):Nat->Array Bool->Act->World->Prop
 |0,listed,a,w=>Region.ready .any ops listed=[]/\Q .normal a w
 |n+1,listed,a,w=>(Region.ready .any ops listed=[]->Q .normal a w) /\
   ∀ i∈Region.ready .any ops listed,wpOp P ops Q i (fun a' w'=>(i≠z->S w')/\EC P ops Q S z n (listed.setIfInBounds i true) a' w') a w
theorem EC.any:∀ (n:Nat) (listed:Array Bool) (a:Act) (w:World),EC P ops Q S z n listed a w->wpAny P .any ops Q n listed a w
 |0,_,_,_,h=>h
 |n+1,_,_,_,h=>⟨h.1,fun i hi=>wpOp_mono (fun a' w' h'=>EC.any n _ a' w' h'.2) (h.2 i hi)⟩
theorem EC.take{i:Nat}{oi:Oper}{v:Value}(hi:ops[i]?=some oi)(hs:Region.noSelect ops=true)(hw:GM ops z=true)(hiz:i≠z)(hQ:∀ c a w,Q (.panic c) (a.put oi.dst v) w->Q (.panic c) a w) :
  ∀ (n:Nat) (listed:Array Bool) (a:Act) (w:World),
   (∀ j oj,ops[j]?=some oj->j≠i->listed.getD j true=false->(∀ e∈oj.after,Region.binds .any e=true->e.on≠i)->oi.apart ops oj=true) ->
   i∈Region.ready .any ops listed->YieldsIf P ops S oi v a->S w->EC P ops Q S z n (listed.setIfInBounds i true) (a.put oi.dst v) w->EC P ops Q S z (n+1) listed a w
 |n,listed,a,w,hfree,hr,hy,hS,H=>by
  refine⟨fun h=>(by rw[h] at hr;cases hr),fun j hj=>?_⟩;by_cases hji:j=i
  ·rw[hji];exact hy.wpOp hi hS ⟨fun _=>hS,H⟩
  have hjr:=ready_mono hj hji;have hjz:j≠z:=fun e=>M7 hw hr hiz (e ▸ hj)
  cases n with
  |zero=>rw[H.1] at hjr;cases hjr
  |succ n =>
   have h1:=H.2 j hjr;obtain⟨hjun,oj,hoj,hall⟩:=mem_ready.1 hj;have hsel:=Region.noSelect_spec hs;have hnot:∀ e∈oj.after,Region.binds .any e=true->e.on≠i:=fun e he hb heq=>by
    have h2:=hall e he hb;have h0:=(mem_ready.1 hr).1;rw[heq] at h2;rcases Nat.lt_or_ge i listed.size with h'|h'
    ·simp[h'] at h0 h2;rw[h0] at h2;cases h2
    ·simp[Array.getElem?_eq_none h'] at h2
   have h2:=wpOp_putIf hoj (hfree j oj hoj hji hjun hnot) (fun cs b=>hsel i oi cs b hi) (fun cs b=>hsel j oj cs b hoj) hQ hy h1;refine wpOp_mono (fun a' w' h3=>⟨h3.2.1,EC.take hi hs hw hiz hQ n _ a' w' (fun k ok hk hki hun hno=>hfree k ok hk hki ?_ hno) (ready_mono hr (Ne.symm hji)) h3.1 (h3.2.1 hjz) ?_⟩) h2
   ·by_cases hjk:j=k
    ·rw[<-hjk];exact hjun
    ·rw[getD_set_ne true hjk] at hun;exact hun
   ·rw[Array.setIfInBounds_comm _ _ hji];exact h3.2.2
def Hc(P:Program)(ops:Array Oper)(Q:Exit->Act->World->Prop)(S:World->Prop)(z:Nat):List (Bool × Nat)->Act->World->Prop
 |[],a,w=>Q .normal a w
 |(true,i)::r,a,w=>wpOp P ops Q i (fun a' w'=>(i≠z->S w')/\Hc P ops Q S z r a' w') a w
 |(false,i)::r,a,w=>∃ oi v,ops[i]?=some oi/\YieldsIf P ops S oi v a/\Hc P ops Q S z r (a.put oi.dst v) w
def GD(z:Nat):List (Bool × Nat)->Bool
 |[]=>true
 |(b,i)::r=>(i != z || (b&&r.isEmpty))&&GD z r
theorem IE(hs:Region.noSelect ops=true)(hw:GM ops z=true)(hQ:∀ c a d v w,Q (.panic c) (Act.put a d v) w->Q (.panic c) a w):∀ (l:List (Bool × Nat)) (listed:Array Bool) (a:Act) (w:World),
  C6 ops l listed=true->GD z l=true->(l≠[]->S w)->Hc P ops Q S z l a w->EC P ops Q S z l.length listed a w
 |[],listed,a,w,hB,_,_,h=>⟨by simpa [C6] using hB,h⟩
 |(true,i)::r,listed,a,w,hB,hA,_,h=>by
  simp only[C6,Bool.and_eq_true,decide_eq_true_eq] at hB;simp only[GD,Bool.and_eq_true,Bool.or_eq_true,bne_iff_ne,ne_eq,true_and,List.isEmpty_iff] at hA;refine⟨fun h0=>(by rw[hB.1] at h0;cases h0),fun j hj=>?_⟩;rw[hB.1] at hj;obtain rfl:j=i:=by simpa using hj
  refine wpOp_mono (fun a' w' h'=>⟨h'.1,IE hs hw hQ r _ a' w' hB.2 hA.2 (fun hr=>h'.1 (fun e=>?_)) h'.2⟩) h;rcases hA.1 with h1|h1
  ·exact h1 e
  ·exact hr h1
 |(false,i)::r,listed,a,w,hB,hA,hS,h=>by
  simp only[C6,Bool.and_eq_true] at hB;simp only[GD,Bool.and_eq_true,Bool.or_eq_true,bne_iff_ne,ne_eq,Bool.false_eq_true,false_and,or_false] at hA;obtain⟨oi,v,hi,hy,h'⟩:=h;exact EC.take hi hs hw hA.1 (fun c a w=>hQ c a _ _ w) _ listed a w (Region.free_spec hi hB.1.1) (by simpa using hB.1.2) hy (hS (by simp)) (IE hs hw hQ r _ _ w hB.2 hA.2 (fun _=>hS (by simp)) h')
structure F7 (P:Program) (ops:Array Oper) (Q:Exit->Act->World->Prop) (S:World->Prop) (z:Nat) (l:List (Bool × Nat × Oper)) (a:Act) (w:World):Prop where
 out:(∀ t,t∈l->ops[t.2.1]?=some t.2.2)->Hc P ops Q S z (l.map fun t=>(t.1,t.2.1)) a w
theorem Ka{id:Nat}{a:Act}{w:World}{l:List Oper}(S:World->Prop)(z:Nat)(k:List (Bool × Nat))(hm:P.follows .mixedOrders=true)
  (hB:(Region.noSelect l.toArray&&GM l.toArray z&&GD z k&&decide (k.length=l.toArray.size)&&(k.all fun t=>decide (t.2<l.length))&&C6 l.toArray k (Array.replicate l.toArray.size false))=true)
  (hQ:∀ c a d v w,Q (.panic c) (Act.put a d v) w->Q (.panic c) a w) (hS:S w.drew) (h:F7 P l.toArray Q S z (lexL l k) a w.drew):(Code.region id l.toArray true).wp P Q a w:=by
 simp only[Bool.and_eq_true,decide_eq_true_eq] at hB;obtain⟨⟨⟨⟨⟨b1,b2⟩,b3⟩,b4⟩,b5⟩,b6⟩:=hB;have h1:=h.out (Gr l k);rw[Ii l k b5] at h1;refine wp_region_any hm ?_;have:=(IE b1 b2 hQ k _ a w.drew b6 b3 (fun _=>hS) h1).any;rw[b4] at this;exact this
theorem Gm{i:Nat}{o:Oper}{v:Value}{r:List (Bool × Nat × Oper)}{a:Act}{w:World}(hw:Region.wanted o (yielded ops a.tmps)=true)(hy:∀ w',S w'->(execOp a.eval o).run P w'=.ok (.value v) w')
  (h:F7 P ops Q S z r (a.put o.dst v) w):F7 P ops Q S z ((false,i,o)::r) a w:=⟨fun hall=>⟨o,v,hall _ Ti,Or.inl ⟨hw,hy⟩,h.out (fun t ht=>hall t (Tf _ ht))⟩⟩
theorem Fm{i:Nat}{o:Oper}{r:List (Bool × Nat × Oper)}{a:Act}{w:World}
  (h:∀ K':Act->World->Prop,Shut (∀ a w,S w->F7 P ops Q S z r a w->K' a w)->if Region.wanted o (yielded ops a.tmps)=true then Oper.wp P o a w K' Q else K' (a.put o.dst undef) w):F7 P ops Q S z ((true,i,o)::r) a w :=
 ⟨fun hall=>wpOp_step (hall _ Ti) (fun K' hK=>h K' (fun a w hS hW=>hK a w ⟨fun _=>hS,hW.out (fun t ht=>hall t (Tf _ ht))⟩))⟩
theorem Lr{o:Oper}{a:Act}{w:World}
  (h:∀ K':Act->World->Prop,Shut (∀ a w,Q .normal a w->K' a w)->if Region.wanted o (yielded ops a.tmps)=true then Oper.wp P o a w K' Q else K' (a.put o.dst undef) w):F7 P ops Q S z [(true,z,o)] a w :=
 ⟨fun hall=>wpOp_step (hall _ Ti) (fun K' hK=>h K' (fun a w hW=>hK a w ⟨fun h0=>absurd rfl h0,hW⟩))⟩
end
end Go.Proofs.YtkafkipjedpohaaGreatDoor

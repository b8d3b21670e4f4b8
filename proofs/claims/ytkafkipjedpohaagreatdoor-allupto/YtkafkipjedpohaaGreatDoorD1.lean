import Derived.Test.YtkafkipjedpohaaGreatDoorC2
import Derived.ProofKit
import Derived.Deep.SlicePairs
import Derived.Deep.Strs
import Derived.Deep.AppendLies
import Derived.Deep.RegionLaw
namespace Go.Proofs.YtkafkipjedpohaaGreatDoor
open Go.RowKit _root_.Go.Proofs.Tryz
def DY(f:PF):Nat->Value:=fun j=>if j / 2<f.cn then (if j % 2=0 then .int .i64 (f.op (j / 2)) else .int .i64 (f.ar (j / 2))) else .int .i64 0
def Eg(F:Nat->PF)(b m:Nat):Nat->Value:=fun j =>
 if j / 3<m then (if j % 3=0 then .int .i64 (F (j / 3)).args else if j % 3=1 then .int .i64 (F (j / 3)).locals else .slice (some ⟨b+1+j / 3,0,none⟩) (F (j / 3)).cn ((F (j / 3)).cn+2))
 else (if j % 3=0 then .int .i64 (-77) else if j % 3=1 then .int .i64 0 else .slice none 0 0)
def B4(F:Nat->PF)(b m k:Nat):Nat->Value:=fun j=>if j / 3<k then Eg F b m j else if j % 3=2 then .slice none 0 0 else .int .i64 0
structure Ci (w:World) (b m k:Nat) (F:Nat->PF):Prop where
 row:w.rowIs b 31 ((m+2) * 3) (B4 F b m k)
 code:∀ i,i<m->i<k->w.rowIs (b+1+i) 33 (((F i).cn+2) * 2) (DY (F i))
def Hy(n:Nat):Array Value:=madeCells #[.int .i64 0,.int .i64 0,.slice none 0 0] (n * 3)
def DM(n:Nat):Array Value:=madeCells #[.int .i64 0,.int .i64 0] (n * 2)
theorem RX(w:World)(m:Nat)(F:Nat->PF):Ci (w.alloc (.cells (Hy (m+2)) 31)) w.heap.size m 0 F:=by
 refine⟨⟨_,Tv _ _,by simp[Hy,size_madeCells],fun i hi=>?_⟩,fun i _ hi=>by omega⟩;have:i % 3=0\/i % 3=1\/i % 3=2:=by omega
 rcases this with e|e|e<;>simp[Hy,madeCells,hi,B4,e]
theorem Sx(w:World)(n:Nat):(w.alloc (.cells (DM n) 33)).rowIs w.heap.size 33 (n * 2) (fun _=>.int .i64 0):=by
 refine⟨_,Tv _ _,by simp[DM,size_madeCells],fun i hi=>?_⟩;have:i % 2=0\/i % 2=1:=by omega
 rcases this with e|e<;>simp[DM,madeCells,hi,e]
theorem Jc{P:Program}(w:World)(dT sT ty elem:TypeId)(size:Nat)(g dLen dCap:Nat)(a:Addr)(sLen sCap:Nat)(cur:Array Value)(t:TypeId)(cs:List Value)
  (hu:P.underlying dT=some (.slice elem)) (hs:(P.info? elem).map (·.size)=some size)
  (hg:w.heap[g]?=some (.cells cur t (0,0))) (hle:sLen<=dLen) (hn:cs.length=sLen * size)
  (hsrc:∀ j v,cs[j]?=some v->w.cell? (a.add j)=some v) (hfit:cs.length<=cur.size) (h1:∀ v∈cs,v.oneCell'=true) :
  (Builtin.copy_ #[dT,sT] ty #[.slice (some ⟨g,0,none⟩) dLen dCap,.slice (some a) sLen sCap]).run P w =
   .ok (goInt sLen) (w.setRow g (cs++cur.toList.drop cs.length).toArray):=by
 have hl:=run_loadCells_list (P:=P) w a cs hsrc;have hst:=run_storeCells_at P g 0 t cs 0 cur w hg (by simpa using hfit) h1;have hmin:Nat.min sLen dLen=sLen:=Nat.min_eq_left hle;cases hq:P.info? elem with
 |none=>simp[hq] at hs
 |some i =>
  have hi:i.size=size:=by simpa [hq] using hs
  simp[Builtin.copy_,run_underlying hu,Builtin.lenOf,Builtin.firstCells,sizeOf,typeInfo,hq,hi,hmin,<-hn,hl,hst]
theorem I7{P:Program}(w:World)(dT sT ty elem:TypeId)(d a:Option Addr)(dLen dCap sCap:Nat)(hu:P.underlying dT=some (.slice elem))(size:Nat)(hs:(P.info? elem).map (·.size)=some size) :
  (Builtin.copy_ #[dT,sT] ty #[.slice d dLen dCap,.slice a 0 sCap]).run P w=.ok (goInt 0) w:=by
 have hmin:Nat.min 0 dLen=0:=Nat.zero_min _;cases hq:P.info? elem with
 |none=>simp[hq] at hs
 |some i =>
  have hl:∀ (x:Addr),(loadCells x 0).run P w=.ok #[] w:=fun x=>by simpa using run_loadCells_list (P:=P) w x [] (by simp)
  cases d<;>cases a<;>simp[Builtin.copy_,run_underlying hu,Builtin.lenOf,Builtin.firstCells,sizeOf,typeInfo,hq,hmin,storeCells,hl]
theorem Tryz.size33:(prog.info? 33).map (·.size)=some 2:=by kernel_rfl
theorem Rn(n i:Nat)(hi:i<n * 2):(DM n)[i]?=some (.int .i64 0):=by
 have:i % 2=0\/i % 2=1:=by omega
 rcases this with e|e<;>simp[DM,madeCells,hi,e]
theorem setRow_other(w:World)(g:Nat)(c:Array Value)(k:Nat)(h:k≠g):(w.setRow g c).heap[k]?=w.heap[k]?:=by
 unfold World.setRow;simp only[Array.getElem?_modify];rw[if_neg (by omega)]
theorem P4(w:World)(f:PF)(ca:Option Addr)(cc:Nat)(hc:1<=f.cn->∃ cb co,ca=some ⟨cb,co,none⟩/\cb<w.heap.size/\BB w cb co f.cn f.op f.ar) :
  ∃ w',(Builtin.copy_ #[29,29] 3 #[.slice (some ⟨w.heap.size,0,none⟩) (f.cn+2) (f.cn+2),.slice ca f.cn cc]).run prog (w.alloc (.cells (DM (f.cn+2)) 33))=.ok (goInt f.cn) w' /\
   w'.rowIs w.heap.size 33 ((f.cn+2) * 2) (DY f)/\Below w.heap.size w w'/\w'.heap.size=w.heap.size+1:=by
 by_cases h0:f.cn=0
 ·refine⟨w.alloc (.cells (DM (f.cn+2)) 33),?_,?_,(Tu _ _).alloc (Te _) _,by simp⟩
  ·rw[h0];exact I7 _ 29 29 3 33 _ _ _ _ _ underlying29 2 Tryz.size33
  ·refine(Sx w (f.cn+2)).congr fun i hi=>?_
   unfold DY;rw[if_neg (by omega)]
 ·obtain⟨cb,co,rfl,hcb,hcode⟩:=hc (by omega);have hB1:Below w.heap.size w (w.alloc (.cells (DM (f.cn+2)) 33)):=(Tu _ _).alloc (Te _) _;have hrun:=Jc (P:=prog) (w.alloc (.cells (DM (f.cn+2)) 33)) 29 29 3 33 2 w.heap.size (f.cn+2) (f.cn+2) ⟨cb,co,none⟩ f.cn cc (DM (f.cn+2)) 33 (DV f.cn f.op f.ar) underlying29 Tryz.size33 (Tv _ _) (by omega) (Fi _ _ _)
   (fun j u hu=>by rw[Addr.add_lit];exact(hB1.cell (p:=⟨cb,co+j,none⟩) hcb).trans (Le hcode j u hu)) (by rw[Fi];simp[DM,size_madeCells];omega) (Mg _ _ _)
  refine⟨_,hrun,⟨_,setRow_heap _ _ _ _ 33 (0,0) (Tv _ _),?_,fun i hi=>?_⟩,?_,?_⟩
  ·simp[Fi,DM,size_madeCells];omega
  ·unfold DY;by_cases hlt:i<f.cn * 2
   ·rw[if_pos (by omega),List.getElem?_toArray,Tq (by rw[Fi];exact hlt)];exact JC _ _ _ _ hlt
   ·rw[if_neg (by omega),List.getElem?_toArray,List.getElem?_append_right (by rw[Fi];omega),List.getElem?_drop,Fi];rw[show f.cn * 2+(i-f.cn * 2)=i by omega];have:=Rn (f.cn+2) i hi;rw[<-this];simp
  ·refine⟨rfl,rfl,rfl,by simp[World.setRow],fun k hk=>?_⟩;rw[setRow_other _ _ _ _ (by omega)];exact hB1.block k hk
  ·simp[World.setRow]
theorem IZ{w:World}{b t n:Nat}{f g:Nat->Value}(h:w.rowIs b t n f)(k:Nat)(hg:∀ j,j<n->g j=if j / 3=k then g j else f j) :
  (((w.setCell ⟨b,k * 3,none⟩ (g (k * 3))).setCell ⟨b,k * 3+1,none⟩ (g (k * 3+1))).setCell ⟨b,k * 3+2,none⟩ (g (k * 3+2))).rowIs b t n g:=by
 refine(((h.set (k * 3) _).set (k * 3+1) _).set (k * 3+2) _).congr fun j hj=>?_
 by_cases e2:j=k * 3+2
 ·rw[if_pos e2,e2]
 ·rw[if_neg e2];by_cases e1:j=k * 3+1
  ·rw[if_pos e1,e1]
  ·rw[if_neg e1];by_cases e0:j=k * 3
   ·rw[if_pos e0,e0]
   ·rw[if_neg e0,hg j hj,if_neg (by omega)]
theorem G2(w:World)(b k:Nat)(u v x:Value)(i:Nat)(h:i≠b):(((w.setCell ⟨b,k * 3,none⟩ u).setCell ⟨b,k * 3+1,none⟩ v).setCell ⟨b,k * 3+2,none⟩ x).heap[i]?=w.heap[i]?:=by
 rw[Tx _ _ _ _ h,Tx _ _ _ _ h,Tx _ _ _ _ h]
theorem Ci.fn{w:World}{b m k:Nat}{F:Nat->PF}(h:Ci w b m k F)(hk:k<m)(hnew:w.rowIs (b+1+k) 33 (((F k).cn+2) * 2) (DY (F k))) :
  Ci (((w.setCell ⟨b,k * 3,none⟩ (.int .i64 (F k).args)).setCell ⟨b,k * 3+1,none⟩ (.int .i64 (F k).locals)).setCell ⟨b,k * 3+2,none⟩ (.slice (some ⟨b+1+k,0,none⟩) (F k).cn ((F k).cn+2))) b m (k+1) F:=by
 refine⟨?_,fun i hi hik=>?_⟩
 ·have h3:=IZ (g:=B4 F b m (k+1)) h.row k (fun j _=>by
   by_cases e:j / 3=k
   ·rw[if_pos e]
   ·rw[if_neg e];unfold B4;by_cases e1:j / 3<k
    ·rw[if_pos e1,if_pos (by omega)]
    ·rw[if_neg e1,if_neg (by omega)])
  have e0:B4 F b m (k+1) (k * 3)=.int .i64 (F k).args:=by
   unfold B4 Eg;rw[if_pos (by omega),if_pos (by omega),if_pos (by omega),show k * 3 / 3=k by omega]
  have e1:B4 F b m (k+1) (k * 3+1)=.int .i64 (F k).locals:=by
   unfold B4 Eg;rw[if_pos (by omega),if_pos (by omega),if_neg (by omega),if_pos (by omega),show (k * 3+1) / 3=k by omega]
  have e2:B4 F b m (k+1) (k * 3+2)=.slice (some ⟨b+1+k,0,none⟩) (F k).cn ((F k).cn+2):=by
   unfold B4 Eg;rw[if_pos (by omega),if_pos (by omega),if_neg (by omega),if_neg (by omega),show (k * 3+2) / 3=k by omega]
  rw[e0,e1,e2] at h3;exact h3
 ·by_cases e:i=k
  ·subst e;exact hnew.of_block (G2 _ _ _ _ _ _ _ (by omega))
  ·exact(h.code i hi (by omega)).of_block (G2 _ _ _ _ _ _ _ (by omega))
theorem Ci.mark{w:World}{b m k:Nat}{F:Nat->PF}(h:Ci w b m k F)(hk:m<=k) :
  Ci (((w.setCell ⟨b,k * 3,none⟩ (.int .i64 (-77))).setCell ⟨b,k * 3+1,none⟩ (.int .i64 0)).setCell ⟨b,k * 3+2,none⟩ (.slice none 0 0)) b m (k+1) F:=by
 refine⟨?_,fun i hi hik=>(h.code i hi (by omega)).of_block (G2 _ _ _ _ _ _ _ (by omega))⟩;have h3:=IZ (g:=B4 F b m (k+1)) h.row k (fun j _=>by
   by_cases e:j / 3=k
   ·rw[if_pos e]
   ·rw[if_neg e];unfold B4;by_cases e1:j / 3<k
    ·rw[if_pos e1,if_pos (by omega)]
    ·rw[if_neg e1,if_neg (by omega)])
 have e0:B4 F b m (k+1) (k * 3)=.int .i64 (-77):=by
  unfold B4 Eg;rw[if_pos (by omega),if_neg (by omega),if_pos (by omega)]
 have e1:B4 F b m (k+1) (k * 3+1)=.int .i64 0:=by
  unfold B4 Eg;rw[if_pos (by omega),if_neg (by omega),if_neg (by omega),if_pos (by omega)]
 have e2:B4 F b m (k+1) (k * 3+2)=.slice none 0 0:=by
  unfold B4 Eg;rw[if_pos (by omega),if_neg (by omega),if_neg (by omega),if_neg (by omega)]
 rw[e0,e1,e2] at h3;exact h3
set_option maxRecDepth 100000
set_option maxHeartbeats 16000000
def Df(w:World)(p:Option Addr)(m:Nat)(F:Nat->PF)(CA:Nat->Option Addr)(CC:Nat->Nat):Prop :=
 1<=m->∃ pb po,p=some ⟨pb,po,none⟩/\BD w pb po m F CA CC
theorem Df.below{w w':World}{B:Nat}{p:Option Addr}{m:Nat}{F:Nat->PF}{CA:Nat->Option Addr}{CC:Nat->Nat}(h:Df w p m F CA CC)(b:Below B w w')(hB:w.heap.size<=B):Df w' p m F CA CC :=
 fun hm=>by
  obtain⟨pb,po,e,hP⟩:=h hm;exact⟨pb,po,e,hP.below b hB⟩
theorem Qd(m:Nat)(hm:40 * (m+2)<=281474976710656)(wx:World):(Instr.makeSlice 23 (.int .i64 ((m:Int)+2)) (.int .i64 ((m:Int)+2))).run prog wx=.ok (.slice (some ⟨wx.heap.size,0,none⟩) (m+2) (m+2)) (wx.alloc (.cells (Hy (m+2)) 31)):=by
 have h:=Fo (P:=prog) 23 31 _ _ 3 40 underlying23 Tryz.info31 rfl .i64 .i64 (m+2) hm (by omega) wx;rw[show ((m+2:Nat):Int)=(m:Int)+2 by omega] at h;exact h
theorem M1(n:Nat)(hn:16 * (n+2)<=281474976710656)(wx:World):(Instr.makeSlice 29 (.int .i64 ((n:Int)+2)) (.int .i64 ((n:Int)+2))).run prog wx=.ok (.slice (some ⟨wx.heap.size,0,none⟩) (n+2) (n+2)) (wx.alloc (.cells (DM (n+2)) 33)):=by
 have h:=Fo (P:=prog) 29 33 _ _ 2 16 underlying29 Tryz.info33 rfl .i64 .i64 (n+2) hn (by omega) wx;rw[show ((n+2:Nat):Int)=(n:Int)+2 by omega] at h;exact h
theorem Oy(p:Option Addr)(pc m:Nat)(F:Nat->PF)(CA:Nat->Option Addr)(CC:Nat->Nat)(w:World)(hG:Df w p m F CA CC)(hm:40 * m<=140737488355328)(hcn:∀ k,k<m->16 * (F k).cn<=140737488355328) :
  Calls prog 74 #[.slice p m pc] w fun e w'=>e=.returned (.slice (some ⟨w.heap.size,0,none⟩) (m+2) (m+2))/\Below w.heap.size w w'/\w'.heap.size=w.heap.size+1+m/\Ci w' w.heap.size m (m+2) F:=by
 have hmk:=Qd m (by omega);have HG:Hid (Df w p m F CA CC/\∀ k,k<m->16 * (F k).cn<=140737488355328):=⟨hG,hcn⟩
 clear hG hcn;go_enter func74,ntmps74
 go_wp2;clear hmk;go_loopw [4] (fun v wr=>∃ k:Nat,k<=m+2/\v=.int .i64 k/\Below w.heap.size w wr/\(k<=m->wr.heap.size=w.heap.size+1+k)/\(m<=k->wr.heap.size=w.heap.size+1+m)/\Ci wr w.heap.size m k F) (fun v _=>m+2-(intOf v).toNat)
 case atStart=>exact⟨0,Tt _,rfl,(Tu _ _).alloc (Te _) _,fun _=>by simp,fun _=>by simp;omega,RX w m F⟩
 case round =>
  obtain⟨k,hk,rfl,hB,hz1,hz2,hL⟩:=hrel;by_cases hlt:k<m
  ·obtain⟨pb,po,rfl,hPw⟩:=HG.out.1 (by omega);have hpb:pb<w.heap.size:=hPw.lt;have hP:=hPw.below hB (Te _);obtain⟨c0,c1,c2,hcode⟩:=hP.fn k hlt;have hz:wr.heap.size=w.heap.size+1+k:=hz1 (by omega);have hmi:=M1 (F k).cn (by have:=HG.out.2 k hlt;omega);obtain⟨w2,hcp,hrow,hB2,hz3⟩:=P4 wr (F k) (CA k) (CC k) hcode;have d0:=(hB2.cell (p:=⟨pb,po+k * 3,none⟩) (by dsimp only;omega)).trans c0;have d1:=(hB2.cell (p:=⟨pb,po+k * 3+1,none⟩) (by dsimp only;omega)).trans c1;have d2:=(hB2.cell (p:=⟨pb,po+k * 3+2,none⟩) (by dsimp only;omega)).trans c2;have hrow2:=hL.row.of_block (hB2.block w.heap.size (by omega));have hL2:Ci w2 w.heap.size m k F:=⟨hrow2,fun i hi hik=>(hL.code i hi hik).of_block (hB2.block _ (by omega))⟩
   have hBw2:Below w.heap.size w w2:=hB.trans (hB2.mono (by omega));have q0:=hrow2.cell (i:=k * 3) (by omega);have q1:=hrow2.cell (i:=k * 3+1) (by omega);have q2:=hrow2.cell (i:=k * 3+2) (by omega);have f0:=hrow2.frozen (k * 3);have f1:=hrow2.frozen (k * 3+1);have f2:=hrow2.frozen (k * 3+2);generalize B4 F w.heap.size m k (k * 3)=v0 at q0;generalize B4 F w.heap.size m k (k * 3+1)=v1 at q1;generalize B4 F w.heap.size m k (k * 3+2)=v2 at q2;rw[hz] at hrow;have HL:Hid (Ci (((w2.setCell ⟨w.heap.size,k * 3,none⟩ (.int .i64 (F k).args)).setCell ⟨w.heap.size,k * 3+1,none⟩ (.int .i64 (F k).locals)).setCell ⟨w.heap.size,k * 3+2,none⟩ (.slice (some ⟨w.heap.size+1+k,0,none⟩) (F k).cn ((F k).cn+2))) w.heap.size m (k+1) F/\Below w.heap.size w w2/\w2.heap.size=w.heap.size+1+k+1):=⟨hL2.fn hlt hrow,hBw2,by omega⟩
   have HZ:=Aa hz;have hbn:(F k).cn<=(F k).cn+2:=by omega
   have hcb:=HG.out.2 k hlt;have hpz:pb<wr.heap.size:=by omega
   have hne:¬pb=w.heap.size:=by omega
   clear hz hz1 hz2 hz3 hL hL2 hB hB2 hP hPw hcode hrow hrow2 hBw2;generalize (F k).cn=cn at *;generalize (F k).args=ag at *;generalize (F k).locals=lc at *;go_wp2;clear hcp hmi;have i0:(0:Int)<=(k:Int):=by omega
   have i1:(k:Int)<(m:Int):=by omega
   have i2:(k:Int)<(m:Int)+2:=by omega
   have i3:(0:Int)<=(cn:Int):=by omega
   have i4:(cn:Int)<=(cn:Int)+2:=by omega
   have hne':¬w.heap.size=pb:=by omega
   go_region_held3 (fun w'=>w'.cell? ⟨pb,po+k * 3,none⟩=some (.int .i64 ag)/\w'.cell? ⟨pb,po+k * 3+1,none⟩=some (.int .i64 lc)/\w'.cell? ⟨pb,po+k * 3+2,none⟩=some (.slice (CA k) cn (CC k))) (go_keep) (fail)
   rename_i hheld;clear hheld d0 d1 d2 c0 c1 c2 q0 q1 q2 f0 f1 f2 i0 i1 i2 i3 i4;rw[HZ.out];go_wp2;go_roundw
   case rel =>
    refine⟨k+1,by omega,by go_num,?_,fun _=>?_,fun _=>?_,?_⟩
    ·exact(((HL.out.2.1.setCell (Te _) _).setCell (Te _) _).setCell (Te _) _).drew
    ·have:=HL.out.2.2;simp[World.setCell];omega
    ·have:=HL.out.2.2;simp[World.setCell];omega
    ·exact⟨HL.out.1.row,HL.out.1.code⟩
   case measure=>simp[intOf];omega
  ·by_cases hlt2:k<m+2
   ·have hL':=hL.mark (by omega);have q0:=hL.row.cell (i:=k * 3) (by omega);have q1:=hL.row.cell (i:=k * 3+1) (by omega);have q2:=hL.row.cell (i:=k * 3+2) (by omega);have f0:=hL.row.frozen (k * 3);have f1:=hL.row.frozen (k * 3+1);have f2:=hL.row.frozen (k * 3+2);generalize B4 F w.heap.size m k (k * 3)=v0 at q0;generalize B4 F w.heap.size m k (k * 3+1)=v1 at q1;generalize B4 F w.heap.size m k (k * 3+2)=v2 at q2;have HL:=Aa (Tc hL' (Tc hB (hz2 (by omega))));clear hL' hL hB hz1 hz2;go_wp2;go_roundw
    case rel =>
     refine⟨k+1,by omega,by go_num,?_,fun _=>?_,fun _=>?_,?_⟩
     ·exact((HL.out.2.1.setCell (Te _) _).setCell (Te _) _).setCell (Te _) _
     ·omega
     ·have:=HL.out.2.2;simp[World.setCell];omega
     ·exact HL.out.1
    case measure=>simp[intOf];omega
   ·obtain rfl:k=m+2:=by omega
    have HZ:=Aa (Tc hB (Tc (hz2 (by omega)) hL));clear hB hz1 hz2 hL;go_wp2;go_ret;exact⟨rfl,HZ.out⟩
open Go.RowKit Go.Deep Go.ChangeShapes
theorem FW{w:World}{a:Addr}{v:Value}(h:w.cell? a=some v):a.block<w.heap.size/\a.spot=none:=by
 unfold World.cell? at h;cases hb:w.heap[a.block]? with
 |none=>rw[hb] at h;cases h
 |some o =>
  obtain⟨hl,_⟩:=Array.getElem?_eq_some_iff.1 hb;rw[hb] at h;cases o with
  |cells c e f =>
   refine⟨hl,?_⟩;cases hs:a.spot with
   |none=>rfl
   |some s=>simp[hs] at h
  |_=>cases h
theorem EP{a:Addr}(h:a.spot=none):a=⟨a.block,a.off,none⟩:=by
 cases a with
 |mk b o s=>simp only at h;subst h;rfl
theorem Tryz.cells33:Tryz.prog.cellsOf 33=2:=by kernel_rfl
theorem Tryz.cells31:Tryz.prog.cellsOf 31=3:=by kernel_rfl
theorem Tryz.cells3:Tryz.prog.cellsOf 3=1:=by kernel_rfl
theorem Tryz.cells2:Tryz.prog.cellsOf 2=1:=by kernel_rfl
theorem Tryz.cells29:Tryz.prog.cellsOf 29=1:=by kernel_rfl
theorem Tryz.bytes33:Tryz.prog.bytesOf 33=16:=by kernel_rfl
theorem Tryz.bytes31:Tryz.prog.bytesOf 31=40:=by kernel_rfl
section
variable {H:Type} {enc:TypeId × Value->H} {w:World}
theorem S7{fuel:Nat}{v:Value}{x:DataW H × List MemPlace}(h:DataW.trod enc Tryz.prog w 0 (fun _=>true) true fuel 29 [v]=some x) :
  ∃ (ca:Option Addr) (cn cc:Nat) (op ar:Nat->Int),v=.slice ca cn cc/\(1<=cn->∃ cb co,ca=some ⟨cb,co,none⟩/\cb<w.heap.size/\BB w cb co cn op ar) /\
   ((∀ y∈x.1.weights Tryz.prog 29,y<=reachBytes)->16 * cn<=reachBytes):=by
 rcases open_slice_pairs Tryz.underlying29 Tryz.underlying33 Tryz.cells33 rfl rfl Tryz.cells3 Tryz.cells2 h with⟨e,rfl⟩|⟨a,len,cap,m,n,V0,V1,D0,D1,P0,P1,e,_,hl,_,hm,rfl,hx⟩
 ·injection e with e;refine⟨none,0,0,fun _=>0,fun _=>0,e,fun h=>by omega,fun _=>by simp⟩
 ·injection e with e;simp only[if_true] at hm;subst hm;have hint:∀ i,i<m->∃ q:Int × Int,V0 i=.int .i64 q.1/\V1 i=.int .i64 q.2:=fun i hi=>by
   obtain⟨_,_,g0,g1⟩:=hx i hi;obtain⟨z0,e0,_,_⟩:=DataW.trod_int Tryz.underlying3 g0;obtain⟨z1,e1,_,_⟩:=DataW.trod_int Tryz.underlying2 g1;simp at e0 e1;exact⟨(z0,z1),e0,e1⟩
  obtain⟨q,hq⟩:=choose_lt hint;refine⟨some a,len,m,fun i=>(q i).1,fun i=>(q i).2,e,fun h1=>?_,fun hw=>?_⟩
  ·have h0:=(hx 0 (by omega)).1;obtain⟨hlt,hsp⟩:=FW h0;have hsp':a.spot=none:=by simpa [Addr.add] using hsp
   have hlt':a.block<w.heap.size:=by simpa [Addr.add] using hlt
   refine⟨a.block,a.off,by rw[<-EP hsp'],hlt',fun i hi=>?_⟩;obtain⟨c0,c1,_,_⟩:=hx i (by omega);rw[(hq i (by omega)).1,EP hsp',Addr.add_lit] at c0;rw[(hq i (by omega)).2,EP hsp',Addr.add_lit] at c1;exact⟨c0,c1⟩
  ·have:=hw ((len+(m-len)) * 16) (by
    simp only[DataW.weights,Tryz.underlying29,List.length_map,List.length_range,Tryz.bytes33];exact Ti)
   omega
theorem Lw{P:Program}{e:TypeId}{d:DataW H}{y:Nat}:∀ {l:List (DataW H)},d∈l->y∈d.weights P e->y∈DataW.weightsAll P e l:=by
 intro l;induction l with
 |nil=>intro h;cases h
 |cons b r ih =>
  intro hd hy;unfold DataW.weightsAll;rcases List.mem_cons.1 hd with rfl|hd
  ·exact List.mem_append_left _ hy
  ·exact List.mem_append_right _ (ih hd hy)
theorem OD{fuel:Nat}{v:Value}{x:DataW H × List MemPlace}(h:DataW.trod enc Tryz.prog w 0 (fun _=>true) true fuel 23 [v]=some x)(hw:∀ y∈x.1.weights Tryz.prog 23,y<=reachBytes) :
  ∃ (p:Option Addr) (m pc:Nat) (F:Nat->PF) (CA:Nat->Option Addr) (CC:Nat->Nat),v=.slice p m pc/\Df w p m F CA CC/\40 * m<=reachBytes/\∀ k,k<m->16 * (F k).cn<=reachBytes:=by
 rcases open_slice Tryz.underlying23 h with⟨e,rfl⟩|⟨a,len,cap,m,n,D,Pl,e,_,hl,_,hm,rfl,hx⟩
 ·injection e with e;exact⟨none,0,0,fun _=>⟨0,0,0,fun _=>0,fun _=>0⟩,fun _=>none,fun _=>0,e,fun h=>by omega,by simp,fun k hk=>by omega⟩
 ·injection e with e;simp only[if_true] at hm;subst hm;have hw1:40 * len<=reachBytes:=by
   have:=hw ((len+(m-len)) * 40) (by
    simp only[DataW.weights,Tryz.underlying23,List.length_map,List.length_range,Tryz.bytes31];exact Ti)
   omega
  have each:∀ i,i<len->∃ q:PF × Option Addr × Nat,w.cell? (a.add (i * 3))=some (.int .i64 q.1.args)/\w.cell? (a.add (i * 3+1))=some (.int .i64 q.1.locals)/\w.cell? (a.add (i * 3+2))=some (.slice q.2.1 q.1.cn q.2.2) /\
    (1<=q.1.cn->∃ cb co,q.2.1=some ⟨cb,co,none⟩/\cb<w.heap.size/\BB w cb co q.1.cn q.1.op q.1.ar)/\16 * q.1.cn<=reachBytes:=by
   intro i hi;obtain⟨cs',h1,h2⟩:=hx i (by omega);rw[Tryz.cells31] at h1;obtain⟨_,hlen,hcell⟩:=World.cells?_some h1;obtain⟨y0,y1,y2,n',hxy,_,g0,g1,g2⟩:=trod_struct3 Tryz.underlying31 h2;match cs',hlen with
   |[v0,v1,v2],_ =>
    simp only[Tryz.cells3,Tryz.cells29] at g0 g1 g2;simp at g0 g1 g2;obtain⟨z0,e0,_,_⟩:=DataW.trod_int Tryz.underlying3 g0;obtain⟨z1,e1,_,_⟩:=DataW.trod_int Tryz.underlying3 g1;simp at e0 e1;obtain⟨ca,cn,cc,op,ar,rfl,hcode,hwt⟩:=S7 g2;have k0:=hcell 0 (by omega);have k1:=hcell 1 (by omega);have k2:=hcell 2 (by omega);rw[add_add] at k0 k1 k2;refine⟨(⟨z0,z1,cn,op,ar⟩,ca,cc),by simpa [e0] using k0,by simpa [e1] using k1,by simpa using k2,hcode,hwt fun y hy=>hw y ?_⟩;have hD:D i=.agg [y0.1,y1.1,y2.1]:=(Prod.mk.inj hxy).1;simp only[DataW.weights,Tryz.underlying23];refine Tf _ (List.mem_append_left _ (Lw (d:=D i) (List.mem_map.2 ⟨i,List.mem_range.2 hi,rfl⟩) ?_));rw[hD];simp only[DataW.weights,Tryz.underlying31,List.map_cons,List.map_nil,DataW.weightsEach];exact List.mem_append_right _ (List.mem_append_right _ (List.mem_append_left _ hy))
  have inh:Inhabited (PF × Option Addr × Nat):=⟨(⟨0,0,0,fun _=>0,fun _=>0⟩,none,0)⟩
  obtain⟨q,hq⟩:=choose_lt (α:=PF × Option Addr × Nat) each;refine⟨some a,len,m,fun i=>(q i).1,fun i=>(q i).2.1,fun i=>(q i).2.2,e,fun h1=>?_,hw1,fun k hk=>(hq k hk).2.2.2.2⟩;have h0:=(hq 0 (by omega)).1;obtain⟨hlt,hsp⟩:=FW h0;have hsp':a.spot=none:=by simpa [Addr.add] using hsp
  have hlt':a.block<w.heap.size:=by simpa [Addr.add] using hlt
  refine⟨a.block,a.off,by rw[<-EP hsp'],hlt',fun k hk=>?_⟩;obtain⟨c0,c1,c2,hcode,_⟩:=hq k hk;rw[EP hsp',Addr.add_lit] at c0 c1 c2;exact⟨c0,c1,c2,hcode⟩
end
def Ae(w:World)(B:Nat)(tag:Nat->Nat)(c:Nat)(e:TypeId)(sz:Nat)(v:Value)(n:Nat)(f:Nat->Value):Prop :=
 (v=.slice none 0 0/\n=0) \/
 ∃ b cap cur,v=.slice (some ⟨b,0,none⟩) n cap/\B<=b/\tag b=c/\w.heap[b]?=some (.cells cur e (0,0))/\n<=cap/\cap<=maxLen/\cur.size=cap * sz/\∀ i,i<n * sz->cur[i]?=some (f i)
theorem Ae.nil(w:World)(B:Nat)(tag:Nat->Nat)(c:Nat)(e:TypeId)(sz:Nat)(f:Nat->Value):Ae w B tag c e sz (.slice none 0 0) 0 f:=Or.inl ⟨rfl,rfl⟩
section
variable {B c sz n cap b:Nat}{tag t1 t2:Nat->Nat}{w u:World}{e:TypeId}{f:Nat->Value}{p:Nat->Prop}{v:Value}
theorem Ae.form(h:Ae w B tag c e sz v n f)(hn:1<=n) :
  ∃ b cap,v=.slice (some ⟨b,0,none⟩) n cap/\B<=b/\b<w.heap.size/\tag b=c/\n<=cap:=by
 rcases h with⟨_,h⟩|⟨b,cap,cur,hv,hb,ht,hh,hc,_⟩
 ·omega
 ·exact⟨b,cap,hv,hb,(Array.getElem?_eq_some_iff.1 hh).1,ht,hc⟩
theorem Ae.cell(h:Ae w B tag c e sz (.slice (some ⟨b,0,none⟩) n cap) n f){i:Nat}(hi:i<n * sz):w.cell? ⟨b,i,none⟩=some (f i):=by
 rcases h with⟨h,_⟩|⟨b',cap',cur,hv,_,_,hh,_,_,_,hf⟩
 ·cases h
 ·injection hv with e1 e2 e3;injection e1 with e1;injection e1 with e1 e4;subst e1;unfold World.cell?;rw[hh];exact hf i hi
theorem Ae.frozen(h:Ae w B tag c e sz (.slice (some ⟨b,0,none⟩) n cap) n f)(i:Nat):w.frozen? ⟨b,i,none⟩=false:=by
 rcases h with⟨h,_⟩|⟨b',cap',cur,hv,_,_,hh,_⟩
 ·cases h
 ·injection hv with e1 e2 e3;injection e1 with e1;injection e1 with e1 e4;subst e1;unfold World.frozen?;rw[hh];simp
theorem Ae.congr{g:Nat->Value}(h:Ae w B tag c e sz v n f)(hg:∀ i,i<n * sz->f i=g i):Ae w B tag c e sz v n g:=by
 rcases h with h|⟨b,cap,cur,hv,hb,ht,hh,hc,hm,hs,hf⟩
 ·exact Or.inl h
 ·exact Or.inr ⟨b,cap,cur,hv,hb,ht,hh,hc,hm,hs,fun i hi=>by rw[hf i hi,hg i hi]⟩
structure Ch (B:Nat) (let_:Nat->Prop) (tag tag':Nat->Nat) (w w':World):Prop where
 os:w'.os=w.os
 tape:w'.tape=w.tape
 output:w'.output=w.output
 size:w.heap.size<=w'.heap.size
 block:∀ b,b<w.heap.size->(b<B\/¬let_ (tag b))->w'.heap[b]?=w.heap[b]?
 tags:∀ b,b<w.heap.size->tag' b=tag b
theorem Ch.refl(B:Nat)(p:Nat->Prop)(tag:Nat->Nat)(w:World):Ch B p tag tag w w:=⟨rfl,rfl,rfl,Te _,fun _ _ _=>rfl,fun _ _=>rfl⟩
theorem Ch.trans{t3:Nat->Nat}{v:World}(h:Ch B p t1 t2 u v)(k:Ch B p t2 t3 v w):Ch B p t1 t3 u w :=
 ⟨k.os.trans h.os,k.tape.trans h.tape,k.output.trans h.output,Nat.le_trans h.size k.size,
  fun b hb hl=>(k.block b (Ts hb h.size) (by rw[h.tags b hb];exact hl)).trans (h.block b hb hl),fun b hb=>(k.tags b (Ts hb h.size)).trans (h.tags b hb)⟩
theorem Ch.mono{q:Nat->Prop}{v:World}(h:Ch B p t1 t2 u v)(hpq:∀ c,p c->q c):Ch B q t1 t2 u v :=
 ⟨h.os,h.tape,h.output,h.size,fun b hb hl=>h.block b hb (by rcases hl with hl|hl;exact Or.inl hl;exact Or.inr fun hp=>hl (hpq _ hp)),h.tags⟩
theorem Ch.below{v:World}(h:Ch B p t1 t2 u v)(hB:B<=u.heap.size):Below B u v :=
 ⟨h.os,h.tape,h.output,h.size,fun b hb=>h.block b (by omega) (Or.inl hb)⟩
theorem Ch.of_below{v:World}(h:Below u.heap.size u v):Ch B p tag tag u v :=
 ⟨h.os,h.tape,h.output,h.size,fun b hb _=>h.block b hb,fun _ _=>rfl⟩
theorem Ch.set(w:World)(b o:Nat)(v:Value)(hb:B<=b)(hp:p (tag b)):Ch B p tag tag w (w.setCell ⟨b,o,none⟩ v) :=
 ⟨rfl,rfl,rfl,by simp[World.setCell],fun k _ hl=>Tx _ _ _ _ (by
  intro e;simp only at e;subst e;rcases hl with hl|hl
  ·omega
  ·exact hl hp),fun _ _=>rfl⟩
theorem Ae.keep{w':World}{tag':Nat->Nat}(h:Ae w B tag c e sz v n f)(k:Ch B p tag tag' w w')(hp:¬p c):Ae w' B tag' c e sz v n f:=by
 rcases h with h|⟨b,cap,cur,hv,hb,ht,hh,hc⟩
 ·exact Or.inl h
 ·have hlt:=(Array.getElem?_eq_some_iff.1 hh).1;exact Or.inr ⟨b,cap,cur,hv,hb,(k.tags b hlt).trans ht,(k.block b hlt (Or.inr (by rw[ht];exact hp))).trans hh,hc⟩
theorem Ae.set(h:Ae w B tag c e sz (.slice (some ⟨b,0,none⟩) n cap) n f)(i:Nat)(v:Value) :
  Ae (w.setCell ⟨b,i,none⟩ v) B tag c e sz (.slice (some ⟨b,0,none⟩) n cap) n (Ac f i v):=by
 rcases h with⟨h,_⟩|⟨b',cap',cur,hv,hb,ht,hh,hc,hm,hs,hf⟩
 ·cases h
 ·injection hv with e1 e2 e3;injection e1 with e1;injection e1 with e1 e4;subst e1;subst e3;refine Or.inr ⟨b,cap,cur.setIfInBounds i v,rfl,hb,ht,?_,hc,hm,by simpa using hs,fun j hj=>?_⟩
  ·simp[World.setCell,Array.getElem?_modify,hh]
  ·rw[Array.getElem?_setIfInBounds];by_cases e5:j=i
   ·subst e5;have:j<cur.size:=(Array.getElem?_eq_some_iff.1 (hf j hj)).1;simp[this,Ac]
   ·rw[if_neg (fun h=>e5 h.symm),Ao _ _ _ _ e5];exact hf j hj
theorem Ae.take(h:Ae w B tag c e sz (.slice (some ⟨b,0,none⟩) n cap) n f)(k:Nat)(hk:k<=n) :
  Ae w B tag c e sz (.slice (some ⟨b,0,none⟩) k cap) k f:=by
 rcases h with⟨h,_⟩|⟨b',cap',cur,hv,hb,ht,hh,hc,hm,hs,hf⟩
 ·cases h
 ·injection hv with e1 e2 e3;injection e1 with e1;injection e1 with e1 e4;subst e1;subst e3;exact Or.inr ⟨b,cap,cur,rfl,hb,ht,hh,by omega,hm,hs,fun i hi=>hf i (Ts hi (Nat.mul_le_mul_right sz hk))⟩
theorem Ae.owns(h:Ae w B tag c e sz v n f):w.ownsRow B e sz v n ((List.range (n * sz)).map f):=by
 refine⟨by simp,?_⟩;rcases h with h|⟨b,cap,cur,hv,hb,ht,hh,hc,hm,hs,hf⟩
 ·exact Or.inl h
 ·refine Or.inr ⟨b,cap,cur,hv,hb,hh,hc,hm,hs,?_⟩;apply List.ext_getElem?;intro i;by_cases hi:i<n * sz
  ·rw[List.getElem?_take_of_lt hi,Array.getElem?_toList,hf i hi];simp[hi]
  ·rw[List.getElem?_eq_none (by simp;omega),List.getElem?_eq_none (by simp;omega)]
theorem Ae.of_owns{g:Nat}{xs:List Value}(h:w.ownsRow B e sz (.slice (some ⟨g,0,none⟩) n cap) n xs)(ht:tag g=c)(hf:∀ i,i<n * sz->xs[i]?=some (f i)) :
  Ae w B tag c e sz (.slice (some ⟨g,0,none⟩) n cap) n f:=by
 obtain⟨hl,h⟩:=h;rcases h with⟨h,_⟩|⟨b,cap',cur,hv,hb,hh,hc,hm,hs,hx⟩
 ·cases h
 ·injection hv with e1 e2 e3;injection e1 with e1;injection e1 with e1 e4;subst e1;subst e3;refine Or.inr ⟨g,cap,cur,rfl,hb,ht,hh,hc,hm,hs,fun i hi=>?_⟩;rw[<-Array.getElem?_toList,<-List.getElem?_take_of_lt hi,hx];exact hf i hi
theorem Ae.grew{w':World}(h:Ae w B tag c e sz v n f){g:Nat}{news:List Value}
  (hown:w'.ownsRow B e sz (.slice (some ⟨g,0,none⟩) (n+1) cap) (n+1) ((List.range (n * sz)).map f++news)) (hgrow:w.grownBy w' v.ownBlock) (hat:v.ownBlock=some g\/g=w.heap.size) (hnl:news.length=sz) :
  ∃ tag',Ae w' B tag' c e sz (.slice (some ⟨g,0,none⟩) (n+1) cap) (n+1) (fun i=>if i<n * sz then f i else news.getD (i-n * sz) (.bool false))/\Ch B (·=c) tag tag' w w':=by
 refine⟨fun b=>if b<w.heap.size then tag b else c,Ae.of_owns hown ?_ (fun i hi=>?_),hgrow.os,hgrow.tape,hgrow.output,hgrow.size,fun b hb hl=>hgrow.block b hb ?_,fun b hb=>by show (if b<w.heap.size then tag b else c)=tag b;rw[if_pos hb]⟩
 ·show (if g<w.heap.size then tag g else c)=c;by_cases hg:g<w.heap.size
  ·rw[if_pos hg];rcases hat with hat|hat
   ·rcases h with⟨h,_⟩|⟨b,cap',cur,hv,hb,ht,_⟩
    ·rw[h] at hat;simp[Value.ownBlock] at hat
    ·rw[hv] at hat;have:b=g:=by simpa [Value.ownBlock] using hat
     rw[<-this];exact ht
   ·omega
  ·rw[if_neg hg]
 ·by_cases hlt:i<n * sz
  ·rw[if_pos hlt,Tq (by simpa using hlt)];simp[hlt]
  ·have hi2:i-n * sz<news.length:=by rw[hnl];rw[Nat.add_mul,Nat.one_mul] at hi;omega
   rw[if_neg hlt,List.getElem?_append_right (by simp;omega)];simp[List.getD_eq_getElem?_getD,hi2]
 ·intro e2;rcases h with⟨h,_⟩|⟨b',cap',cur,hv,hb',ht,_⟩
  ·rw[h] at e2;simp[Value.ownBlock] at e2
  ·rw[hv] at e2;have:b=b':=by simpa [Value.ownBlock] using e2
   subst this;rcases hl with hl|hl
   ·omega
   ·exact hl ht
end
end Go.Proofs.YtkafkipjedpohaaGreatDoor

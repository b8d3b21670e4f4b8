import Derived.Test.YtkafkipjedpohaaGreatDoorU6
import Derived.Test.YtkafkipjedpohaaGreatDoorU9
namespace Go.Proofs.YtkafkipjedpohaaGreatDoor
open Go.RowKit _root_.Go.Proofs.Tryz
def F9:PF:={args:=0,locals:=0,cn:=6,op:=fun i=>if i=0 then 0 else if i=1 then 0 else if i=2 then 5 else if i=3 then 19 else if i=4 then 1 else 14,ar:=fun i=>if i=0 then 2 else if i=1 then 3 else 0}
theorem SE:(AW 1 (fun _=>F9)).1=0:=by decide +kernel
def ID:Array Value:=#[.int .i64 0,.int .i64 2,.int .i64 0,.int .i64 3,.int .i64 5,.int .i64 0,.int .i64 19,.int .i64 0,.int .i64 1,.int .i64 0,.int .i64 14,.int .i64 0]
theorem M3(w:World):Df ((w.alloc (.cells ID 33)).alloc (.cells #[.int .i64 0,.int .i64 0,.slice (some ⟨w.heap.size,0,none⟩) 6 6] 31)) (some ⟨w.heap.size+1,0,none⟩) 1 (fun _=>F9) (fun _=>some ⟨w.heap.size,0,none⟩) (fun _=>6):=by
 intro _;refine⟨w.heap.size+1,0,rfl,by simp,fun k hk=>?_⟩;obtain rfl:k=0:=by omega
 have hB:Below (w.heap.size+1) (w.alloc (.cells ID 33)) ((w.alloc (.cells ID 33)).alloc (.cells #[.int .i64 0,.int .i64 0,.slice (some ⟨w.heap.size,0,none⟩) 6 6] 31)):=(Tu _ _).alloc (by simp) _;refine⟨BP _ _ _ _ _ (by simp),BP _ _ _ _ _ (by simp),BP _ _ _ _ _ (by simp),fun _=>⟨w.heap.size,0,rfl,by simp;omega,fun i hi=>?_⟩⟩;rw[hB.cell (p:=⟨w.heap.size,_,none⟩) (by simp),hB.cell (p:=⟨w.heap.size,_,none⟩) (by simp),BP _ _ _ _ _ rfl,BP _ _ _ _ _ rfl];have:i=0\/i=1\/i=2\/i=3\/i=4\/i=5:=by have:i<6:=hi;omega
 rcases this with rfl|rfl|rfl|rfl|rfl|rfl<;>exact⟨rfl,rfl⟩
set_option maxRecDepth 100000
set_option maxHeartbeats 16000000
theorem Ae.lower{w:World}{B B':Nat}{tag tag':Nat->Nat}{c:Nat}{e:TypeId}{sz:Nat}{v:Value}{n:Nat}{f:Nat->Value}(h:Ae w B' tag c e sz v n f)(hB:B<=B')(ht:∀ x,B'<=x->tag' x=tag x):Ae w B tag' c e sz v n f:=by
 rcases h with h|⟨b,cap,cur,hv,hb,hc,hr⟩
 ·exact Or.inl h
 ·exact Or.inr ⟨b,cap,cur,hv,by omega,(ht b hb).trans hc,hr⟩
theorem DZ.stored{w w2 w3:World}{fr:List Fr}{arr:List (List V)}{e:Ending}(hB:Below w.heap.size w w2)(hr:w2.heap[w.heap.size]?=some (.cells #[.slice none 0 0,.slice none 0 0] 53 (0,0)))(h:DZ w2 w3 fr arr e) :
  ∃ p1 c1 p2 c2,e=.returned (.agg #[.slice p1 fr.length c1,.slice p2 arr.length c2])/\w3.heap[w.heap.size]?=some (.cells #[.slice none 0 0,.slice none 0 0] 53 (0,0))/\DZ w ((w3.setCell ⟨w.heap.size,0,none⟩ (.slice p1 fr.length c1)).setCell ⟨w.heap.size,1,none⟩ (.slice p2 arr.length c2)) fr arr e:=by
 obtain⟨fv,av,LV,SV,AV,tag,rfl,hb,hf,ha⟩:=h;obtain⟨p1,c1,h1,_⟩:=hf.row.any;obtain⟨p2,c2,h2,_⟩:=ha.row.any;subst h1 h2;have hz:=Ah hr;refine⟨p1,c1,p2,c2,rfl,(hb.block _ hz).trans hr,?_⟩;have ht:∀ x,w2.heap.size<=x->(fun x=>if x<w2.heap.size then 9 else tag x) x=tag x:=fun x hx=>if_neg (by omega)
 have h9:(fun x=>if x<w2.heap.size then 9 else tag x) w.heap.size=9:=if_pos hz;have hle:w.heap.size<=w2.heap.size:=hB.size;have hcs:Ch w.heap.size (fun d=>d=9) (fun x=>if x<w2.heap.size then 9 else tag x) (fun x=>if x<w2.heap.size then 9 else tag x) w3 ((w3.setCell ⟨w.heap.size,0,none⟩ (.slice p1 fr.length c1)).setCell ⟨w.heap.size,1,none⟩ (.slice p2 arr.length c2)):=(Ch.set w3 _ _ _ (Te _) h9).trans (Ch.set _ _ _ _ (Te _) h9);have hf2:Cc w3 w.heap.size (fun x=>if x<w2.heap.size then 9 else tag x) (.slice p1 fr.length c1) LV SV (Am fr) fr.length:=⟨hf.row.lower hle ht,fun i hi=>(hf.loc i hi).lower hle ht,fun i hi=>(hf.stk i hi).lower hle ht⟩
 have ha2:Cd w3 w.heap.size (fun x=>if x<w2.heap.size then 9 else tag x) (.slice p2 arr.length c2) AV arr arr.length:=⟨ha.row.lower hle ht,fun i hi=>(ha.arr i hi).lower hle ht⟩
 exact⟨_,_,LV,SV,AV,_,rfl,(hB.trans (hb.mono hle)).trans (hcs.below (by have:=hb.size;omega)),hf2.keep hcs (by omega) (fun i _=>⟨by omega,by omega⟩),ha2.keep hcs (by omega) (fun i _=>by omega)⟩
theorem Hz{fr:List Fr}{i:Nat}(h:i<fr.length):Am fr i∈fr:=by
 unfold Am;have hl:i<fr.reverse.length:=by simpa using h
 rw[Tj,List.getElem?_eq_getElem hl];exact List.mem_reverse.1 (List.getElem_mem hl)
theorem KG{arr:List (List V)}{j:Nat}(h:j<arr.length):arr.getD j []∈arr:=by
 rw[Tj,List.getElem?_eq_getElem h];exact List.getElem_mem h
theorem Pm(w:World)(cb pb po pc m:Nat)(F:Nat->PF)(K:Nat->Nat->Bool)(H:Nat->Nat->Int)(CA:Nat->Option Addr)(CC:Nat->Nat)(fuel:Int)(hc:w.cell? ⟨cb,0,none⟩=some (.slice (some ⟨pb,po,none⟩) m pc))(hP:BD w pb po m F CA CC)(hcc:∀ k,k<m->(F k).cn<=CC k)(hF:AP m F K H) :
  Calls prog 22 #[.pointer (some ⟨cb,0,none⟩),.int .i64 fuel] w fun e w'=>DZ w w' (Bl F fuel).fr (Bl F fuel).arr e:=by
 have hcz:=Tr w _ hc;have hW:Below w.heap.size w (w.alloc (.cells #[.slice none 0 0,.slice none 0 0] 53)):=(Tu _ _).alloc (Te _) _;have hP2:=hP.below hW (Te _);have hrun:=Lj _ m _ F K H fuel (DR.of_prog (pc:=pc) hP2 hcc) (Pg.of_prog (pc:=pc) hP2) hF;have c0:=(hW.cell (p:=⟨cb,0,none⟩) hcz).trans hc;have r0:(w.alloc (.cells #[.slice none 0 0,.slice none 0 0] 53)).heap[w.heap.size]?=some (.cells #[.slice none 0 0,.slice none 0 0] 53 (0,0)):=Tv _ _;have hz:(w.alloc (.cells #[.slice none 0 0,.slice none 0 0] 53)).heap.size=w.heap.size+1:=by simp
 obtain⟨Av,har,_⟩:=EX hF (AX fuel);have hfl:=EI fuel;have h1:(Bl F fuel).fr.length<=1000:=by have:=Av.fr;show (AY F (AC F) (AX fuel)).fr.length<=1000;omega
 have h2:(Bl F fuel).arr.length<=200000:=by show (AY F (AC F) (AX fuel)).arr.length<=200000;omega
 have h3:∀ i,i<(Bl F fuel).fr.length->(Am (Bl F fuel).fr i).loc.length<=200000/\(Am (Bl F fuel).fr i).stk.length<=200000:=fun i hi=>by have:=Av.ls _ (Hz hi);show (Am (AY F (AC F) (AX fuel)).fr i).loc.length<=200000/\(Am (AY F (AC F) (AX fuel)).fr i).stk.length<=200000;omega
 have h4:∀ j,j<(Bl F fuel).arr.length->((Bl F fuel).arr.getD j []).length<=200000:=fun j hj=>by have:=Av.al _ (KG hj);show ((AY F (AC F) (AX fuel)).arr.getD j []).length<=200000;omega
 generalize Ca (Bl F fuel)=en at *;generalize Bl F fuel=sN at *;have HR:=Aa hrun;have HX:=Aa (Tc hW (Tc r0 hz));have HZ:=Aa (Tc h1 (Tc h2 (Tc h3 h4)));clear hrun hW hP hP2 hc r0 hz hF hcc Av har hfl h1 h2 h3 h4;go_enter func22,ntmps22
 go_wp2_with fail
 refine HR.out.mono ?_;rintro e w2 ⟨mb,rfl,hB2,A2,MV2,m2⟩;have HO:=Aa (Lc w2 _ mb A2 sN en m2.lay HZ.out.1 HZ.out.2.1 HZ.out.2.2.1 HZ.out.2.2.2);have HB2:=Aa hB2;clear hB2 m2 HR;go_wp2_with fail
 refine HO.out.mono ?_;intro e w3 hst;obtain⟨hW,r0,hz⟩:=HX.out;have hz2:=HB2.out.size;have r2:=(HB2.out.block w.heap.size (by omega)).trans r0;obtain⟨p1,c1,p2,c2,rfl,r3,hfin⟩:=DZ.stored (hW.trans (HB2.out.mono (by omega))) r2 hst;have y0:w3.cell? ⟨w.heap.size,0,none⟩=some (.slice none 0 0):=(Ab r3).trans rfl;have y1:w3.cell? ⟨w.heap.size,1,none⟩=some (.slice none 0 0):=(Ab r3).trans rfl;have z0:=Ax (o:=0) r3;have z1:=Ax (o:=1) r3;have g0:=AM (o:=1) (AM (o:=0) r3 (.slice p1 sN.fr.length c1)) (.slice p2 sN.arr.length c2);have HQ:=Aa (Tc g0 hfin);clear hst r0 r2 r3 hW hz hz2 HX HB2 HO g0 hfin HZ;go_wp2;obtain⟨g0,hfin⟩:=HQ.out;generalize (w3.setCell ⟨w.heap.size,0,none⟩ (.slice p1 sN.fr.length c1)).setCell ⟨w.heap.size,1,none⟩ (.slice p2 sN.arr.length c2)=V at *;have v0:V.cell? ⟨w.heap.size,0,none⟩=some (.slice p1 sN.fr.length c1):=(Ab g0).trans rfl;have v1:V.cell? ⟨w.heap.size,1,none⟩=some (.slice p2 sN.arr.length c2):=(Ab g0).trans rfl;exact bodyPost_ret (v:=.agg #[.slice p1 sN.fr.length c1,.slice p2 sN.arr.length c2]) (by simp[results,Tryz.results22,go_sem,v0,v1]) rfl hfin
theorem Gi(c n:Int)(w:World)(hc:-9223372036854775808<=c/\c<=9223372036854775807)(hn:0<n/\n<=100000000) :
  Calls prog 53 #[.int .i64 c,.int .i64 n] w fun e w'=>∃ r:Nat,e=.returned (.int .i64 r)/\(r:Int)<n/\w'=w:=by
 obtain⟨h1,h2⟩:=hc;obtain⟨h3,h4⟩:=hn;have hn0:¬n=0:=by omega
 by_cases h:c<0
 ·have hd:decide (c<0)=true:=by simp[h]
  have e1:wrap64 (c+1)=c+1:=by unfold wrap64;omega
  have e2:wrap64 (-(c+1))=-(c+1):=by unfold wrap64;omega
  have e3:(-(c+1)).tmod n=(-(c+1)) % n:=Int.tmod_eq_emod_of_nonneg (by omega);have k1:=Int.emod_nonneg (-(c+1)) hn0;have k2:=Int.emod_lt_of_pos (-(c+1)) h3;have e4:wrap64 ((-(c+1)) % n)=(-(c+1)) % n:=by unfold wrap64;omega
  obtain⟨r,hr⟩:∃ r:Nat,(-(c+1)) % n=r:=⟨((-(c+1)) % n).toNat,by omega⟩
  have HR:=Aa (Tc hr k2);clear k1 k2 hr;go_enter func53,ntmps53
  go_wp2;go_ret;refine⟨r,?_,by have h1:=HR.out.1;have h2:=HR.out.2;omega,rfl⟩;rw[<-HR.out.1];simp_all
 ·have hd:decide (c<0)=false:=by simp[h]
  have e3:c.tmod n=c % n:=Int.tmod_eq_emod_of_nonneg (by omega);have k1:=Int.emod_nonneg c hn0;have k2:=Int.emod_lt_of_pos c h3;have e4:wrap64 (c % n)=c % n:=by unfold wrap64;omega
  obtain⟨r,hr⟩:∃ r:Nat,c % n=r:=⟨(c % n).toNat,by omega⟩
  have HR:=Aa (Tc hr k2);clear k1 k2 hr;go_enter func53,ntmps53
  go_wp2;go_ret;refine⟨r,?_,by have h1:=HR.out.1;have h2:=HR.out.2;omega,rfl⟩;rw[<-HR.out.1];rfl
def C5(m:Nat)(F:Nat->PF)(N:Int):List Nat:=if 0<=N/\N<m then BC (F N.toNat) (F N.toNat).cn else []
def IV(w w':World)(v:Value)(l:List Nat):Prop:=Ae w' w.heap.size (fun _=>0) 0 3 1 v l.length (Dm l)
theorem RK(w:World)(cb pb po pc m:Nat)(F:Nat->PF)(K:Nat->Nat->Bool)(H:Nat->Nat->Int)(CA:Nat->Option Addr)(CC:Nat->Nat)(N:Int)(hc:w.cell? ⟨cb,0,none⟩=some (.slice (some ⟨pb,po,none⟩) m pc))(hP:BD w pb po m F CA CC)(hF:AP m F K H) :
  Calls prog 27 #[.pointer (some ⟨cb,0,none⟩),.int .i64 N] w fun e w'=>∃ v,e=.returned v/\IV w w' v (C5 m F N)/\Below w.heap.size w w':=by
 have hm:=hF.size;by_cases h0:N<0
 ·have hd:decide (N<0)=true:=by simpa using h0
  have hN:Hid (C5 m F N=[]):=by unfold Hid C5;rw[if_neg (by omega)]
  clear hP hF;go_enter func27,ntmps27
  go_wp2;go_ret;exact⟨_,rfl,by rw[hN.out];exact Ae.nil _ _ _ _ _ _ _,Tu _ _⟩
 ·have hd:decide (N<0)=false:=by simpa using h0
  by_cases h1:(m:Int)<=N
  ·have hd1:decide ((m:Int)<=N)=true:=by simpa using h1
   have hN:Hid (C5 m F N=[]):=by unfold Hid C5;rw[if_neg (by omega)]
   clear hP hF;go_enter func27,ntmps27
   go_wp2;go_ret;exact⟨_,rfl,by rw[hN.out];exact Ae.nil _ _ _ _ _ _ _,Tu _ _⟩
  ·obtain⟨k,rfl⟩:∃ k:Nat,N=k:=⟨N.toNat,by omega⟩
   have hkm:k<m:=by omega
   have hd1:decide ((m:Int)<=(k:Int))=false:=by simp;omega
   have hff:=hF.fn k hkm;have hfun:=hP.fn k hkm;obtain⟨kb,ko,eca,hkb,hcode⟩:=hfun.code hff.cn.1;have a2:=hfun.slice;rw[eca] at a2;have hpz:=hP.lt;have i0:(0:Int)<=(k:Int):=by omega
   have i1:(k:Int)<(m:Int):=by omega
   have hh:=LW w kb ko (CC k) (F k) hcode hkb hff.cn.2 (fun j hj hop=>by
    have hl:=hff.legal j hj;exact DF hl hop)
   have HH:=Aa hh;have hN:Hid (C5 m F (k:Int)=BC (F k) (F k).cn):=by unfold Hid C5;rw[if_pos (by omega),Int.toNat_natCast]
   clear hP hF hff hfun hcode hh eca;generalize hcn:(F k).cn=cn at *;have HCN:=Aa hcn;clear hcn;go_enter func27,ntmps27
   go_wp2_with fail
   refine HH.out.mono ?_;rintro e w2 ⟨v,rfl,h1,h2⟩;have HQ:=Aa (Tc h1 h2);clear h1 h2;go_wp2;go_ret;exact⟨_,rfl,by rw[hN.out];exact HQ.out.1,HQ.out.2⟩
theorem Q6(w:World)(pb po pc m:Nat)(F:Nat->PF)(K:Nat->Nat->Bool)(H:Nat->Nat->Int)(CA:Nat->Option Addr)(CC:Nat->Nat)(N:Int)(hP:BD w pb po m F CA CC)(hF:AP m F K H) :
  Calls prog 54 #[.slice (some ⟨pb,po,none⟩) m pc,.int .i64 N] w fun e w'=>∃ v,e=.returned v/\IV w w' v (C5 m F N)/\Below w.heap.size w w':=by
 have hm:=hF.size;by_cases h0:N<0
 ·have hd:decide (N<0)=true:=by simpa using h0
  have hN:Hid (C5 m F N=[]):=by unfold Hid C5;rw[if_neg (by omega)]
  clear hP hF;go_enter func54,ntmps54
  go_wp2;go_ret;exact⟨_,rfl,by rw[hN.out];exact Ae.nil _ _ _ _ _ _ _,Tu _ _⟩
 ·have hd:decide (N<0)=false:=by simpa using h0
  by_cases h1:(m:Int)<=N
  ·have hd1:decide ((m:Int)<=N)=true:=by simpa using h1
   have hN:Hid (C5 m F N=[]):=by unfold Hid C5;rw[if_neg (by omega)]
   clear hP hF;go_enter func54,ntmps54
   go_wp2;go_ret;exact⟨_,rfl,by rw[hN.out];exact Ae.nil _ _ _ _ _ _ _,Tu _ _⟩
  ·obtain⟨k,rfl⟩:∃ k:Nat,N=k:=⟨N.toNat,by omega⟩
   have hkm:k<m:=by omega
   have hN:C5 m F (k:Int)=BC (F k) (F k).cn:=by unfold C5;rw[if_pos (by omega),Int.toNat_natCast]
   rw[hN];exact OC w pb po pc m k (F k) (CA k) (CC k) (hP.fn k hkm) hP.lt hkm hm.2 (hF.fn k hkm).cn.2
def Dx(w:World)(B:Nat)(tag:Nat->Nat)(b:Nat):Prop:=b<w.heap.size/\(b<B\/tag b=9)
def FD(w:World)(B:Nat)(tag:Nat->Nat)(pb po m:Nat)(F:Nat->PF):Prop :=
 ∃ CA CC,BD w pb po m F CA CC/\Dx w B tag pb/\∀ k,k<m->∀ cb co,CA k=some ⟨cb,co,none⟩->1<=(F k).cn->Dx w B tag cb
section
variable {w w':World}{B m:Nat}{tag tag':Nat->Nat}{F:Nat->PF}
theorem FD.keep{pb po:Nat}(h:FD w B tag pb po m F)(hz:w.heap.size<=w'.heap.size)(hk:∀ b,Dx w B tag b->w'.heap[b]?=w.heap[b]?)(ht:∀ b,b<w.heap.size->tag b=9->tag' b=9):FD w' B tag' pb po m F:=by
 obtain⟨CA,CC,hP,h1,h2⟩:=h;have hs:∀ b,Dx w B tag b->Dx w' B tag' b:=fun b hb=>⟨by have:=hb.1;omega,by rcases hb.2 with h|h;exact Or.inl h;exact Or.inr (ht b hb.1 h)⟩
 have hc:∀ b o,Dx w B tag b->w'.cell? ⟨b,o,none⟩=w.cell? ⟨b,o,none⟩:=fun b o hb=>Tw (hk b hb)
 refine⟨CA,CC,⟨(hs pb h1).1,fun k hkm=>?_⟩,hs pb h1,fun k hkm cb co e hcn=>hs cb (h2 k hkm cb co e hcn)⟩;have hf:=hP.fn k hkm;refine⟨(hc pb _ h1).trans hf.args,(hc pb _ h1).trans hf.locals,(hc pb _ h1).trans hf.slice,fun hcn=>?_⟩;obtain⟨cb,co,e,hl,hcode⟩:=hf.code hcn;have hcs:=h2 k hkm cb co e hcn;refine⟨cb,co,e,(hs cb hcs).1,fun i hi=>?_⟩;obtain⟨c0,c1⟩:=hcode i hi;exact⟨(hc cb _ hcs).trans c0,(hc cb _ hcs).trans c1⟩
def H8(w:World)(B:Nat)(tag:Nat->Nat)(g m:Nat)(F:Nat->PF):Prop :=
 ∃ CA CC,BD w g 0 m F CA CC/\(∀ k,k<m->(F k).cn<=CC k)/\Dx w B tag g/\∀ k,k<m->∀ cb co,CA k=some ⟨cb,co,none⟩->1<=(F k).cn->Dx w B tag cb
theorem H8.keep{g:Nat}(h:H8 w B tag g m F)(hz:w.heap.size<=w'.heap.size)(hk:∀ b,Dx w B tag b->w'.heap[b]?=w.heap[b]?)(ht:∀ b,b<w.heap.size->tag b=9->tag' b=9):H8 w' B tag' g m F:=by
 obtain⟨CA,CC,hP,hcc,h1,h2⟩:=h;have hs:∀ b,Dx w B tag b->Dx w' B tag' b:=fun b hb=>⟨by have:=hb.1;omega,by rcases hb.2 with h|h;exact Or.inl h;exact Or.inr (ht b hb.1 h)⟩
 have hc:∀ b o,Dx w B tag b->w'.cell? ⟨b,o,none⟩=w.cell? ⟨b,o,none⟩:=fun b o hb=>Tw (hk b hb)
 refine⟨CA,CC,⟨(hs g h1).1,fun k hkm=>?_⟩,hcc,hs g h1,fun k hkm cb co e hcn=>hs cb (h2 k hkm cb co e hcn)⟩;have hf:=hP.fn k hkm;refine⟨(hc g _ h1).trans hf.args,(hc g _ h1).trans hf.locals,(hc g _ h1).trans hf.slice,fun hcn=>?_⟩;obtain⟨cb,co,e,hl,hcode⟩:=hf.code hcn;have hcs:=h2 k hkm cb co e hcn;refine⟨cb,co,e,(hs cb hcs).1,fun i hi=>?_⟩;obtain⟨c0,c1⟩:=hcode i hi;exact⟨(hc cb _ hcs).trans c0,(hc cb _ hcs).trans c1⟩
structure Fg (w:World) (B:Nat) (tag:Nat->Nat) (cv pv:Value) (m:Nat) (F:Nat->PF):Prop where
 code:∃ cb g cap,cv=.pointer (some ⟨cb,0,none⟩)/\Dx w B tag cb/\w.cell? ⟨cb,0,none⟩=some (.slice (some ⟨g,0,none⟩) m cap)/\H8 w B tag g m F
 prog:∃ pb po pc,pv=.slice (some ⟨pb,po,none⟩) m pc/\FD w B tag pb po m F
 fine:∃ K H,AP m F K H
theorem Fg.keep{cv pv:Value}(h:Fg w B tag cv pv m F)(hz:w.heap.size<=w'.heap.size)(hk:∀ b,Dx w B tag b->w'.heap[b]?=w.heap[b]?)(ht:∀ b,b<w.heap.size->tag b=9->tag' b=9):Fg w' B tag' cv pv m F:=by
 obtain⟨⟨cb,g,cap,e1,s1,c1,p1⟩,⟨pb,po,pc,e2,p2⟩,hF⟩:=h;exact⟨⟨cb,g,cap,e1,⟨by have:=s1.1;omega,by rcases s1.2 with h|h;exact Or.inl h;exact Or.inr (ht cb s1.1 h)⟩,(Tw (hk cb s1)).trans c1,p1.keep hz hk ht⟩,⟨pb,po,pc,e2,p2.keep hz hk ht⟩,hF⟩
structure B3 (w:World) (B wb:Nat) (A:AN) (n:Nat->Nat) (nc:Nat) (CV PV:Nat->Value) (M:Nat->Nat) (FF:Nat->Nat->PF):Prop where
 hold:AZ w B wb A (fun d=>d=9) n
 four:∀ k,k<4->n k % 4=0
 cr:Ae w B A.tag 3 25 1 A.cv nc CV
 pr:Ae w B A.tag 4 23 1 A.pv nc PV
 cd:∀ i,i<nc->Fg w B A.tag (CV i) (PV i) (M i) (FF i)
end
theorem B3.after{w X w2:World}{B wb:Nat}{A A2:AN}{n n2:Nat->Nat}{nc:Nat}{CV PV:Nat->Value}{M:Nat->Nat}{FF:Nat->Nat->PF}{tX:Nat->Nat}{p:Nat->Prop}(h:B3 w B wb A n nc CV PV M FF)(hX:Below w.heap.size w X)(ht:∀ b,b<w.heap.size->tX b=A.tag b)
  (h2:AZ w2 B wb A2 (fun d=>d=9\/d=10) n2) (hc:Ch B p tX A2.tag X w2) (hp3:¬p 3) (hp4:¬p 4) (hp9:¬p 9) (hcv:A2.cv=A.cv) (hpv:A2.pv=A.pv) (h4:∀ k,k<4->n2 k % 4=0) :
  ∃ A3:AN,B3 w2 B wb A3 n2 nc CV PV M FF:=by
 have c0:Ch B (fun _=>False) A.tag tX w X:=Ch.of_tags hX ht;have call:Ch B p A.tag A2.tag w w2:=(c0.mono (fun _ h=>h.elim)).trans hc;have hre:∀ d,d≠10->∀ b,b<w2.heap.size->A2.tag b=d->(if A2.tag b=10 then 9 else A2.tag b)=d:=fun d hd b _ e=>by rw[if_neg (by omega)];exact e
 have hrow:∀ {c:Nat} {e:TypeId} {sz:Nat} {v:Value} {m:Nat} {f:Nat->Value},c≠10->Ae w2 B A2.tag c e sz v m f->Ae w2 B (fun b=>if A2.tag b=10 then 9 else A2.tag b) c e sz v m f:=by
  intro c e sz v m f hc hr;rcases hr with hr|⟨b,cap,cur,hv,hb,ht,hh,hr⟩
  ·exact Or.inl hr
  ·exact Or.inr ⟨b,cap,cur,hv,hb,hre c hc b (Ah hh) ht,hh,hr⟩
 refine⟨{A2 with tag:=fun b=>if A2.tag b=10 then 9 else A2.tag b},⟨?_,h4,?_,?_,fun i hi=>?_⟩⟩
 ·refine h2.retag (fun b _ hb=>?_) (fun b _ hb=>?_) (fun d hd=>by rw[hd];unfold Wt;omega)
  ·show (if A2.tag b=10 then 9 else A2.tag b)=A2.tag b;rw[if_neg (by unfold Wt at hb;omega)]
  ·show (if A2.tag b=10 then 9 else A2.tag b)=9;rcases hb with hb|hb
   ·rw[if_neg (by omega)];exact hb
   ·rw[if_pos hb]
 ·show Ae w2 B _ 3 _ 1 A2.cv nc CV;rw[hcv];exact hrow (by omega) (h.cr.keep call hp3)
 ·show Ae w2 B _ 4 _ 1 A2.pv nc PV;rw[hpv];exact hrow (by omega) (h.pr.keep call hp4)
 ·refine(h.cd i hi).keep call.size (fun b hb=>call.block b hb.1 ?_) (fun b hb h9=>?_)
  ·rcases hb.2 with h|h
   ·exact Or.inl h
   ·exact Or.inr (by rw[h];exact hp9)
  ·show (if A2.tag b=10 then 9 else A2.tag b)=9;have:=call.tags b hb;rw[this,h9,if_neg (by omega)]
def Cn(w:World)(B wb:Nat)(n:Nat->Nat)(nc:Nat)(CV PV:Nat->Value)(M:Nat->Nat)(FF:Nat->Nat->PF)(e:Ending)(w':World):Prop :=
 e=.returned (.bool true)/\Below B w w'/\∃ (A':AN) (n':Nat->Nat),B3 w' B wb A' n' nc CV PV M FF/\∀ k,k<4->n' k<=n k+400400
theorem Gw{w:World}{B:Nat}{tag:Nat->Nat}{cv pv:Value}{m:Nat}{F:Nat->PF}(h:Fg w B tag cv pv m F):∃ cb g cap CA CC pb po pc CA2 CC2 K H,cv=.pointer (some ⟨cb,0,none⟩)/\w.cell? ⟨cb,0,none⟩=some (.slice (some ⟨g,0,none⟩) m cap)/\BD w g 0 m F CA CC/\(∀ k,k<m->(F k).cn<=CC k)/\pv=.slice (some ⟨pb,po,none⟩) m pc/\BD w pb po m F CA2 CC2/\AP m F K H/\cb<w.heap.size:=by
 obtain⟨⟨cb,g,cap,e1,s1,c1,CA,CC,hP,hcc,_⟩,⟨pb,po,pc,e2,CA2,CC2,hP2,_⟩,K,H,hF⟩:=h;exact⟨cb,g,cap,CA,CC,pb,po,pc,CA2,CC2,K,H,e1,c1,hP,hcc,e2,hP2,hF,s1.1⟩
theorem QO(w:World)(B wb:Nat)(A:AN)(n:Nat->Nat)(nc:Nat)(CV PV:Nat->Value)(M:Nat->Nat)(FF:Nat->Nat->PF)(h:B3 w B wb A n nc CV PV M FF)(at_ N:Int)(ep pp:Option Addr)(el ec pl pc:Nat)(hat:-9223372036854775808<=at_/\at_<=9223372036854775807)(hnc:1<=nc)(hnc2:nc<=10000000)(hnb:∀ k,k<4->n k<=3000000000000) :
  Calls prog 38 #[.pointer (some ⟨wb,0,none⟩),.agg #[.int .i64 3,.int .i64 at_,.int .i64 N,.slice ep el ec,.slice pp pl pc]] w (Cn w B wb n nc CV PV M FF):=by
 have hcr:=h.cr;have hpr:=h.pr;obtain⟨crb,crc,hcv,_,hcz,hct,_⟩:=hcr.form (by omega);obtain⟨prb,prc,hpv,_,hpz,hpt,_⟩:=hpr.form (by omega);rw[hcv] at hcr;rw[hpv] at hpr;have x0:w.cell? ⟨wb,0,none⟩=some (.slice (some ⟨crb,0,none⟩) nc crc):=by rw[Ab h.hold.blk,<-hcv];rfl
 have x1:w.cell? ⟨wb,1,none⟩=some (.slice (some ⟨prb,0,none⟩) nc prc):=by rw[Ab h.hold.blk,<-hpv];rfl
 have hwz:=Ah h.hold.blk;obtain⟨W,hWd⟩:∃ W,W=w.alloc (.cells #[.int .i64 3,.int .i64 at_,.int .i64 N,.slice ep el ec,.slice pp pl pc] 100):=⟨_,rfl⟩
 have hW:Below w.heap.size w W:=by rw[hWd];exact(Tu _ _).alloc (Te _) _
 have ob:W.heap[w.heap.size]?=some (.cells #[.int .i64 3,.int .i64 at_,.int .i64 N,.slice ep el ec,.slice pp pl pc] 100 (0,0)):=by rw[hWd];exact Tv _ _
 have o1:W.cell? ⟨w.heap.size,1,none⟩=some (.int .i64 at_):=(Ab ob).trans rfl;have y0:=(hW.cell (p:=⟨wb,0,none⟩) hwz).trans x0;have y1:=(hW.cell (p:=⟨wb,1,none⟩) hwz).trans x1;have hrc:=fun r (hr:r<nc)=>(hW.cell (p:=⟨crb,r,none⟩) hcz).trans (hcr.cell (i:=r) (by omega))
 have hrp:=fun r (hr:r<nc)=>(hW.cell (p:=⟨prb,r,none⟩) hpz).trans (hpr.cell (i:=r) (by omega))
 have HX:=Aa (Tc h (Tc hnb (Tc hW (Tc ob (Tc hrc hrp)))));have HD:=Aa hWd;clear h hnb hcr hpr hcv hpv x0 x1 hW ob hrc hrp hct hpt hWd;have hoz:w.heap.size<W.heap.size:=Ah HX.out.2.2.2.1;have hwzW:wb<W.heap.size:=by omega
 go_enter func38,ntmps38
 go_wp2_with fail
 rw[<-HD.out];refine AG (fun w'=>w'.cell? ⟨w.heap.size,1,none⟩=some (.int .i64 at_)/\w'.cell? ⟨wb,0,none⟩=some (.slice (some ⟨crb,0,none⟩) nc crc)) TH (by kernel_rfl) (by kernel_rfl) (Co _ _ _) ⟨o1,y0⟩ ?_;simp only[TH,lexL,Tl,Tm];iterate 7 (refine Aw (by rfl) (by intro w' hS';obtain⟨q0,q1⟩:=hS';go_simp;exact rfl) ?_;simp only[Act.put,Td,Th,Tg])
 refine Az (fun K hK=>?_);go_simp;refine(Gi at_ (nc:Int) W.drew hat (by omega)).mono ?_;rintro e w' ⟨r,rfl,hr,rfl⟩;refine hK.out _ _ ⟨o1,y0⟩ ?_;clear hK K;refine Aw (by rfl) (by intro w' hS';go_simp;exact rfl) ?_;simp only[Act.put,Td,Th,Tg];refine AF ?_;have hrn:r<nc:=by omega
 obtain⟨cb,g,cap,CA,CC,pb,po,pcc,CA2,CC2,K,H,ecv,c1,hP,hcc,epv,hP2,hF,hcbz⟩:=Gw (HX.out.1.cd r hrn);have z0:=HX.out.2.2.2.2.1 r hrn;have z1:=HX.out.2.2.2.2.2 r hrn;rw[ecv] at z0;rw[epv] at z1;have hWB:=HX.out.2.2.1;have hWd2:Below W.heap.size W W.drew:=(Tu _ _).drew;have hout:=(EX hF (AX N)).2.2;have hfl:=EI N;have hrun:=O6 W.drew cb g 0 cap (M r) (FF r) K H CA CC N (((hWB.trans (hWd2.mono hWB.size)).cell (p:=⟨cb,0,none⟩) hcbz).trans c1) (hP.below (hWB.trans (hWd2.mono hWB.size)) (Te _)) hcc hF (by show (AY (FF r) (AC (FF r)) (AX N)).out.length<=200000;omega);have o0:W.cell? ⟨w.heap.size,0,none⟩=some (.int .i64 3):=(Ab HX.out.2.2.2.1).trans rfl;have o2:W.cell? ⟨w.heap.size,2,none⟩=some (.int .i64 N):=(Ab HX.out.2.2.2.1).trans rfl;have HR:=Aa hrun;have HP:=Aa (Tc hP2 (Tc hF (Tc hout hfl)));have i0:(0:Int)<=(r:Int):=by omega
 clear hrun hP hP2 hF hout hfl ecv epv c1 hWB hWd2;go_wp2_with fail
 refine HR.out.mono ?_;rintro e w2 ⟨v,rfl,hB2,hO⟩;obtain⟨vp,vcap,rfl⟩:=hO.slc;have hdone:(C2 (Bl (FF r) N)).fin=Ca (Bl (FF r) N):=rfl;generalize hsN:Bl (FF r) N=sN at *;have hWB:=HX.out.2.2.1;have hWd2:Below W.heap.size W W.drew:=(Tu _ _).drew;have hw2:Below w.heap.size w w2:=(hWB.trans (hWd2.mono hWB.size)).trans (hB2.mono hWB.size);obtain⟨X1,hX1⟩:∃ X1,X1=w2.alloc (.cells #[.int .i64 (Ca sN),.int .i64 sN.steps,.int .i64 sN.gives.k,.int .i64 sN.gives.n,.slice vp sN.out.length vcap] 46):=⟨_,rfl⟩
 have hXB:Below w2.heap.size w2 X1:=by rw[hX1];exact(Tu _ _).alloc (Te _) _
 have hbx:X1.heap[w2.heap.size]?=some (.cells #[.int .i64 (Ca sN),.int .i64 sN.steps,.int .i64 sN.gives.k,.int .i64 sN.gives.n,.slice vp sN.out.length vcap] 46 (0,0)):=by rw[hX1];exact Tv _ _
 have hwX:Below w.heap.size w X1:=hw2.trans (hXB.mono hw2.size);have hobz:w.heap.size<w2.heap.size:=Ts hoz hB2.size;have p2:X1.cell? ⟨w.heap.size,2,none⟩=some (.int .i64 N):=(hXB.cell (p:=⟨w.heap.size,2,none⟩) hobz).trans ((hB2.cell (p:=⟨w.heap.size,2,none⟩) hoz).trans o2);have b0:X1.cell? ⟨w2.heap.size,0,none⟩=some (.int .i64 (Ca sN)):=(Ab hbx).trans rfl;have b1:X1.cell? ⟨w2.heap.size,1,none⟩=some (.int .i64 sN.steps):=(Ab hbx).trans rfl;have b2:X1.cell? ⟨w2.heap.size,2,none⟩=some (.int .i64 sN.gives.k):=(Ab hbx).trans rfl;have b3:X1.cell? ⟨w2.heap.size,3,none⟩=some (.int .i64 sN.gives.n):=(Ab hbx).trans rfl;have b4:X1.cell? ⟨w2.heap.size,4,none⟩=some (.slice vp sN.out.length vcap):=(Ab hbx).trans rfl;have hXd:Below X1.heap.size X1 X1.drew:=(Tu _ _).drew;have hpl:=Ly X1.drew (M r) _ (FF r) K H N (Pg.of_prog (pc:=pcc) (HP.out.1.below (hwX.trans (hXd.mono hwX.size)) (Te _))) HP.out.2.1;rw[hsN] at hpl;have hout2:sN.out.length<=200000:=by
  have h1:=HP.out.2.2.1;have h2:=HP.out.2.2.2;have:Bl (FF r) N=AY (FF r) (AC (FF r)) (AX N):=rfl;rw[<-this,hsN] at h1;omega
 have hbz:w2.heap.size<X1.heap.size:=Ah hbx;have hobX:w.heap.size<X1.heap.size:=by omega
 have hargs:=(hO.args).below hXB;have HPL:=Aa hpl;have HO:=Aa (Tc hO (Tc hB2 (Tc hXB (Tc hwX hargs))));have HDN:=Aa hdone;have HX1:=Aa hX1;clear hpl hO hB2 hXB hwX hargs hdone hbx hWB hWd2 hw2 hX1 hXd HR HP hsN;unfold Dj;go_wp2_with fail
 rw[<-HX1.out];refine AG (fun w'=>w'.cell? ⟨w2.heap.size,0,none⟩=some (.int .i64 (Ca sN))/\w'.cell? ⟨w2.heap.size,1,none⟩=some (.int .i64 sN.steps)/\w'.cell? ⟨w2.heap.size,2,none⟩=some (.int .i64 sN.gives.k)/\w'.cell? ⟨w2.heap.size,3,none⟩=some (.int .i64 sN.gives.n)/\w'.cell? ⟨w2.heap.size,4,none⟩=some (.slice vp sN.out.length vcap)/\w'.cell? ⟨w.heap.size,2,none⟩=some (.int .i64 N)) TI (by kernel_rfl) (by kernel_rfl) (fun c0 a0 d0 v0 z0 h0=>A8 (P:=prog) f38 (Cn w B wb n nc CV PV M FF) c0 a0 d0 v0 z0 h0) ⟨b0,b1,b2,b3,b4,p2⟩ ?_;simp only[TI,lexL,Tl,Tm];iterate 4 (refine Aw (by rfl) (by intro w' hS';obtain⟨q0,q1,q2,q3,q4,q5⟩:=hS';go_simp;exact rfl) ?_;simp only[Act.put,Td,Th,Tg])
 refine Az (fun K' hK=>?_);go_simp;refine HPL.out.mono ?_;rintro e w3 ⟨rb,rfl,hB3,A2,l2⟩;have hB3':Below X1.heap.size X1 w3:=(show Below X1.heap.size X1 X1.drew from (Tu _ _).drew).trans hB3;have cc:∀ a:Addr,a.block<X1.heap.size->w3.cell? a=X1.cell? a:=fun a ha=>hB3'.cell (p:=a) ha
 refine hK.out _ _ ⟨(cc ⟨w2.heap.size,_,none⟩ hbz).trans b0,(cc ⟨w2.heap.size,_,none⟩ hbz).trans b1,(cc ⟨w2.heap.size,_,none⟩ hbz).trans b2,(cc ⟨w2.heap.size,_,none⟩ hbz).trans b3,(cc ⟨w2.heap.size,_,none⟩ hbz).trans b4,(cc ⟨w.heap.size,_,none⟩ hobX).trans p2⟩ ?_;clear hK K';have hoc:=Lg w3 _ rb A2 (C2 sN) _ l2 (HO.out.2.2.2.2.below hB3') hout2;unfold Dj at hoc;rw[HDN.out] at hoc;have HOC:=Aa hoc;have e4:=(cc ⟨w2.heap.size,4,none⟩ hbz).trans b4;have e0:=(cc ⟨w2.heap.size,0,none⟩ hbz).trans b0;have e1:=(cc ⟨w2.heap.size,1,none⟩ hbz).trans b1;have e2:=(cc ⟨w2.heap.size,2,none⟩ hbz).trans b2;have e3:=(cc ⟨w2.heap.size,3,none⟩ hbz).trans b3;have e5:=(cc ⟨w.heap.size,2,none⟩ hobX).trans p2;have HB3:=Aa hB3';have hz3:=hB3'.size;clear hoc cc hB3 hB3' l2 b0 b1 b2 b3 b4 p2 HPL;refine Az (fun K' hK=>?_);go_simp;refine HOC.out.mono ?_;rintro e w4 ⟨rfl,hB4⟩;have cc:∀ a:Addr,a.block<w3.heap.size->w4.cell? a=w3.cell? a:=fun a ha=>hB4.cell (p:=a) ha
 have hbz3:w2.heap.size<w3.heap.size:=by omega
 have hob3:w.heap.size<w3.heap.size:=by omega
 refine hK.out _ _ ⟨(cc ⟨w2.heap.size,_,none⟩ hbz3).trans e0,(cc ⟨w2.heap.size,_,none⟩ hbz3).trans e1,(cc ⟨w2.heap.size,_,none⟩ hbz3).trans e2,(cc ⟨w2.heap.size,_,none⟩ hbz3).trans e3,(cc ⟨w2.heap.size,_,none⟩ hbz3).trans e4,(cc ⟨w.heap.size,_,none⟩ hob3).trans e5⟩ ?_;clear hK K';have f4:=(cc ⟨w2.heap.size,4,none⟩ hbz3).trans e4;have HB4:=Aa (HB3.out.trans (hB4.mono HB3.out.size));clear hB4 cc e0 e1 e2 e3 e4 e5 HOC HB3;refine Aw (by rfl) (by intro w' hS';go_simp;exact rfl) ?_;simp only[Act.put,Td,Th,Tg];refine AF ?_;go_wp2_with fail
 refine AG (fun w'=>w'.cell? ⟨w2.heap.size,4,none⟩=some (.slice vp sN.out.length vcap)) TG (by kernel_rfl) (by kernel_rfl) (fun c0 a0 d0 v0 z0 h0=>A8 (P:=prog) f38 (Cn w B wb n nc CV PV M FF) c0 a0 d0 v0 z0 h0) f4 ?_;simp only[TG,lexL,Tl,Tm];iterate 5 (refine Aw (by rfl) (by intro w' hS';go_simp;exact rfl) ?_;simp only[Act.put,Td,Th,Tg])
 refine Az (fun K' hK=>?_);go_simp;obtain⟨hO,hB2,hXB,hwX,_⟩:=HO.out;have hw4:Below w2.heap.size w2 w4.drew:=(hXB.trans (HB4.out.mono hXB.size)).drew;have hww4:Below w.heap.size w w4.drew:=(hwX.trans (HB4.out.mono hwX.size)).drew;have hBw:B<=w.heap.size:=HX.out.1.hold.le;have hWs:w.heap.size<=W.drew.heap.size:=by show w.heap.size<=W.heap.size;omega
 have hW2s:=hB2.size;obtain⟨tX,htX⟩:∃ tX:Nat->Nat,tX=fun b=>if b<W.drew.heap.size then A.tag b else if b=w2.heap.size then 9 else 10:=⟨_,rfl⟩
 have row2:Ae w4.drew B tX 10 43 2 (.slice vp sN.out.length vcap) sN.out.length (Ar sN.out):=by
  have row1:=(hO.tagged (B:=B) (by omega) A.tag 10).retag (tag':=tX) (fun b hb=>by
   rw[htX];show (if b<W.drew.heap.size then A.tag b else if b=w2.heap.size then 9 else 10)=(if b<W.drew.heap.size then A.tag b else 10);by_cases h1:b<W.drew.heap.size
   ·rw[if_pos h1,if_pos h1]
   ·rw[if_neg h1,if_neg h1,if_neg (by omega)])
  exact row1.below hw4
 have htA:∀ b,b<w.heap.size->tX b=A.tag b:=fun b hb=>by rw[htX];show (if b<W.drew.heap.size then A.tag b else _)=_;rw[if_pos (by omega)]
 have hhold:AZ w4.drew B wb {A with tag:=tX} (fun d=>d=9) n:=HX.out.1.hold.keep (Ch.of_tags (p:=fun _=>False) hww4 htA) (fun _ _ h=>h);obtain⟨q,hq⟩:∃ q,n 0=4 * q:=⟨n 0 / 4,by have:=HX.out.1.four 0 (by omega);omega⟩
 have hn0:=HX.out.2.1 0 (by omega);have htb:tX w2.heap.size=9:=by rw[htX];show (if w2.heap.size<W.drew.heap.size then A.tag w2.heap.size else if w2.heap.size=w2.heap.size then 9 else 10)=9;rw[if_neg (by omega),if_pos rfl]
 have hbz4:w2.heap.size<w4.drew.heap.size:=by have:=HB4.out.size;show w2.heap.size<w4.heap.size;omega
 refine(Gk w4.drew B wb {A with tag:=tX} (fun d=>d=9) n q 10 vp vcap _ _ hhold hq (by omega) row2 hout2 (by omega) (by unfold Wt;omega) (by omega)).mono ?_;rintro e w5 ⟨rfl,A5,h5,cv5,pv5,xb5,ch5⟩;have s5:w5.cell? ⟨w2.heap.size,4,none⟩=some (.slice vp sN.out.length vcap):=(ch5.cell (a:=⟨w2.heap.size,4,none⟩) hbz4 (by show ¬(tX w2.heap.size=0\/tX w2.heap.size=5\/tX w2.heap.size=10);rw[htb];omega)).trans f4;refine hK.out _ _ s5 ?_;clear hK K';have HQ:=Aa (show Cn w B wb n nc CV PV M FF (.returned (.bool true)) w5 from by
  obtain⟨A3,hA3⟩:=HX.out.1.after hww4 htA h5 ch5 (by omega) (by omega) (by omega) cv5 pv5 (fun k hk=>by
   by_cases e:k=0
   ·subst e;rw[Au];omega
   ·rw[Ao _ _ _ _ e];exact HX.out.1.four k hk)
  refine⟨rfl,(hww4.mono hBw).trans (ch5.below (Nat.le_trans hBw hww4.size)),A3,_,hA3,fun k hk=>?_⟩;by_cases e:k=0
  ·subst e;rw[Au];omega
  ·rw[Ao _ _ _ _ e];omega)
 clear hO hB2 hXB hwX hw4 hww4 row2 htA hhold htb h5 cv5 pv5 xb5 ch5 s5 f4 htX;refine AF ?_;go_wp2;go_ret;exact HQ.out
end Go.Proofs.YtkafkipjedpohaaGreatDoor

import Derived.Test.YtkafkipjedpohaaGreatDoorM1
namespace Go.Proofs.YtkafkipjedpohaaGreatDoor
set_option maxRecDepth 100000
set_option maxHeartbeats 16000000
open Go.RowKit _root_.Go.Proofs.Tryz
section
variable {W w1:World}{b:Nat}{t:TypeId}{a:V}
theorem Pc{op:Int}(hop:op=4\/op=5\/op=6\/op=7\/op=8){b:V}(ha:a.k=1)(hb:b.k=1)(hz:¬(op=7/\b.n=0)):(AE op a b).2=0/\(AE op a b).1=Bn (DD op a.n b.n):=by
 unfold AE DD;have h9:op≠9:=by omega
 have h1:¬(a.k≠1\/b.k≠1):=by omega
 rw[if_neg h9,if_neg h1];rcases hop with rfl|rfl|rfl|rfl|rfl
 ·exact⟨rfl,rfl⟩
 ·exact⟨rfl,rfl⟩
 ·exact⟨rfl,rfl⟩
 ·have:b.n≠0:=fun h=>hz ⟨rfl,h⟩
  simp[this]
 ·by_cases h:a.n<b.n<;>simp[h]
theorem LM{op:Int}(hop:op=4\/op=5\/op=6\/op=7\/op=8){b:V}(h:a.k≠1\/b.k≠1):(AE op a b).2=3:=by
 unfold AE;rw[if_neg (by omega),if_pos h]
theorem NI{b:V}(ha:a.k=1)(hb:b.k=1)(hz:b.n=0):(AE 7 a b).2=4:=by
 unfold AE;rw[if_neg (by omega),if_neg (by omega)];simp[hz]
theorem OF(op:Int)(hop:op=4\/op=5\/op=6\/op=7\/op=8)(args:Array Value)(X:World):(callFunc (Dd op) args).run prog X=.ok (.enter (Dd op) args) X:=by
 rcases hop with rfl|rfl|rfl|rfl|rfl
 ·show (callFunc 148 args).run prog X=.ok (.enter 148 args) X;go_simp
 ·show (callFunc 149 args).run prog X=.ok (.enter 149 args) X;go_simp
 ·show (callFunc 150 args).run prog X=.ok (.enter 150 args) X;go_simp
 ·show (callFunc 151 args).run prog X=.ok (.enter 151 args) X;go_simp
 ·show (callFunc 152 args).run prog X=.ok (.enter 152 args) X;go_simp
theorem G9(k n:Int)(w:World):Calls prog 147 #[.agg #[.int .i64 k,.int .i64 n]] w fun e w'=>((k=1/\e=.returned (.int .i64 n))\/(k≠1/\e=BT 3))/\Below w.heap.size w w':=by
 refine(SP k n w).mono ?_;rintro e w' ⟨h,rfl⟩;exact⟨h,(Tu _ _).alloc (Te _) _⟩
theorem FN(n:Int)(w:World):Calls prog 133 #[.int .i64 n] w fun e w'=>e=.returned (.agg #[.int .i64 1,.int .i64 n])/\Below w.heap.size w w':=by
 refine(Sj n w).mono ?_;rintro e w' ⟨h,rfl⟩;exact⟨h,(Tu _ _).alloc (Te _) _⟩
theorem Ls(w:World)(a0 a1 b0 b1 c0 c1:Value)(t:TypeId) :
  let W:=((w.alloc (.cells #[a0,a1] t)).alloc (.cells #[b0,b1] t)).alloc (.cells #[c0,c1] t)
  Below w.heap.size w W/\W.heap.size=w.heap.size+3/\W.heap[w.heap.size]?=some (.cells #[a0,a1] t (0,0))/\W.heap[w.heap.size+1]?=some (.cells #[b0,b1] t (0,0))/\W.heap[w.heap.size+2]?=some (.cells #[c0,c1] t (0,0)):=by
 refine⟨(((Tu _ _).alloc (by simp) _).alloc (by simp) _).alloc (by simp;omega) _,by simp,?_,?_,?_⟩
 ·rw[Ty _ _ _ (by simp;omega),Ty _ _ _ (by simp)];exact Tv _ _
 ·rw[Ty _ _ _ (by simp)];have:=Tv (w.alloc (.cells #[a0,a1] t)) (.cells #[b0,b1] t);simpa using this
 ·have:=Tv ((w.alloc (.cells #[a0,a1] t)).alloc (.cells #[b0,b1] t)) (.cells #[c0,c1] t);simpa using this
def Sb(W:World)(b:Nat)(t:TypeId)(w':World):Prop:=Below b W w'/\∃ x y,w'.heap[b]?=some (.cells #[x,y] t (0,0))
theorem Sb.on{w2:World}(h:Sb W b t w1)(k:Below w1.heap.size w1 w2):Sb W b t w2:=by
 obtain⟨h1,x,y,h2⟩:=h;exact⟨h1.trans (k.mono (by have:=Ah h2;omega)),x,y,(k.block b (Ah h2)).trans h2⟩
theorem Sb.drew(h:Sb W b t w1):Sb W b t w1.drew:=h.on (Tu _ _).drew
theorem Sb.set(h:Sb W b t w1)(x y:Value):Sb W b t ((w1.setCell ⟨b,0,none⟩ x).setCell ⟨b,1,none⟩ y):=by
 obtain⟨h1,x',y',h2⟩:=h;refine⟨(h1.setCell (Te _) _).setCell (Te _) _,x,y,?_⟩;rw[AM (AM h2 _) _];rfl
theorem Sb.cells(h:Sb W b t w1):∃ x y,w1.cell? ⟨b,0,none⟩=some x/\w1.cell? ⟨b,1,none⟩=some y/\w1.frozen? ⟨b,0,none⟩=false/\w1.frozen? ⟨b,1,none⟩=false:=by
 obtain⟨_,x,y,h2⟩:=h;exact⟨x,y,(Ab h2).trans rfl,(Ab h2).trans rfl,Ax h2,Ax h2⟩
theorem Sb.read(h:Sb W b t w1)(x y:Value):((w1.setCell ⟨b,0,none⟩ x).setCell ⟨b,1,none⟩ y).cell? ⟨b,0,none⟩=some x/\((w1.setCell ⟨b,0,none⟩ x).setCell ⟨b,1,none⟩ y).cell? ⟨b,1,none⟩=some y:=by
 obtain⟨_,x',y',h2⟩:=h;have h3:=AM (o:=1) (AM (o:=0) h2 x) y;exact⟨(Ab h3).trans rfl,(Ab h3).trans rfl⟩
theorem KP(op:Int)(hop:op=4\/op=5\/op=6\/op=7\/op=8)(a b:V)(w:World) :
  Calls prog 136 #[.func (.func (Dd op)) #[] #[],.agg #[.int .i64 a.k,.int .i64 a.n],.agg #[.int .i64 b.k,.int .i64 b.n]] w fun e w' =>
   (((AE op a b).2=0/\e=.returned (.agg #[.int .i64 (AE op a b).1.k,.int .i64 (AE op a b).1.n]))\/((AE op a b).2≠0/\e=BT (AE op a b).2))/\Below w.heap.size w w':=by
 have HR:=Aa (fun X=>R0 op a.n b.n hop X);have hcf:=OF op hop;generalize hrf:Dd op=rf at HR hcf ⊢;have HO:=Aa hop;have HB:=Aa (Ls w (.int .i64 a.k) (.int .i64 a.n) (.int .i64 b.k) (.int .i64 b.n) (.int .i64 0) (.int .i64 0) 43);clear hop hrf;go_enter func136,ntmps136
 go_wp2_with fail
 have HB2:=HB.out;clear HB;generalize ((w.alloc (.cells #[.int .i64 a.k,.int .i64 a.n] 43)).alloc (.cells #[.int .i64 b.k,.int .i64 b.n] 43)).alloc (.cells #[.int .i64 0,.int .i64 0] 43)=W at *;have H:=Aa HB2;clear HB2;have HC:=Aa (fun (w':World) (h:Sb W (w.heap.size+2) 43 w')=>(show w'.cell? ⟨w.heap.size,0,none⟩=some (.int .i64 a.k)/\w'.cell? ⟨w.heap.size,1,none⟩=some (.int .i64 a.n)/\w'.cell? ⟨w.heap.size+1,0,none⟩=some (.int .i64 b.k)/\w'.cell? ⟨w.heap.size+1,1,none⟩=some (.int .i64 b.n) from by
  obtain⟨_,_,g1,g2,_⟩:=H.out;have k1:=(h.1.block w.heap.size (by omega)).trans g1;have k2:=(h.1.block (w.heap.size+1) (by omega)).trans g2;exact⟨(Ab k1).trans rfl,(Ab k1).trans rfl,(Ab k2).trans rfl,(Ab k2).trans rfl⟩))
 have HE:=Aa (fun (w':World) (h:Sb W (w.heap.size+2) 43 w')=>(show Below w.heap.size w w' from H.out.1.trans (h.1.mono (by omega))));have hS0:Sb W (w.heap.size+2) 43 W.drew:=(show Sb W (w.heap.size+2) 43 W from ⟨Tu _ _,_,_,H.out.2.2.2.2⟩).drew;have S0:=Aa hS0;refine AG (Sb W (w.heap.size+2) 43) [(false,0),(false,1),(false,3),(true,2),(true,4),(true,5),(true,6),(true,7)] (by kernel_rfl) (by kernel_rfl) (Co _ _ _) hS0 ?_;clear hS0;simp only[lexL,Tl,Tm];iterate 3 (refine Aw (by rfl) (by intro w' hS';obtain⟨h1,h2,h3,h4⟩:=HC.out w' hS';go_simp;exact rfl) ?_;simp only[Act.put,Td,Th,Tg])
 generalize W.drew=w0 at S0 ⊢;refine Az (fun K hK=>?_);go_simp;refine(G9 _ _ _).mono ?_;rintro e w1 ⟨⟨hk1,rfl⟩|⟨hk1,rfl⟩,b1⟩
 ·have S1:=Aa (S0.out.on b1);have K1:=Aa hk1;refine hK.out _ _ S1.out ?_;clear hK K hk1 b1;refine Az (fun K hK=>?_);go_simp;refine(G9 _ _ _).mono ?_;rintro e w2 ⟨⟨hk2,rfl⟩|⟨hk2,rfl⟩,b2⟩
  ·have S2:=Aa (S1.out.on b2);have K2:=Aa hk2;refine hK.out _ _ S2.out ?_;clear hK K hk2 b2;refine Az (fun K hK=>?_);go_simp;refine(HR.out _).mono ?_;rintro e w3 ⟨⟨hk3,rfl⟩|⟨hk3,rfl⟩,rfl⟩
   ·have K3:=Aa hk3;refine hK.out _ _ S2.out ?_;clear hK K hk3;refine Az (fun K hK=>?_);go_simp;refine(FN _ _).mono ?_;rintro e w4 ⟨rfl,b4⟩;have S4:=Aa (S2.out.on b4);refine hK.out _ _ S4.out ?_;clear hK K b4;obtain⟨x,y,y0,y1,z0,z1⟩:=S4.out.cells;refine Az (fun K hK=>?_);go_simp;refine hK.out _ _ (S4.out.set _ _) ?_;clear hK K;refine AF ?_;have hr:=Pc HO.out K1.out K2.out K3.out;have HZ:=Aa (Tc hr (HE.out _ (S4.out.set (.int .i64 1) (.int .i64 (DD op a.n b.n)))));clear hr;go_wp2;obtain⟨r0,r1⟩:=S4.out.read (.int .i64 1) (.int .i64 (DD op a.n b.n));refine bodyPost_ret (v:=.agg #[.int .i64 1,.int .i64 (DD op a.n b.n)]) (by simp[results,Tryz.results136,go_sem,r0,r1]) rfl ⟨Or.inl ⟨HZ.out.1.1,?_⟩,HZ.out.2⟩;rw[HZ.out.1.2];rfl
   ·have hr:(AE op a b).2=4:=by obtain⟨rfl,h0⟩:=hk3;exact NI K1.out K2.out h0
    refine⟨rfl,Or.inr ⟨by omega,by rw[hr];rfl⟩,HE.out _ S2.out⟩
  ·have hr:=LM HO.out (a:=a) (b:=b) (Or.inr hk2);exact⟨rfl,Or.inr ⟨by omega,by rw[hr];rfl⟩,HE.out _ (S1.out.on b2)⟩
 ·have hr:=LM HO.out (a:=a) (b:=b) (Or.inl hk1);exact⟨rfl,Or.inr ⟨by omega,by rw[hr];rfl⟩,HE.out _ (S0.out.on b1)⟩
end
theorem Sq(b:Bool)(w:World):Calls prog 153 #[.bool b] w fun e w'=>e=.returned (.int .i64 (if b=true then 1 else 0))/\Below w.heap.size w w':=by
 refine(KH b w).mono ?_;rintro e w' ⟨h,rfl⟩;exact⟨h,Tu _ _⟩
theorem G4(a b:V)(t:Bool)(ht:t=decide (a.k=b.k/\a.n=b.n))(X:World):(binOp .eql 43 (.agg #[.int .i64 a.k,.int .i64 a.n]) (.agg #[.int .i64 b.k,.int .i64 b.n])).run prog X=.ok (.bool t) X:=by
 by_cases h1:a.k=b.k
 ·by_cases h2:a.n=b.n
  ·have e1:(a.k==b.k)=true:=by simpa using h1
   have e2:(a.n==b.n)=true:=by simpa using h2
   have e3:t=true:=by rw[ht];simp[h1,h2]
   clear h1 h2 ht;subst e3;go_simp
  ·have e1:(a.k==b.k)=true:=by simpa using h1
   have e2:(a.n==b.n)=false:=by simpa using h2
   have e3:t=false:=by rw[ht];simp[h2]
   clear h1 h2 ht;subst e3;go_simp
 ·have e1:(a.k==b.k)=false:=by simpa using h1
  have e3:t=false:=by rw[ht];simp[h1]
  clear h1 ht;subst e3;go_simp
theorem Mi(a b:V)(w:World) :
  Calls prog 138 #[.agg #[.int .i64 a.k,.int .i64 a.n],.agg #[.int .i64 b.k,.int .i64 b.n]] w fun e w' =>
   e=.returned (.agg #[.int .i64 (AE 9 a b).1.k,.int .i64 (AE 9 a b).1.n])/\Below w.heap.size w w':=by
 obtain⟨t,ht⟩:∃ t:Bool,t=decide (a.k=b.k/\a.n=b.n):=⟨_,rfl⟩
 have hres:(AE 9 a b).1=Bn (if t=true then 1 else 0):=by unfold AE;rw[if_pos rfl,ht];by_cases h:a.k=b.k/\a.n=b.n<;>simp[h]
 rw[hres];have heq:=G4 a b t ht;have HT:=Aa (fun X=>Sq t X);generalize (if t=true then (1:Int) else 0)=r at *;have HB:=Aa (Ls w (.int .i64 a.k) (.int .i64 a.n) (.int .i64 b.k) (.int .i64 b.n) (.int .i64 0) (.int .i64 0) 43);clear hres ht;go_enter func138,ntmps138
 go_wp2_with fail
 have HB2:=HB.out;clear HB;generalize ((w.alloc (.cells #[.int .i64 a.k,.int .i64 a.n] 43)).alloc (.cells #[.int .i64 b.k,.int .i64 b.n] 43)).alloc (.cells #[.int .i64 0,.int .i64 0] 43)=W at *;have S0:=Aa (show Sb W (w.heap.size+2) 43 W from ⟨Tu _ _,_,_,HB2.2.2.2.2⟩);have HE:=Aa (fun (w':World) (h:Sb W (w.heap.size+2) 43 w')=>(show Below w.heap.size w w' from HB2.1.trans (h.1.mono (by omega))));clear HB2;refine(HT.out _).mono ?_;rintro e w1 ⟨rfl,b1⟩;have S1:=Aa (S0.out.on b1);clear b1;go_wp2_with fail
 refine(FN _ _).mono ?_;rintro e w4 ⟨rfl,b4⟩;have S4:=Aa (S1.out.on b4);clear b4;obtain⟨x,y,y0,y1,z0,z1⟩:=S4.out.cells;go_wp2;obtain⟨r0,r1⟩:=S4.out.read (.int .i64 1) (.int .i64 r);exact bodyPost_ret (v:=.agg #[.int .i64 1,.int .i64 r]) (by simp[results,Tryz.results138,go_sem,r0,r1]) rfl ⟨rfl,HE.out _ (S4.out.set _ _)⟩
section
variable {w:World}{B mb:Nat}{A:Af}{s:Mc}{en:Int}
theorem LH(hL:AB w B mb A s en)(v:V)(hv:v.k=2->0<=v.n/\v.n<s.arr.length)(X:World)(hX:Below w.heap.size w X) :
  Calls prog 154 #[.pointer (some ⟨mb,0,none⟩),.agg #[.int .i64 v.k,.int .i64 v.n]] X fun e w' =>
   ((v.k=2/\e=.returned (A.AV v.n.toNat))\/(v.k≠2/\e=BT 3))/\Below X.heap.size X w':=by
 by_cases hk:v.k=2
 ·obtain⟨h0,h1⟩:=hv hk;have hL':=hL.below hX;have har:=hL'.ar;obtain⟨ab,acap,hav,hab,habz,hatag,hac⟩:=har.form (by omega);rw[hav] at har;have c0:=har.cell (i:=v.n.toNat) (by omega);have c4:X.cell? ⟨mb,4,none⟩=some (.slice (some ⟨ab,0,none⟩) s.arr.length acap):=by rw[Ab hL'.run,<-hav];rfl
  have hbl:Below X.heap.size X (X.alloc (.cells #[.int .i64 v.k,.int .i64 v.n] 43)):=(Tu _ _).alloc (Te _) _;have d0:=(hbl.cell (p:=⟨ab,v.n.toNat,none⟩) habz).trans c0;have d4:=(hbl.cell (p:=⟨mb,4,none⟩) (Ah hL'.run)).trans c4;have b1:(X.alloc (.cells #[.int .i64 v.k,.int .i64 v.n] 43)).cell? ⟨X.heap.size,1,none⟩=some (.int .i64 v.n):=BP X _ _ _ _ rfl;have e1:(v.k != 2)=false:=by simpa using hk
  have B1:=Aa b1;have HK:=Aa (Tc hk hbl);generalize A.AV v.n.toNat=av at *;generalize s.arr.length=al at *;clear hL hL' hX har hav hk hv c0 c4 hbl b1;have hvn:((v.n.toNat:Nat):Int)=v.n:=by omega
  go_enter func154,ntmps154
  go_wp2_with fail
  have b1:=B1.out;clear B1;generalize X.alloc (.cells #[.int .i64 v.k,.int .i64 v.n] 43)=W at *;go_quiet (fail)
  go_wp2;go_ret;exact⟨Or.inl ⟨HK.out.1,rfl⟩,below_drewN HK.out.2 _⟩
 ·have e1:(v.k != 2)=true:=by simpa using hk
  have HK:=Aa hk;clear hL hX hv hk;go_enter func154,ntmps154
  go_wp2;exact⟨rfl,Or.inr ⟨HK.out,rfl⟩,(Tu _ _).alloc (Te _) _⟩
theorem Kh(X:World)(a0 a1 c0 c1:Value)(t:TypeId) :
  Below X.heap.size X ((X.alloc (.cells #[a0,a1] t)).alloc (.cells #[c0,c1] t))/\((X.alloc (.cells #[a0,a1] t)).alloc (.cells #[c0,c1] t)).heap[X.heap.size]?=some (.cells #[a0,a1] t (0,0))/\((X.alloc (.cells #[a0,a1] t)).alloc (.cells #[c0,c1] t)).heap[X.heap.size+1]?=some (.cells #[c0,c1] t (0,0)):=by
 refine⟨((Tu _ _).alloc (Te _) _).alloc (by simp) _,?_,?_⟩
 ·rw[Ty _ _ _ (by simp)];exact Tv _ _
 ·have:=Tv (X.alloc (.cells #[a0,a1] t)) (.cells #[c0,c1] t);simpa using this
theorem SB(hL:AB w B mb A s en)(v:V)(hv:v.k=2->0<=v.n/\v.n<s.arr.length)(X:World)(hX:Below w.heap.size w X) :
  Calls prog 140 #[.pointer (some ⟨mb,0,none⟩),.agg #[.int .i64 v.k,.int .i64 v.n]] X fun e w' =>
   ((v.k=2/\e=.returned (.agg #[.int .i64 1,.int .i64 (s.arr.getD v.n.toNat []).length]))\/(v.k≠2/\e=BT 3))/\Below X.heap.size X w':=by
 obtain⟨hWX,_,hbx⟩:=Kh X (.int .i64 v.k) (.int .i64 v.n) (.int .i64 0) (.int .i64 0) 43;have HA:=Aa (LH hL v hv _ (hX.trans (hWX.mono hX.size)));have hsl:v.k=2->∃ p cp,A.AV v.n.toNat=.slice p (s.arr.getD v.n.toNat []).length cp:=fun hk=>by
  obtain⟨p,cp,h,_⟩:=(hL.arr v.n.toNat (by have:=hv hk;omega)).any;exact⟨p,cp,h⟩
 have HL:=Aa (Tc hWX (Tc hbx hsl));clear hL hv hX hWX hbx hsl;go_enter func140,ntmps140
 go_wp2_with fail
 generalize (X.alloc (.cells #[.int .i64 v.k,.int .i64 v.n] 43)).alloc (.cells #[.int .i64 0,.int .i64 0] 43)=W at *;have S0:=Aa (show Sb W (X.heap.size+1) 43 W from ⟨Tu _ _,_,_,HL.out.2.1⟩);refine HA.out.mono ?_;rintro e w1 ⟨⟨hk,rfl⟩|⟨hk,rfl⟩,b1⟩
 ·have S1:=Aa (S0.out.on b1);have HK:=Aa hk;obtain⟨p,cp,h⟩:=HL.out.2.2 hk;rw[h];clear hk b1 h HA;generalize hal:(s.arr.getD v.n.toNat []).length=al at *;have HAL:=Aa hal;clear hal;go_wp2_with fail
  refine(FN _ _).mono ?_;rintro e w4 ⟨rfl,b4⟩;have S4:=Aa (S1.out.on b4);clear b4;obtain⟨x,y,y0,y1,z0,z1⟩:=S4.out.cells;go_wp2;obtain⟨r0,r1⟩:=S4.out.read (.int .i64 1) (.int .i64 al);exact bodyPost_ret (v:=.agg #[.int .i64 1,.int .i64 al]) (by simp[results,Tryz.results140,go_sem,r0,r1]) rfl ⟨Or.inl ⟨HK.out,by rw[HAL.out]⟩,HL.out.1.trans ((S4.out.set _ _).1.mono (by omega))⟩
 ·exact⟨rfl,Or.inr ⟨hk,rfl⟩,HL.out.1.trans ((S0.out.on b1).1.mono (by omega))⟩
theorem PP(hL:AB w B mb A s en)(a i:V)(hv:a.k=2->0<=a.n/\a.n<s.arr.length)(X:World)(hX:Below w.heap.size w X) :
  Calls prog 141 #[.pointer (some ⟨mb,0,none⟩),.agg #[.int .i64 a.k,.int .i64 a.n],.agg #[.int .i64 i.k,.int .i64 i.n]] X fun e w' =>
   ((AS s.arr a i=0/\∃ b cp,A.AV a.n.toNat=.slice (some ⟨b,0,none⟩) (s.arr.getD a.n.toNat []).length cp/\e=.returned (.pointer (some ⟨b,i.n.toNat * 2,none⟩)))\/(AS s.arr a i≠0/\e=BT (AS s.arr a i)))/\Below X.heap.size X w':=by
 obtain⟨hWX,hb1,hb2⟩:=Kh X (.int .i64 a.k) (.int .i64 a.n) (.int .i64 i.k) (.int .i64 i.n) 43;have HA:=Aa (fun (Y:World) (hY:Below w.heap.size w Y)=>LH hL a hv Y hY);have hsl:a.k=2->∃ p cp,A.AV a.n.toNat=.slice p (s.arr.getD a.n.toNat []).length cp/\(1<=(s.arr.getD a.n.toNat []).length->∃ b,p=some ⟨b,0,none⟩):=fun hk=>by
  have hr:=hL.arr a.n.toNat (by have:=hv hk;omega);obtain⟨p,cp,h,_⟩:=hr.any;refine⟨p,cp,h,fun h1=>?_⟩;obtain⟨b,cap,h2,_⟩:=hr.form h1;rw[h] at h2;injection h2 with h2;exact⟨b,h2⟩
 have HL:=Aa (Tc hWX (Tc hb1 (Tc hb2 (Tc hsl (hX.trans (hWX.mono hX.size))))));clear hL hv hX hWX hb1 hb2 hsl;go_enter func141,ntmps141
 go_wp2_with fail
 generalize (X.alloc (.cells #[.int .i64 a.k,.int .i64 a.n] 43)).alloc (.cells #[.int .i64 i.k,.int .i64 i.n] 43)=W at *;have hz:X.heap.size+1<W.heap.size:=Ah HL.out.2.2.1;have HC:=Aa (fun (w':World) (h:Below W.heap.size W w')=>(show w'.cell? ⟨X.heap.size,0,none⟩=some (.int .i64 a.k)/\w'.cell? ⟨X.heap.size,1,none⟩=some (.int .i64 a.n)/\w'.cell? ⟨X.heap.size+1,0,none⟩=some (.int .i64 i.k)/\w'.cell? ⟨X.heap.size+1,1,none⟩=some (.int .i64 i.n) from by
  obtain⟨_,g1,g2,_⟩:=HL.out;have k1:=(h.block X.heap.size (by omega)).trans g1;have k2:=(h.block (X.heap.size+1) (by omega)).trans g2;exact⟨(Ab k1).trans rfl,(Ab k1).trans rfl,(Ab k2).trans rfl,(Ab k2).trans rfl⟩))
 have HE:=Aa (fun (w':World) (h:Below W.heap.size W w')=>(show Below X.heap.size X w' from HL.out.1.trans (h.mono (by omega))));have S0:=Aa (show Below W.heap.size W W.drew from (Tu _ _).drew);refine AG (fun w'=>Below W.heap.size W w') [(false,0),(false,1),(false,3),(true,2),(true,4),(false,5),(false,6)] (by kernel_rfl) (by kernel_rfl) (Co _ _ _) S0.out ?_;simp only[lexL,Tl,Tm];iterate 3 (refine Aw (by rfl) (by intro w' hS';obtain⟨h1,h2,h3,h4⟩:=HC.out w' hS';go_simp;exact rfl) ?_;simp only[Act.put,Td,Th,Tg])
 generalize W.drew=w0 at S0 ⊢;refine Az (fun K hK=>?_);go_simp;refine(HA.out _ (HL.out.2.2.2.2.trans (S0.out.mono (by have:=HL.out.2.2.2.2.size;omega)))).mono ?_;rintro e w1 ⟨⟨hk1,rfl⟩|⟨hk1,rfl⟩,b1⟩
 ·have S1:=Aa (S0.out.trans (b1.mono S0.out.size));obtain⟨p,cp,h,hp⟩:=HL.out.2.2.2.1 hk1;generalize hal:(s.arr.getD a.n.toNat []).length=al at h hp;have HAL:=Aa hal;clear hal;have K1:=Aa (Tc hk1 (Tc h hp));rw[h];refine hK.out _ _ S1.out ?_;clear hK K hk1 b1 h hp;refine Az (fun K hK=>?_);go_simp;refine(G9 _ _ _).mono ?_;rintro e w2 ⟨⟨hk2,rfl⟩|⟨hk2,rfl⟩,b2⟩
  ·have S2:=Aa (S1.out.trans (b2.mono S1.out.size));have K2:=Aa hk2;refine hK.out _ _ S2.out ?_;clear hK K hk2 b2;iterate 2 (refine Aw (by rfl) (by intro w' hS';go_simp;exact rfl) ?_;simp only[Act.put,Td,Th,Tg])
   refine AF ?_;by_cases h0:i.n<0
   ·have e1:decide (i.n<0)=true:=by simpa using h0
    have hw:AS s.arr a i=5:=by unfold AS;rw[if_neg (by have:=K1.out.1;have:=K2.out;omega),if_pos (Or.inl h0)]
    have HQ:=Aa (Tc hw (HE.out _ S2.out));clear h0 hw;go_wp2;refine⟨rfl,Or.inr ⟨by have:=HQ.out.1;omega,by rw[HQ.out.1];rfl⟩,HQ.out.2⟩
   ·by_cases h5:(al:Int)<=i.n
    ·have e1:decide (i.n<0)=false:=by simpa using h0
     have hw:AS s.arr a i=5:=by unfold AS;rw[if_neg (by have:=K1.out.1;have:=K2.out;omega),if_pos (Or.inr (by rw[HAL.out];exact h5))]
     have e2:decide ((al:Int)<=i.n)=true:=by simpa using h5
     have HQ:=Aa (Tc hw (HE.out _ S2.out));clear h0 hw h5;go_wp2;refine⟨rfl,Or.inr ⟨by have:=HQ.out.1;omega,by rw[HQ.out.1];rfl⟩,HQ.out.2⟩
    ·have e1:decide (i.n<0)=false:=by simpa using h0
     have hw:AS s.arr a i=0:=by unfold AS;rw[if_neg (by have:=K1.out.1;have:=K2.out;omega),if_neg (by rw[HAL.out];omega)]
     have e2:decide ((al:Int)<=i.n)=false:=by simpa using h5
     obtain⟨_,hA,hp⟩:=K1.out;obtain⟨b,rfl⟩:=hp (by omega);have i0:0<=i.n:=by omega
     have i1:i.n<(al:Int):=by omega
     have HQ:=Aa (Tc hw (Tc hA (HE.out _ S2.out)));clear h0 hw h5 hA hp K1;go_wp2;go_ret;exact⟨Or.inl ⟨HQ.out.1,b,cp,by rw[HAL.out];exact HQ.out.2.1,rfl⟩,HQ.out.2.2⟩
  ·have hw:AS s.arr a i=3:=by unfold AS;rw[if_pos (Or.inr hk2)]
   exact⟨rfl,Or.inr ⟨by omega,by rw[hw];rfl⟩,HE.out _ (S1.out.trans (b2.mono S1.out.size))⟩
 ·have hw:AS s.arr a i=3:=by unfold AS;rw[if_pos (Or.inl hk1)]
  exact⟨rfl,Or.inr ⟨by omega,by rw[hw];rfl⟩,HE.out _ (S0.out.trans (b1.mono S0.out.size))⟩
end
def Bx(w:World)(tag:Nat->Nat)(l:List (Nat × Array Value × TypeId)):Prop:=∀ t,t∈l->w.heap[t.1]?=some (.cells t.2.1 t.2.2 (0,0))/\tag t.1=5
def Hb(l:List (Nat × Array Value × TypeId))(w:World):Prop:=∀ t,t∈l->w.heap[t.1]?=some (.cells t.2.1 t.2.2 (0,0))
section
variable {w w0 w':World}{B mb b:Nat}{l r:List (Nat × Array Value × TypeId)}{s:Mc}{en:Int}{A0 A:Af}{t:TypeId}{c:Array Value}{f:Fr}{rest:List Fr}{c0 c1:Value}
theorem Bx.keep{p:Nat->Prop}{tag tag':Nat->Nat}(h:Bx w tag l)(k:Ch B p tag tag' w w')(hp:¬p 5):Bx w' tag' l:=fun t ht=>by
 obtain⟨h1,h2⟩:=h t ht;exact⟨(k.block t.1 (Ah h1) (Or.inr (by rw[h2];exact hp))).trans h1,(k.tags t.1 (Ah h1)).trans h2⟩
theorem Hb.below(h:Hb l w)(k:Below w.heap.size w w'):Hb l w':=fun t ht=>(k.block t.1 (Ah (h t ht))).trans (h t ht)
theorem Hb.cell(h:Hb l w)(hm:(b,c,t)∈l)(i:Nat):w.cell? ⟨b,i,none⟩=c[i]?:=Ab (h _ hm)
theorem Db:¬N5 5:=fun h=>h.1 rfl
theorem Kx:¬N5 6:=fun h=>h.2 rfl
def Ap(w0:World)(B mb:Nat)(A0:Af)(s:Mc)(en:Int)(l:List (Nat × Array Value × TypeId))(w:World):Prop :=
 B<=w0.heap.size/\∃ A:Af,AB w B mb A s en/\A.g=A0.g/\Ch B N5 A0.tag A.tag w0 w/\Bx w A.tag l
theorem Ap.start(h:AB w B mb A s en)(hB:B<=w.heap.size):Ap w B mb A s en [] w:=⟨hB,A,h,rfl,Ch.refl _ _ _ _,fun t ht=>by cases ht⟩
theorem Ap.hb(h:Ap w0 B mb A0 s en l w):Hb l w:=by
 obtain⟨_,A,_,_,_,b⟩:=h;exact fun t ht=>(b t ht).1
theorem Ap.below(h:Ap w0 B mb A0 s en l w)(k:Below w.heap.size w w'):Ap w0 B mb A0 s en l w':=by
 obtain⟨hB,A,h1,h2,h3,h4⟩:=h;exact⟨hB,A,h1.below k,h2,h3.trans' k,h4.keep (Ch.of_below (p:=fun _=>False) (B:=B) k) (fun h=>h)⟩
theorem Ap.drew(h:Ap w0 B mb A0 s en l w):Ap w0 B mb A0 s en l w.drew:=h.below (Tu _ _).drew
theorem Ap.box(h:Ap w0 B mb A0 s en l w)(c:Array Value)(t:TypeId):Ap w0 B mb A0 s en ((w.heap.size,c,t)::l) (w.alloc (.cells c t)):=by
 obtain⟨hB,A,h1,h2,h3,h4⟩:=h;have hc:Ch B (fun _=>False) A.tag (Ac A.tag w.heap.size 5) w (w.alloc (.cells c t)):=Ch.of_tags ((Tu _ _).alloc (Te _) _) (fun b hb=>Ao _ _ _ _ (by omega));refine⟨hB,_,h1.box _,h2,h3.trans (hc.mono (fun _ h=>h.elim)),fun u hu=>?_⟩;rcases List.mem_cons.1 hu with rfl|hu
 ·exact⟨Tv _ _,Au _ _ _⟩
 ·exact h4.keep hc (fun h=>h) u hu
theorem Ap.aft{s':Mc}{en':Int}(hB:B<=w0.heap.size)(hg:A.g=A0.g)(hc:Ch B N5 A0.tag A.tag w0 w)(hb:Bx w A.tag l){p:Nat->Prop}(hp:∀ d,p d->N5 d)(h:CX p w w' B mb A s' en'):Ap w0 B mb A0 s' en' l w':=by
 obtain⟨A',h1,h2,h3⟩:=h;exact⟨hB,A',h1,h2.trans hg,hc.trans (h3.mono hp),hb.keep h3 (fun h=>(hp _ h).1 rfl)⟩
theorem Ap.done(h:Ap w0 B mb A0 s en l w):CX N5 w0 w B mb A0 s en:=by
 obtain⟨_,A,h1,h2,h3,_⟩:=h;exact⟨A,h1,h2,h3⟩
theorem Ap.drop{l':List (Nat × Array Value × TypeId)}(h:Ap w0 B mb A0 s en l w)(hl:∀ t,t∈l'->t∈l):Ap w0 B mb A0 s en l' w:=by
 obtain⟨hB,A,h1,h2,h3,h4⟩:=h;exact⟨hB,A,h1,h2,h3,fun t ht=>h4 t (hl t ht)⟩
theorem AB.keep5{tag':Nat->Nat}(h:AB w B mb A s en)(k:Ch B (fun d=>d=5) A.tag tag' w w'):AB w' B mb {A with tag:=tag'} s en:=by
 obtain⟨r1,r2⟩:=Bq h.run k (by rw[h.own.2];omega);refine⟨r1,⟨h.own.1,r2.trans h.own.2⟩,h.fr.keep k (by omega),fun i hi=>?_,h.ar.keep k (by omega),h.out.keep k (by omega),fun i hi=>(h.loc i hi).keep k (by omega),fun i hi=>(h.stk i hi).keep k (by omega),fun j hj=>(h.arr j hj).keep k (by omega)⟩;obtain⟨g1,g2,g3⟩:=h.fb i hi;obtain⟨g4,g5⟩:=Bq g1 k (by rw[g3];omega);exact⟨g4,g2,g5.trans g3⟩
theorem Ap.set(h:Ap w0 B mb A0 s en (l++(b,c,t)::r) w)(hw:w0.heap.size<=b)(hl:∀ u,u∈l++r->u.1≠b)(i:Nat)(v:Value) :
  Ap w0 B mb A0 s en (l++(b,c.setIfInBounds i v,t)::r) (w.setCell ⟨b,i,none⟩ v):=by
 obtain⟨hB,A,h1,h2,h3,h4⟩:=h;obtain⟨k1,k2⟩:=h4 (b,c,t) (by simp);have hBb:B<=b:=Nat.le_trans hB hw;have hc:Ch B (fun d=>d=5) A.tag A.tag w (w.setCell ⟨b,i,none⟩ v):=Ch.set w _ _ _ hBb k2;refine⟨hB,A,h1.keep5 hc,h2,h3.setNew hw v,fun u hu=>?_⟩;have hu':u=(b,c.setIfInBounds i v,t)\/u∈l++r:=by
  rcases List.mem_append.1 hu with hu|hu
  ·exact Or.inr (List.mem_append.2 (Or.inl hu))
  ·rcases List.mem_cons.1 hu with hu|hu
   ·exact Or.inl hu
   ·exact Or.inr (List.mem_append.2 (Or.inr hu))
 rcases hu' with rfl|hu'
 ·exact⟨AM k1 _,k2⟩
 ·have hm:u∈l++(b,c,t)::r:=by
   rcases List.mem_append.1 hu' with h|h
   ·exact List.mem_append.2 (Or.inl h)
   ·exact List.mem_append.2 (Or.inr (Tf _ h))
  obtain⟨j1,j2⟩:=h4 u hm;exact⟨(Tx _ _ _ _ (hl u hu')).trans j1,j2⟩
theorem Ap.le(h:Ap w0 B mb A0 s en l w):w0.heap.size<=w.heap.size/\B<=w.heap.size:=by
 obtain⟨hB,A,_,_,h3,_⟩:=h;have:=h3.size;exact⟨this,by omega⟩
theorem Ap.push(h:Ap w0 B mb A0 s en l w)(hs:s.fr=f::rest)(hn:f.stk.length<=64)(v:V) :
  Calls prog 132 #[.pointer (some ⟨A0.FB rest.length,3,none⟩),.agg #[.int .i64 v.k,.int .i64 v.n]] w fun e w'=>e=.returned (.tuple #[])/\Ap w0 B mb A0 {s with fr:={f with stk:=v::f.stk}::rest} en l w':=by
 have hle:=h.le.2;obtain⟨hB,A,h1,h2,h3,h4⟩:=h;have hfb:A.FB=A0.FB:=by unfold Af.FB;rw[h2]
 rw[<-hfb];refine(Lo w B mb A s en f rest v h1 hs hle hn).mono ?_;rintro e w' ⟨rfl,h⟩;exact⟨rfl,Ap.aft hB h2 h3 h4 (fun _=>Ek) h⟩
theorem Ap.pop(h:Ap w0 B mb A0 s en l w)(hs:s.fr=f::rest){v:V}{st:List V}(hst:f.stk=v::st)(hn:st.length<=64) :
  Calls prog 129 #[.pointer (some ⟨A0.FB rest.length,3,none⟩)] w fun e w'=>e=.returned (.agg #[.int .i64 v.k,.int .i64 v.n])/\Ap w0 B mb A0 {s with fr:={f with stk:=st}::rest} en l w':=by
 obtain⟨hB,A,h1,h2,h3,h4⟩:=h;have hfb:A.FB=A0.FB:=by unfold Af.FB;rw[h2]
 rw[<-hfb];refine(Mz w B mb A s en f rest v st h1 hs hst hn).mono ?_;rintro e w' ⟨rfl,h⟩;exact⟨rfl,Ap.aft hB h2 h3 h4 (fun _=>Ek) h⟩
theorem Ap.write0(h:Ap w0 B mb A0 s en ((b,#[c0,c1],t)::r) w)(hw:w0.heap.size<=b)(hl:∀ u,u∈r->u.1≠b)(x y:Value) :
  Ap w0 B mb A0 s en ((b,#[x,y],t)::r) ((w.setCell ⟨b,0,none⟩ x).setCell ⟨b,1,none⟩ y) :=
 (Ap.set (l:=[]) (Ap.set (l:=[]) h hw hl 0 x) hw hl 1 y)
theorem Ap.write1{q:Nat × Array Value × TypeId}(h:Ap w0 B mb A0 s en (q::(b,#[c0,c1],t)::r) w)(hw:w0.heap.size<=b)(hl:∀ u,u∈[q]++r->u.1≠b)(x y:Value) :
  Ap w0 B mb A0 s en (q::(b,#[x,y],t)::r) ((w.setCell ⟨b,0,none⟩ x).setCell ⟨b,1,none⟩ y) :=
 (Ap.set (l:=[q]) (Ap.set (l:=[q]) h hw hl 0 x) hw hl 1 y)
theorem Hb.frozen(h:Hb l w)(hm:(b,c,t)∈l)(i:Nat):w.frozen? ⟨b,i,none⟩=false:=Ax (h _ hm)
theorem Hb.two(h:Hb l w)(hm:(b,#[c0,c1],t)∈l):w.cell? ⟨b,0,none⟩=some c0/\w.cell? ⟨b,1,none⟩=some c1/\w.frozen? ⟨b,0,none⟩=false/\w.frozen? ⟨b,1,none⟩=false :=
 ⟨(h.cell hm 0).trans rfl,(h.cell hm 1).trans rfl,h.frozen hm 0,h.frozen hm 1⟩
theorem E7(h:Ap w0 B mb A0 s en l w)(c d:Array Value)(t:TypeId):Ap w0 B mb A0 s en ((w.heap.size+1,d,t)::(w.heap.size,c,t)::l) ((w.alloc (.cells c t)).alloc (.cells d t)):=by
 have:=(h.box c t).box d t;simpa using this
theorem Ap.lt(h:Ap w0 B mb A0 s en l w):∀ u,u∈l->u.1<w.heap.size:=fun u hu=>Ah (h.hb u hu)
theorem Ap.popTwo(h:Ap w0 B mb A0 s en l w)(hl:∀ u,u∈l->u.1<w.heap.size)(hs:s.fr=f::rest){b a:V}{st:List V}(hst:f.stk=b::a::st)(hn:st.length<=60) :
  Calls prog 135 #[.pointer (some ⟨A0.FB rest.length,0,none⟩)] w fun e w'=>e=.returned (.tuple #[.agg #[.int .i64 a.k,.int .i64 a.n],.agg #[.int .i64 b.k,.int .i64 b.n]]) /\
   Ap w0 B mb A0 {s with fr:={f with stk:=st}::rest} en l w':=by
 have hw0:=h.le.1;have H1:=Aa (E7 h #[.int .i64 0,.int .i64 0] #[.int .i64 0,.int .i64 0] 43);have HL:=Aa hl;generalize hfb:A0.FB rest.length=fb;have HF:=Aa hfb;clear h hl hfb;go_enter func135,ntmps135
 go_wp2_with fail
 generalize (w.alloc (.cells #[.int .i64 0,.int .i64 0] 43)).alloc (.cells #[.int .i64 0,.int .i64 0] 43)=W at *;have hp:=H1.out.pop hs hst (by simp;omega);rw[HF.out] at hp;refine hp.mono ?_;rintro e w1 ⟨rfl,c1⟩;have hl1:∀ u,u∈(w.heap.size,#[Value.int .i64 0,Value.int .i64 0],43)::l->u.1≠w.heap.size+1:=fun u hu=>by
  rcases List.mem_cons.1 hu with rfl|hu
  ·show w.heap.size≠_;omega
  ·have:=HL.out u hu;omega
 have c2:=c1.write0 (by omega) hl1 (.int .i64 b.k) (.int .i64 b.n);obtain⟨x0,x1,z0,z1⟩:=c1.hb.two Ti;have H2:=Aa c2;clear c1 c2 hp hl1 H1 hst;go_wp2_with fail
 clear x0 x1 z0 z1;generalize (w1.setCell ⟨w.heap.size+1,0,none⟩ (.int .i64 b.k)).setCell ⟨w.heap.size+1,1,none⟩ (.int .i64 b.n)=w2 at *;have hp:=H2.out.pop (v:=a) (st:=st) rfl rfl (by omega);rw[HF.out] at hp;refine hp.mono ?_;rintro e w3 ⟨rfl,c3⟩;have hl2:∀ u,u∈[(w.heap.size+1,#[Value.int .i64 b.k,Value.int .i64 b.n],43)]++l->u.1≠w.heap.size:=fun u hu=>by
  rcases List.mem_cons.1 hu with rfl|hu
  ·show w.heap.size+1≠_;omega
  ·have:=HL.out u hu;omega
 have hl3:∀ u,u∈(w.heap.size,#[Value.int .i64 a.k,Value.int .i64 a.n],43)::l->u.1≠w.heap.size+1:=fun u hu=>by
  rcases List.mem_cons.1 hu with rfl|hu
  ·show w.heap.size≠_;omega
  ·have:=HL.out u hu;omega
 have c4:=c3.write1 (by omega) hl2 (.int .i64 a.k) (.int .i64 a.n);obtain⟨x0,x1,z0,z1⟩:=c3.hb.two (Tf _ Ti);have H4:=Aa c4;have HLL:=Aa (Tc hl2 hl3);clear c3 c4 hp H2 hl2 hl3;go_wp2_with fail
 clear x0 x1 z0 z1;generalize (w3.setCell ⟨w.heap.size,0,none⟩ (.int .i64 a.k)).setCell ⟨w.heap.size,1,none⟩ (.int .i64 a.n)=w4 at *;have H5:=Aa H4.out.drew;refine AG (Hb ((w.heap.size+1,#[Value.int .i64 b.k,Value.int .i64 b.n],43)::(w.heap.size,#[Value.int .i64 a.k,Value.int .i64 a.n],43)::l)) [(false,0),(false,1),(true,2),(true,3)] (by kernel_rfl) (by kernel_rfl) (Co _ _ _) H5.out.hb ?_;simp only[lexL,Tl,Tm];iterate 2 (refine Aw (by rfl) (by intro w' hS';obtain⟨y0,y1,_,_⟩:=hS'.two Ti;obtain⟨u0,u1,_,_⟩:=hS'.two (Tf _ Ti);clear hS';go_simp;exact rfl) ?_;simp only[Act.put,Td,Th,Tg])
 generalize w4.drew=w5 at H5 ⊢;obtain⟨y0,y1,g0,g1⟩:=H5.out.hb.two (Tf _ Ti);have H6:=Aa (H5.out.write1 (by omega) HLL.out.1 (.int .i64 a.k) (.int .i64 a.n));refine Az (fun K hK=>?_);go_simp;refine hK.out _ _ H6.out.hb ?_;clear hK K y0 y1 g0 g1;generalize (w5.setCell ⟨w.heap.size,0,none⟩ (.int .i64 a.k)).setCell ⟨w.heap.size,1,none⟩ (.int .i64 a.n)=w6 at *;obtain⟨y0,y1,g0,g1⟩:=H6.out.hb.two Ti;have H7:=Aa (H6.out.write0 (by omega) HLL.out.2 (.int .i64 b.k) (.int .i64 b.n));refine Az (fun K hK=>?_);go_simp;refine hK.out _ _ H7.out.hb ?_;clear hK K y0 y1 g0 g1;generalize (w6.setCell ⟨w.heap.size+1,0,none⟩ (.int .i64 b.k)).setCell ⟨w.heap.size+1,1,none⟩ (.int .i64 b.n)=w7 at *;refine AF ?_;clear HL H4 H5 H6 HLL;go_wp2;obtain⟨y0,y1,g0,g1⟩:=H7.out.hb.two Ti;obtain⟨u0,u1,v0,v1⟩:=H7.out.hb.two (Tf _ Ti);exact bodyPost_ret (v:=.tuple #[.agg #[.int .i64 a.k,.int .i64 a.n],.agg #[.int .i64 b.k,.int .i64 b.n]]) (by simp[results,Tryz.results135,go_sem,y0,y1,u0,u1]) rfl ⟨rfl,H7.out.drop (fun t ht=>Tf _ (Tf _ ht))⟩
end
end Go.Proofs.YtkafkipjedpohaaGreatDoor

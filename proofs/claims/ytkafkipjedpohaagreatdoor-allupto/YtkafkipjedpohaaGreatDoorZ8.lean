import Derived.Test.YtkafkipjedpohaaGreatDoorZ3
namespace Go.Proofs.YtkafkipjedpohaaGreatDoor
set_option maxRecDepth 100000
set_option maxHeartbeats 16000000
open Go.RowKit _root_.Go.Proofs.Tryz
section
variable {w:World}{B kb:Nat}{L:Bxs}{k:Mk}
theorem Ay.saw{w2:World}{op a:Int}(hs:k.seen<=1000)(h:AK w B kb L (k.str op a) (.returned (.tuple #[])) w2) :
  w2.cell? ⟨kb,2,none⟩=some (.int .i64 k.seen)/\w2.frozen? ⟨kb,2,none⟩=false/\wrap64 ((k.seen:Int)+1)=(k.seen:Int)+1/\AK w B kb L (k.straight op a) (.returned (.tuple #[])) (w2.setCell ⟨kb,2,none⟩ (.int .i64 ((k.seen:Int)+1))):=by
 obtain⟨_,L',hl,hA,hb⟩:=h;obtain⟨c2,_,z2,_⟩:=hA.counts;rw[Gy] at c2;obtain⟨hA2,hb2⟩:=hA.count 2 (k.seen+1) (by omega);have e:((k.seen+1:Nat):Int)=(k.seen:Int)+1:=by omega
 rw[e] at hA2 hb2;refine⟨c2,z2,by unfold wrap64;omega,rfl,L',hl,?_,hb.trans hb2⟩;have hk:k.straight op a={k.str op a with seen:=if 2=2 then k.seen+1 else (k.str op a).seen,passed:=if 2=3 then k.seen+1 else (k.str op a).passed}:=by
  unfold Mk.straight;rw[Gy];rfl
 rw[hk];exact hA2
theorem DT{W w2:World}{L1:Bxs}{k':Mk}(hl:∀ t,t∈L->t∈L1)(hb:Below B w W)(h:AK W B kb L1 k' (.returned (.tuple #[])) w2):AK w B kb L k' (.returned (.tuple #[])) w2:=by
 obtain⟨_,L',h1,h2,h3⟩:=h;exact⟨rfl,L',fun t ht=>h1 t (hl t ht),h2,hb.trans h3⟩
theorem OV(h:Ay w B kb L k)(hs:BE k)(a:Int) :
  Calls prog 156 #[ptr kb,.agg #[.int .i64 20,.int .i64 a]] w (AK w B kb L (k.straight 20 a)):=by
 have hmf:=A__mkf
 have hA:=h.box #[.int .i64 20,.int .i64 a] 33;have HB:=Aa (Bt h.le.1 (.cells #[.int .i64 20,.int .i64 a] 33));have HS:=Aa hs;have HA:=Aa hA;have hkz:=h.le.2.1;clear h hs hA;go_enter func156,ntmps156
 go_wp2_with fail
 refine(Qj HA.out HS.out a).mono ?_;rintro e w2 h2;obtain rfl:=h2.1;have HR:=Aa (DT (Da _) HB.out h2);clear h2 HA;obtain⟨c2,z2,e5,HQ'⟩:=Ay.saw HS.out.seen HR.out;have HQ:=Aa HQ';clear HQ' HR;generalize k.straight 20 a=k' at *;generalize (k.seen:Int)=sn at *;go_wp2;go_end0;exact HQ.out
theorem SG(h:Ay w B kb L k)(hs:BE k)(a:Int) :
  Calls prog 156 #[ptr kb,.agg #[.int .i64 21,.int .i64 a]] w (AK w B kb L (k.straight 21 a)):=by
 have hmf:=A__mkf
 have hA:=h.box #[.int .i64 21,.int .i64 a] 33;have HB:=Aa (Bt h.le.1 (.cells #[.int .i64 21,.int .i64 a] 33));have HS:=Aa hs;have HA:=Aa hA;have hkz:=h.le.2.1;clear h hs hA;go_enter func156,ntmps156
 go_wp2_with fail
 refine(Ql HA.out HS.out a).mono ?_;rintro e w2 h2;obtain rfl:=h2.1;have HR:=Aa (DT (Da _) HB.out h2);clear h2 HA;obtain⟨c2,z2,e5,HQ'⟩:=Ay.saw HS.out.seen HR.out;have HQ:=Aa HQ';clear HQ' HR;generalize k.straight 21 a=k' at *;generalize (k.seen:Int)=sn at *;go_wp2;go_end0;exact HQ.out
theorem Sv(h:Ay w B kb L k)(hs:BE k)(a:Int) :
  Calls prog 156 #[ptr kb,.agg #[.int .i64 9,.int .i64 a]] w (AK w B kb L (k.straight 9 a)):=by
 have hmf:=A__mkf
 have hA:=h.box #[.int .i64 9,.int .i64 a] 33;have HB:=Aa (Bt h.le.1 (.cells #[.int .i64 9,.int .i64 a] 33));have HS:=Aa hs;have HA:=Aa hA;have hkz:=h.le.2.1;clear h hs hA;go_enter func156,ntmps156
 go_wp2_with fail
 refine(No HA.out HS.out a).mono ?_;rintro e w2 h2;obtain rfl:=h2.1;have HR:=Aa (DT (Da _) HB.out h2);clear h2 HA;obtain⟨c2,z2,e5,HQ'⟩:=Ay.saw HS.out.seen HR.out;have HQ:=Aa HQ';clear HQ' HR;generalize k.straight 9 a=k' at *;generalize (k.seen:Int)=sn at *;go_wp2;go_end0;exact HQ.out
theorem RY(h:Ay w B kb L k)(hs:BE k)(a:Int) :
  Calls prog 156 #[ptr kb,.agg #[.int .i64 3,.int .i64 a]] w (AK w B kb L (k.straight 3 a)):=by
 have hmf:=A__mkf
 have hA:=h.box #[.int .i64 3,.int .i64 a] 33;have HB:=Aa (Bt h.le.1 (.cells #[.int .i64 3,.int .i64 a] 33));have HS:=Aa hs;have HA:=Aa hA;have hkz:=h.le.2.1;clear h hs hA;go_enter func156,ntmps156
 go_wp2_with fail
 refine(Ru HA.out HS.out a).mono ?_;rintro e w2 h2;obtain rfl:=h2.1;have HR:=Aa (DT (Da _) HB.out h2);clear h2 HA;obtain⟨c2,z2,e5,HQ'⟩:=Ay.saw HS.out.seen HR.out;have HQ:=Aa HQ';clear HQ' HR;generalize k.straight 3 a=k' at *;generalize (k.seen:Int)=sn at *;go_wp2;go_end0;exact HQ.out
theorem NX(h:Ay w B kb L k)(hs:BE k)(a:Int) :
  Calls prog 156 #[ptr kb,.agg #[.int .i64 15,.int .i64 a]] w (AK w B kb L (k.straight 15 a)):=by
 have hmf:=A__mkf
 have hA:=h.box #[.int .i64 15,.int .i64 a] 33;have HB:=Aa (Bt h.le.1 (.cells #[.int .i64 15,.int .i64 a] 33));have HS:=Aa hs;have HA:=Aa hA;have hkz:=h.le.2.1;clear h hs hA;go_enter func156,ntmps156
 go_wp2_with fail
 refine(PJ HA.out HS.out a).mono ?_;rintro e w2 h2;obtain rfl:=h2.1;have HR:=Aa (DT (Da _) HB.out h2);clear h2 HA;obtain⟨c2,z2,e5,HQ'⟩:=Ay.saw HS.out.seen HR.out;have HQ:=Aa HQ';clear HQ' HR;generalize k.straight 15 a=k' at *;generalize (k.seen:Int)=sn at *;go_wp2;go_end0;exact HQ.out
theorem Oe(h:Ay w B kb L k)(hs:BE k)(a:Int) :
  Calls prog 156 #[ptr kb,.agg #[.int .i64 18,.int .i64 a]] w (AK w B kb L (k.straight 18 a)):=by
 have hmf:=A__mkf
 have hA:=h.box #[.int .i64 18,.int .i64 a] 33;have HB:=Aa (Bt h.le.1 (.cells #[.int .i64 18,.int .i64 a] 33));have HS:=Aa hs;have HA:=Aa hA;have hkz:=h.le.2.1;clear h hs hA;go_enter func156,ntmps156
 go_wp2_with fail
 refine(Ri HA.out HS.out a).mono ?_;rintro e w2 h2;obtain rfl:=h2.1;have HR:=Aa (DT (Da _) HB.out h2);clear h2 HA;obtain⟨c2,z2,e5,HQ'⟩:=Ay.saw HS.out.seen HR.out;have HQ:=Aa HQ';clear HQ' HR;generalize k.straight 18 a=k' at *;generalize (k.seen:Int)=sn at *;go_wp2;go_end0;exact HQ.out
theorem NY(h:Ay w B kb L k)(hs:BE k)(a:Int) :
  Calls prog 156 #[ptr kb,.agg #[.int .i64 16,.int .i64 a]] w (AK w B kb L (k.straight 16 a)):=by
 have hmf:=A__mkf
 have hA:=h.box #[.int .i64 16,.int .i64 a] 33;have HB:=Aa (Bt h.le.1 (.cells #[.int .i64 16,.int .i64 a] 33));have HS:=Aa hs;have HA:=Aa hA;have hkz:=h.le.2.1;clear h hs hA;go_enter func156,ntmps156
 go_wp2_with fail
 refine(SJ HA.out HS.out a).mono ?_;rintro e w2 h2;obtain rfl:=h2.1;have HR:=Aa (DT (Da _) HB.out h2);clear h2 HA;obtain⟨c2,z2,e5,HQ'⟩:=Ay.saw HS.out.seen HR.out;have HQ:=Aa HQ';clear HQ' HR;generalize k.straight 16 a=k' at *;generalize (k.seen:Int)=sn at *;go_wp2;go_end0;exact HQ.out
theorem MT(h:Ay w B kb L k)(hs:BE k)(a:Int) :
  Calls prog 156 #[ptr kb,.agg #[.int .i64 17,.int .i64 a]] w (AK w B kb L (k.straight 17 a)):=by
 have hmf:=A__mkf
 have hA:=h.box #[.int .i64 17,.int .i64 a] 33;have HB:=Aa (Bt h.le.1 (.cells #[.int .i64 17,.int .i64 a] 33));have HS:=Aa hs;have HA:=Aa hA;have hkz:=h.le.2.1;clear h hs hA;go_enter func156,ntmps156
 go_wp2_with fail
 refine(Sp HA.out HS.out a).mono ?_;rintro e w2 h2;obtain rfl:=h2.1;have HR:=Aa (DT (Da _) HB.out h2);clear h2 HA;obtain⟨c2,z2,e5,HQ'⟩:=Ay.saw HS.out.seen HR.out;have HQ:=Aa HQ';clear HQ' HR;generalize k.straight 17 a=k' at *;generalize (k.seen:Int)=sn at *;go_wp2;go_end0;exact HQ.out
theorem QC(h:Ay w B kb L k)(hs:BE k)(a:Int) :
  Calls prog 156 #[ptr kb,.agg #[.int .i64 0,.int .i64 a]] w (AK w B kb L (k.straight 0 a)):=by
 have hmf:=A__mkf
 have hA:=h.box #[.int .i64 0,.int .i64 a] 33;have HB:=Aa (Bt h.le.1 (.cells #[.int .i64 0,.int .i64 a] 33));have HS:=Aa hs;have HA:=Aa hA;have hkz:=h.le.2.1;clear h hs hA;go_enter func156,ntmps156
 go_wp2_with fail
 refine(FN a _).mono ?_;rintro e w1 ⟨rfl,b1⟩;have hA1:=HA.out.below b1;have HT:=Aa (IM hA1 (Bn a:V) (by have:=HS.out.ws;omega));have HB1:=Aa (HB.out.trans (b1.mono HA.out.le.1));clear hA1 b1;go_wp2_with fail
 refine HT.out.mono ?_;rintro e w2 h2;obtain rfl:=h2.1;have HR:=Aa (DT (Da _) HB1.out h2);have HR:Hid (AK w B kb L (k.str 0 a) (.returned (.tuple #[])) w2):=HR;clear h2 HA HT;obtain⟨c2,z2,e5,HQ'⟩:=Ay.saw HS.out.seen HR.out;have HQ:=Aa HQ';clear HQ' HR;generalize k.straight 0 a=k' at *;generalize (k.seen:Int)=sn at *;go_wp2;go_end0;exact HQ.out
theorem Nx(h:Ay w B kb L k)(hs:BE k)(a:Int) :
  Calls prog 156 #[ptr kb,.agg #[.int .i64 12,.int .i64 a]] w (AK w B kb L (k.straight 12 a)):=by
 have hmf:=A__mkf
 have hA:=h.box #[.int .i64 12,.int .i64 a] 33;have HB:=Aa (Bt h.le.1 (.cells #[.int .i64 12,.int .i64 a] 33));have HS:=Aa hs;have HA:=Aa hA;have hkz:=h.le.2.1;clear h hs hA;go_enter func156,ntmps156
 go_wp2_with fail
 refine(KW a _).mono ?_;rintro e w1 ⟨rfl,b1⟩;have hA1:=HA.out.below b1;have HT:=Aa (IM hA1 (⟨3,a⟩:V) (by have:=HS.out.ws;omega));have HB1:=Aa (HB.out.trans (b1.mono HA.out.le.1));clear hA1 b1;go_wp2_with fail
 refine HT.out.mono ?_;rintro e w2 h2;obtain rfl:=h2.1;have HR:=Aa (DT (Da _) HB1.out h2);have HR:Hid (AK w B kb L (k.str 12 a) (.returned (.tuple #[])) w2):=HR;clear h2 HA HT;obtain⟨c2,z2,e5,HQ'⟩:=Ay.saw HS.out.seen HR.out;have HQ:=Aa HQ';clear HQ' HR;generalize k.straight 12 a=k' at *;generalize (k.seen:Int)=sn at *;go_wp2;go_end0;exact HQ.out
theorem N6(h:Ay w B kb L k)(hs:BE k)(a:Int) :
  Calls prog 156 #[ptr kb,.agg #[.int .i64 1,.int .i64 a]] w (AK w B kb L (k.straight 1 a)):=by
 have hmf:=A__mkf
 have hA:=h.box #[.int .i64 1,.int .i64 a] 33;have HB:=Aa (Bt h.le.1 (.cells #[.int .i64 1,.int .i64 a] 33));have HS:=Aa hs;have HA:=Aa hA;have hkz:=h.le.2.1;clear h hs hA;go_enter func156,ntmps156
 go_wp2_with fail
 refine(IM HA.out As (by have:=HS.out.ws;omega)).mono ?_;rintro e w2 h2;obtain rfl:=h2.1;have HR:=Aa (DT (Da _) HB.out h2);have HR:Hid (AK w B kb L (k.str 1 a) (.returned (.tuple #[])) w2):=HR;clear h2 HA;obtain⟨c2,z2,e5,HQ'⟩:=Ay.saw HS.out.seen HR.out;have HQ:=Aa HQ';clear HQ' HR;generalize k.straight 1 a=k' at *;generalize (k.seen:Int)=sn at *;go_wp2;go_end0;exact HQ.out
theorem NS(h:Ay w B kb L k)(hs:BE k)(a:Int)(ha:0<=a) :
  Calls prog 156 #[ptr kb,.agg #[.int .i64 2,.int .i64 a]] w (AK w B kb L (k.straight 2 a)):=by
 have hmf:=A__mkf
 have hA:=h.box #[.int .i64 2,.int .i64 a] 33;have HB:=Aa (Bt h.le.1 (.cells #[.int .i64 2,.int .i64 a] 33));have HS:=Aa hs;have HA:=Aa hA;have hkz:=h.le.2.1;clear h hs hA;go_enter func156,ntmps156
 have hov:BZ ((w.heap.size,#[.int .i64 2,.int .i64 a],33)::L) (.loc a.toNat) (.func (.func 168) #[] #[ptr w.heap.size]):=⟨w.heap.size,2,rfl,by rw[show ((a.toNat:Nat):Int)=a from Int.toNat_of_nonneg ha];exact Ti⟩
 have HO:=Aa hov;clear hov;go_wp2_with fail
 refine(Js HA.out (.loc a.toNat) _ _ HO.out (by have:=HS.out.ws;omega)).mono ?_;rintro e w2 ⟨rfl,h2,b2⟩;have HR:=Aa (AK.of (Da _) HB.out h2 b2);have HR:Hid (AK w B kb L (k.str 2 a) (.returned (.tuple #[])) w2):=HR;clear h2 b2 HA;obtain⟨c2,z2,e5,HQ'⟩:=Ay.saw HS.out.seen HR.out;have HQ:=Aa HQ';clear HQ' HR;generalize k.straight 2 a=k' at *;generalize (k.seen:Int)=sn at *;go_wp2;go_end0;exact HQ.out
theorem QQ(h:Ay w B kb L k)(hs:BE k)(a:Int) :
  Calls prog 156 #[ptr kb,.agg #[.int .i64 19,.int .i64 a]] w (AK w B kb L (k.straight 19 a)):=by
 have hmf:=A__mkf
 have hA:=h.box #[.int .i64 19,.int .i64 a] 33;have HB:=Aa (Bt h.le.1 (.cells #[.int .i64 19,.int .i64 a] 33));have HS:=Aa hs;have HA:=Aa hA;have hkz:=h.le.2.1;clear h hs hA;go_enter func156,ntmps156
 go_wp2_with fail
 refine(En HA.out (by have:=HS.out.ws;omega)).mono ?_;rintro e w1 ⟨v,rfl,o1,h1,b1⟩;obtain⟨g,cp,e1,_⟩:=o1.fn;subst e1;have h2:=h1.box #[.func (.func g) #[] cp] 224;have b2:=Bt h1.le.1 (.cells #[.func (.func g) #[] cp] 224);have hd:CR ((w1.heap.size,#[.func (.func g) #[] cp],224)::(w.heap.size,#[.int .i64 19,.int .i64 a],33)::L) (.ins 19 a [Bp k]) (.func (.func 170) #[] #[ptr w1.heap.size]):=Or.inr (Or.inr (Or.inl ⟨rfl,_,w1.heap.size,_,rfl,rfl,Ti,o1.mono (Da _)⟩));have HT:=Aa (Dg h2 _ _ _ hd (by have:=(HS.out.pops 1).ds;omega));have HB1:=Aa (HB.out.trans (b1.trans b2));clear h1 h2 b1 b2 hd o1 HA;go_wp2_with fail
 generalize w1.alloc (.cells #[.func (.func g) #[] cp] 224)=W1 at *;refine HT.out.mono ?_;rintro e w2 ⟨rfl,h2,b2⟩;have HR:=Aa (show AK w B kb L (k.str 19 a) (.returned (.tuple #[])) w2 from by rw[OQ];exact AK.of (fun t ht=>Tf _ (Tf _ ht)) HB1.out h2 b2);clear h2 b2 HT;obtain⟨c2,z2,e5,HQ'⟩:=Ay.saw HS.out.seen HR.out;have HQ:=Aa HQ';clear HQ' HR;generalize k.straight 19 a=k' at *;generalize (k.seen:Int)=sn at *;go_wp2;go_end0;exact HQ.out
theorem Nq(h:Ay w B kb L k)(hs:BE k)(op a:Int)(hop:op=4\/op=5\/op=6\/op=7\/op=8) :
  Calls prog 156 #[ptr kb,.agg #[.int .i64 op,.int .i64 a]] w (AK w B kb L (k.straight op a)):=by
 have hmf:=A__mkf
 have hA:=h.box #[.int .i64 op,.int .i64 a] 33;have HB:=Aa (Bt h.le.1 (.cells #[.int .i64 op,.int .i64 a] 33));have HS:=Aa hs;have HA:=Aa hA;have HO:=Aa hop;have hkz:=h.le.2.1;have ho:((op==0)=false/\(op==1)=false/\(op==12)=false/\(op==2)=false/\(op==3)=false/\(op==19)=false/\(op==20)=false/\(op==21)=false/\(op==9)=false)/\((op==4)=true\/((op==4)=false/\(op==5)=true)\/((op==4)=false/\(op==5)=false/\(op==6)=true)\/((op==4)=false/\(op==5)=false/\(op==6)=false/\(op==7)=true)\/((op==4)=false/\(op==5)=false/\(op==6)=false/\(op==7)=false/\(op==8)=true)):=by
  rcases hop with rfl|rfl|rfl|rfl|rfl<;>decide
 clear h hs hA hop;obtain⟨⟨o0,o1,o2,o3,o4,p0,p1,p2,p3⟩,o5⟩:=ho;go_enter func156,ntmps156
 rcases o5 with o5|⟨o5,o6⟩|⟨o5,o6,o7⟩|⟨o5,o6,o7,o8⟩|⟨o5,o6,o7,o8,o9⟩
 all_goals
  go_wp2_with fail
  refine(Kv op HO.out _).mono ?_;rintro e w1 ⟨rfl,hw1⟩;rw[hw1];clear hw1 w1;have HT:=Aa (RQ HA.out HS.out op a HO.out);generalize Dd op=rf at *;go_wp2_with fail
  refine HT.out.mono ?_;rintro e w2 h2;obtain rfl:=h2.1;have HR:=Aa (DT (Da _) HB.out h2);clear h2 HA HT;obtain⟨c2,z2,e5,HQ'⟩:=Ay.saw HS.out.seen HR.out;have HQ:=Aa HQ';clear HQ' HR;generalize k.straight op a=k' at *;generalize (k.seen:Int)=sn at *;go_wp2;go_end0;exact HQ.out
theorem PL(h:Ay w B kb L k)(hs:BE k)(op a:Int){locals n m:Int}(hl:Bz op a locals n m=true)(ht:Dv op=false) :
  Calls prog 156 #[ptr kb,.agg #[.int .i64 op,.int .i64 a]] w (AK w B kb L (k.straight op a)):=by
 have ht:op≠10/\op≠11/\op≠13/\op≠14:=by simpa [Dv] using ht
 have hr:=E3 hl;by_cases e:op=0
 ·subst e;exact QC h hs a
 by_cases e:op=1
 ·subst e;exact N6 h hs a
 by_cases e:op=12
 ·subst e;exact Nx h hs a
 by_cases e:op=2
 ·subst e;have hf:0<=a/\a<locals:=by simpa [Bz] using hl
  exact NS h hs a hf.1
 by_cases e:op=3
 ·subst e;exact RY h hs a
 by_cases e:op=19
 ·subst e;exact QQ h hs a
 by_cases e:op=20
 ·subst e;exact OV h hs a
 by_cases e:op=21
 ·subst e;exact SG h hs a
 by_cases e:op=9
 ·subst e;exact Sv h hs a
 by_cases e:op=15
 ·subst e;exact NX h hs a
 by_cases e:op=18
 ·subst e;exact Oe h hs a
 by_cases e:op=16
 ·subst e;exact NY h hs a
 by_cases e:op=17
 ·subst e;exact MT h hs a
 exact Nq h hs op a (by omega)
end
section
variable {w:World}{B kb:Nat}{L:Bxs}{k:Mk}
theorem Ay.sawT{w2:World}{op a:Int}(hs:k.seen<=1000)(h:AK w B kb L ((k.trn op a).then_ .one) (.returned (.tuple #[])) w2) :
  w2.cell? ⟨kb,2,none⟩=some (.int .i64 k.seen)/\w2.frozen? ⟨kb,2,none⟩=false/\wrap64 ((k.seen:Int)+1)=(k.seen:Int)+1/\AK w B kb L (k.turn op a) (.returned (.tuple #[])) (w2.setCell ⟨kb,2,none⟩ (.int .i64 ((k.seen:Int)+1))):=by
 obtain⟨_,L',hl,hA,hb⟩:=h;obtain⟨c2,_,z2,_⟩:=hA.counts;have e0:((k.trn op a).then_ .one).seen=k.seen:=Il op a k;rw[e0] at c2;obtain⟨hA2,hb2⟩:=hA.count 2 (k.seen+1) (by omega);have e:((k.seen+1:Nat):Int)=(k.seen:Int)+1:=by omega
 rw[e] at hA2 hb2;refine⟨c2,z2,by unfold wrap64;omega,rfl,L',hl,?_,hb.trans hb2⟩;have hk:k.turn op a={(k.trn op a).then_ .one with seen:=if 2=2 then k.seen+1 else ((k.trn op a).then_ .one).seen,passed:=if 2=3 then k.seen+1 else ((k.trn op a).then_ .one).passed}:=by
  unfold Mk.turn;rw[Il];rfl
 rw[hk];exact hA2
theorem Gx(op a:Int)(k:Mk):(k.trn op a).ds.length<=k.ds.length+3:=by
 have h1:=DS k;have h2:(k.pops 1).level.ds.length<=k.ds.length+2:=DS (k.pops 1);unfold Mk.trn;repeat' split
 all_goals (show (_++[_]).length<=_;simp;omega)
theorem Sz(h:Ay w B kb L k)(hs:BE k)(a:Int)(ha:0<=a) :
  Calls prog 155 #[ptr kb,.agg #[.int .i64 10,.int .i64 a]] w (AK w B kb L (k.turn 10 a)):=by
 have hmf:=A__mkf
 have hA:=h.two #[.int .i64 10,.int .i64 a] #[.int .i64 a] 33 3;have HB:=Aa ((Bt h.le.1 (.cells #[.int .i64 10,.int .i64 a] 33)).trans (Bt (w:=w.alloc (.cells #[.int .i64 10,.int .i64 a] 33)) (by have:=h.le.1;simp;omega) (.cells #[.int .i64 a] 3)));have HS:=Aa hs;have HA:=Aa hA;have HI:=Aa (show (a.toNat:Int)=a from Int.toNat_of_nonneg ha);have hkz:=h.le.2.1;clear h hs hA ha;go_enter func155,ntmps155
 go_wp2_with fail
 generalize (w.alloc (.cells #[.int .i64 10,.int .i64 a] 33)).alloc (.cells #[.int .i64 a] 3)=W at *;refine(EM HA.out (by have:=HS.out.ds;omega) (by have:=HS.out.ws;omega) HS.out.le HS.out.seen).mono ?_;rintro e w2 ⟨rfl,L2,hl2,h2,b2⟩;have hd:CR L2 (.jump a.toNat) (.func (.func 160) #[] #[ptr (w.heap.size+1)]):=⟨w.heap.size+1,rfl,by rw[HI.out];exact hl2 _ Ti⟩
 have HT2:=Aa (Dg h2 _ _ _ hd (by have:=DS k;have:=HS.out.ds;omega));have H2:=Aa (Tc (fun t (ht:t∈L)=>hl2 t (Tf _ (Tf _ ht))) (HB.out.trans b2));clear h2 b2 hl2 hd HA HB;go_wp2_with fail
 refine HT2.out.mono ?_;rintro e w3 ⟨rfl,h3',b3'⟩;have h3:Ay w3 B kb L2 (k.trn 10 a):=h3';have hl3:=H2.out.1;have b3:=H2.out.2.trans b3';clear HT2 H2 h3' b3';have HT3:=Aa (Dg h3 .one 165 #[] rfl (by have:=Gx 10 a k;have:=HS.out.ds;show (k.trn 10 a).ds.length<=_;omega));have H3:=Aa (Tc hl3 b3);clear h3 hl3 b3;go_wp2_with fail
 refine HT3.out.mono ?_;rintro e w4 ⟨rfl,h4,b4⟩;obtain⟨c2,z2,e5,HQ'⟩:=Ay.sawT (op:=10) (a:=a) HS.out.seen (AK.of H3.out.1 H3.out.2 h4 b4);have HQ:=Aa HQ';clear HQ' HT3 h4 b4 H3;generalize k.turn 10 a=k' at *;generalize (k.seen:Int)=sn at *;go_wp2;go_end0;exact HQ.out
theorem PB(h:Ay w B kb L k)(hs:BE k)(a:Int)(ha:0<=a) :
  Calls prog 155 #[ptr kb,.agg #[.int .i64 13,.int .i64 a]] w (AK w B kb L (k.turn 13 a)):=by
 have hmf:=A__mkf
 have hA:=h.two #[.int .i64 13,.int .i64 a] #[.int .i64 a] 33 3;have HB:=Aa ((Bt h.le.1 (.cells #[.int .i64 13,.int .i64 a] 33)).trans (Bt (w:=w.alloc (.cells #[.int .i64 13,.int .i64 a] 33)) (by have:=h.le.1;simp;omega) (.cells #[.int .i64 a] 3)));have HS:=Aa hs;have HA:=Aa hA;have HI:=Aa (show (a.toNat:Int)=a from Int.toNat_of_nonneg ha);have hkz:=h.le.2.1;clear h hs hA ha;go_enter func155,ntmps155
 go_wp2_with fail
 generalize (w.alloc (.cells #[.int .i64 13,.int .i64 a] 33)).alloc (.cells #[.int .i64 a] 3)=W at *;refine(EM HA.out (by have:=HS.out.ds;omega) (by have:=HS.out.ws;omega) HS.out.le HS.out.seen).mono ?_;rintro e w2 ⟨rfl,L2,hl2,h2,b2⟩;have hd:CR L2 (.call a.toNat) (.func (.func 163) #[] #[ptr (w.heap.size+1)]):=⟨w.heap.size+1,rfl,by rw[HI.out];exact hl2 _ Ti⟩
 have HT2:=Aa (Dg h2 _ _ _ hd (by have:=DS k;have:=HS.out.ds;omega));have H2:=Aa (Tc (fun t (ht:t∈L)=>hl2 t (Tf _ (Tf _ ht))) (HB.out.trans b2));clear h2 b2 hl2 hd HA HB;go_wp2_with fail
 refine HT2.out.mono ?_;rintro e w3 ⟨rfl,h3',b3'⟩;have h3:Ay w3 B kb L2 (k.trn 13 a):=h3';have hl3:=H2.out.1;have b3:=H2.out.2.trans b3';clear HT2 H2 h3' b3';have HT3:=Aa (Dg h3 .one 165 #[] rfl (by have:=Gx 13 a k;have:=HS.out.ds;show (k.trn 13 a).ds.length<=_;omega));have H3:=Aa (Tc hl3 b3);clear h3 hl3 b3;go_wp2_with fail
 refine HT3.out.mono ?_;rintro e w4 ⟨rfl,h4,b4⟩;obtain⟨c2,z2,e5,HQ'⟩:=Ay.sawT (op:=13) (a:=a) HS.out.seen (AK.of H3.out.1 H3.out.2 h4 b4);have HQ:=Aa HQ';clear HQ' HT3 h4 b4 H3;generalize k.turn 13 a=k' at *;generalize (k.seen:Int)=sn at *;go_wp2;go_end0;exact HQ.out
theorem Ok(h:Ay w B kb L k)(hs:BE k)(a:Int)(ha:0<=a) :
  Calls prog 155 #[ptr kb,.agg #[.int .i64 11,.int .i64 a]] w (AK w B kb L (k.turn 11 a)):=by
 have hmf:=A__mkf
 have hA:=h.two #[.int .i64 11,.int .i64 a] #[.int .i64 a] 33 3;have HB:=Aa ((Bt h.le.1 (.cells #[.int .i64 11,.int .i64 a] 33)).trans (Bt (w:=w.alloc (.cells #[.int .i64 11,.int .i64 a] 33)) (by have:=h.le.1;simp;omega) (.cells #[.int .i64 a] 3)));have HS:=Aa hs;have HA:=Aa hA;have HI:=Aa (show (a.toNat:Int)=a from Int.toNat_of_nonneg ha);have hkz:=h.le.2.1;clear h hs hA ha;go_enter func155,ntmps155
 go_wp2_with fail
 generalize (w.alloc (.cells #[.int .i64 11,.int .i64 a] 33)).alloc (.cells #[.int .i64 a] 3)=W at *;refine(En HA.out (by have:=HS.out.ws;omega)).mono ?_;rintro e w1 ⟨v,rfl,o1,h1,b1⟩;obtain⟨g,cp,e1,_⟩:=o1.fn;subst e1;have h2:=h1.box #[.func (.func g) #[] cp] 224;have b2:=Bt h1.le.1 (.cells #[.func (.func g) #[] cp] 224);have HT:=Aa (EM h2 (by have:=(HS.out.pops 1).ds;omega) (by have:=(HS.out.pops 1).ws;omega) (HS.out.pops 1).le (HS.out.pops 1).seen);have H1:=Aa (Tc o1 (HB.out.trans (b1.trans b2)));clear h1 h2 b1 b2 o1 HA HB;go_wp2_with fail
 generalize w1.alloc (.cells #[.func (.func g) #[] cp] 224)=W1 at *;refine HT.out.mono ?_;rintro e w2 ⟨rfl,L2,hl2,h2,b2⟩;have hd:CR L2 (.branch (Bp k) a.toNat) (.func (.func 162) #[] #[ptr w1.heap.size,ptr (w.heap.size+1)]):=⟨w1.heap.size,w.heap.size+1,_,rfl,hl2 _ Ti,by rw[HI.out];exact hl2 _ (Tf _ Ti),H1.out.1.mono (fun t ht=>hl2 _ (Tf _ ht))⟩
 have HT2:=Aa (Dg h2 _ _ _ hd (by have:=DS (k.pops 1);have:=(HS.out.pops 1).ds;omega));have H2:=Aa (Tc (fun t (ht:t∈L)=>hl2 t (Tf _ (Tf _ (Tf _ ht)))) (H1.out.2.trans b2));clear h2 b2 hl2 hd HT H1;go_wp2_with fail
 refine HT2.out.mono ?_;rintro e w3 ⟨rfl,h3',b3'⟩;have h3:Ay w3 B kb L2 (k.trn 11 a):=h3';have hl3:=H2.out.1;have b3:=H2.out.2.trans b3';clear HT2 H2 h3' b3';have HT3:=Aa (Dg h3 .one 165 #[] rfl (by have:=Gx 11 a k;have:=HS.out.ds;show (k.trn 11 a).ds.length<=_;omega));have H3:=Aa (Tc hl3 b3);clear h3 hl3 b3;go_wp2_with fail
 refine HT3.out.mono ?_;rintro e w4 ⟨rfl,h4,b4⟩;obtain⟨c2,z2,e5,HQ'⟩:=Ay.sawT (op:=11) (a:=a) HS.out.seen (AK.of H3.out.1 H3.out.2 h4 b4);have HQ:=Aa HQ';clear HQ' HT3 h4 b4 H3;generalize k.turn 11 a=k' at *;generalize (k.seen:Int)=sn at *;go_wp2;go_end0;exact HQ.out
theorem Pb(h:Ay w B kb L k)(hs:BE k)(a:Int) :
  Calls prog 155 #[ptr kb,.agg #[.int .i64 14,.int .i64 a]] w (AK w B kb L (k.turn 14 a)):=by
 have hmf:=A__mkf
 have hA:=h.two #[.int .i64 14,.int .i64 a] #[.int .i64 a] 33 3;have HB:=Aa ((Bt h.le.1 (.cells #[.int .i64 14,.int .i64 a] 33)).trans (Bt (w:=w.alloc (.cells #[.int .i64 14,.int .i64 a] 33)) (by have:=h.le.1;simp;omega) (.cells #[.int .i64 a] 3)));have HS:=Aa hs;have HA:=Aa hA;have hkz:=h.le.2.1;clear h hs hA;go_enter func155,ntmps155
 go_wp2_with fail
 generalize (w.alloc (.cells #[.int .i64 14,.int .i64 a] 33)).alloc (.cells #[.int .i64 a] 3)=W at *;refine(En HA.out (by have:=HS.out.ws;omega)).mono ?_;rintro e w1 ⟨v,rfl,o1,h1,b1⟩;obtain⟨g,cp,e1,_⟩:=o1.fn;subst e1;have h2:=h1.box #[.func (.func g) #[] cp] 224;have b2:=Bt h1.le.1 (.cells #[.func (.func g) #[] cp] 224);have HT:=Aa (EM h2 (by have:=(HS.out.pops 1).ds;omega) (by have:=(HS.out.pops 1).ws;omega) (HS.out.pops 1).le (HS.out.pops 1).seen);have H1:=Aa (Tc o1 (HB.out.trans (b1.trans b2)));clear h1 h2 b1 b2 o1 HA HB;go_wp2_with fail
 generalize w1.alloc (.cells #[.func (.func g) #[] cp] 224)=W1 at *;refine HT.out.mono ?_;rintro e w2 ⟨rfl,L2,hl2,h2,b2⟩;have hd:CR L2 (.ret (Bp k)) (.func (.func 164) #[] #[ptr w1.heap.size]):=⟨w1.heap.size,_,rfl,hl2 _ Ti,H1.out.1.mono (fun t ht=>hl2 _ (Tf _ ht))⟩
 have HT2:=Aa (Dg h2 _ _ _ hd (by have:=DS (k.pops 1);have:=(HS.out.pops 1).ds;omega));have H2:=Aa (Tc (fun t (ht:t∈L)=>hl2 t (Tf _ (Tf _ (Tf _ ht)))) (H1.out.2.trans b2));clear h2 b2 hl2 hd HT H1;go_wp2_with fail
 refine HT2.out.mono ?_;rintro e w3 ⟨rfl,h3',b3'⟩;have h3:Ay w3 B kb L2 (k.trn 14 a):=h3';have hl3:=H2.out.1;have b3:=H2.out.2.trans b3';clear HT2 H2 h3' b3';have HT3:=Aa (Dg h3 .one 165 #[] rfl (by have:=Gx 14 a k;have:=HS.out.ds;show (k.trn 14 a).ds.length<=_;omega));have H3:=Aa (Tc hl3 b3);clear h3 hl3 b3;go_wp2_with fail
 refine HT3.out.mono ?_;rintro e w4 ⟨rfl,h4,b4⟩;obtain⟨c2,z2,e5,HQ'⟩:=Ay.sawT (op:=14) (a:=a) HS.out.seen (AK.of H3.out.1 H3.out.2 h4 b4);have HQ:=Aa HQ';clear HQ' HT3 h4 b4 H3;generalize k.turn 14 a=k' at *;generalize (k.seen:Int)=sn at *;go_wp2;go_end0;exact HQ.out
theorem OJ(h:Ay w B kb L k)(hs:BE k)(op a:Int){locals n m:Int}(hl:Bz op a locals n m=true)(ht:Dv op=true) :
  Calls prog 155 #[ptr kb,.agg #[.int .i64 op,.int .i64 a]] w (AK w B kb L (k.turn op a)):=by
 have ht:op=10\/op=11\/op=13\/op=14:=by simpa [Dv] using ht
 rcases ht with rfl|rfl|rfl|rfl
 ·exact Sz h hs a (DF hl (Or.inl rfl)).1
 ·exact Ok h hs a (DF hl (Or.inr rfl)).1
 ·exact PB h hs a (Fz hl rfl).1
 ·exact Pb h hs a
end
theorem K5(k:Mk):k.settle.ws=[]:=by
 unfold Mk.settle;split
 ·assumption
 ·rfl
theorem Qh(k:Mk):k.level.ws=[]:=by unfold Mk.level;split<;>exact K5 k
theorem Sn(k:Mk)(h:k.passed<=k.seen):k.level.passed<=k.seen:=by
 unfold Mk.level;split
 ·rw[IC];exact h
 ·exact Te _
theorem ND(op a:Int)(k:Mk)(h:k.passed<=k.seen):(k.str op a).ds.length<=k.ds.length+3/\(k.str op a).ws.length<=k.ws.length+1/\(k.str op a).passed<=k.seen:=by
 have s1:=Gg (k.pops (BK op));have s2:=K5 (k.pops (BK op));have s3:(k.pops (BK op)).settle.passed=k.passed:=IC _;have l1:=DS (k.pops (BK op));have l2:=Qh (k.pops (BK op));have l3:(k.pops (BK op)).level.passed<=k.seen:=Sn (k.pops (BK op)) h;have e1:∀ (q:Mk) (d:BF),(q.then_ d).ds.length=q.ds.length+1/\(q.then_ d).ws=q.ws/\(q.then_ d).passed=q.passed:=fun q d=>⟨by show (q.ds++[d]).length=_;simp,rfl,rfl⟩
 have e2:∀ n,(k.pops n).ds=k.ds/\(k.pops n).ws.length<=k.ws.length/\(k.pops n).passed=k.passed:=fun n=>⟨rfl,by show (k.ws.drop n).length<=_;simp,rfl⟩
 have e3:(k.pops (BK op)).ds=k.ds:=rfl;rw[e3] at s1 l1;unfold Mk.str;repeat' split
 ·exact⟨by show k.ds.length<=_;omega,by show (_::k.ws).length<=_;simp,h⟩
 ·exact⟨by show k.ds.length<=_;omega,by show (_::k.ws).length<=_;simp,h⟩
 ·exact⟨by show k.ds.length<=_;omega,by show (_::k.ws).length<=_;simp,h⟩
 ·exact⟨by show k.ds.length<=_;omega,by show (_::k.ws).length<=_;simp,h⟩
 ·obtain⟨a1,a2,a3⟩:=e1 (k.pops 1) (.ins op a (AI 1 k.ws));obtain⟨b1,b2,b3⟩:=e2 1;rw[a1,a2,a3,b1,b3];exact⟨by omega,by omega,h⟩
 ·obtain⟨a1,a2,a3⟩:=e1 k (.ins op a [.pop]);rw[a1,a2,a3];exact⟨by omega,by omega,h⟩
 ·rename_i hw;exact⟨by show k.ds.length<=_;omega,by rw[hw];simp;omega,h⟩
 ·obtain⟨a1,a2,a3⟩:=e1 k (.ins op a []);rw[a1,a2,a3];exact⟨by omega,by omega,h⟩
 ·rename_i hw;exact⟨by show k.ds.length<=_;omega,by rw[hw];simp,h⟩
 ·obtain⟨a1,a2,a3⟩:=e1 (k.pops (BK op)).settle (.ins op a (AI (BK op) k.ws));rw[a1,a2,a3,s2,s3];exact⟨by omega,by simp,h⟩
 ·obtain⟨a1,a2,a3⟩:=e1 (k.pops (BK op)).level (.ins op a (AI (BK op) k.ws));rw[a1,a2,a3,l2];exact⟨by omega,by simp,l3⟩
structure Fc (j:Nat) (k:Mk):Prop where
 seen:k.seen=j
 ds:k.ds.length<=3 * j
 ws:k.ws.length<=j
 le:k.passed<=k.seen
theorem Fc.straight{j:Nat}{k:Mk}(h:Fc j k)(op a:Int):Fc (j+1) (k.straight op a):=by
 obtain⟨h1,h2,h3⟩:=ND op a k h.le;have hs:(k.straight op a).seen=j+1:=by show (k.str op a).seen+1=_;rw[Gy,h.seen]
 exact⟨hs,by show (k.str op a).ds.length<=_;have:=h.ds;omega,by show (k.str op a).ws.length<=_;have:=h.ws;omega,by rw[hs];show (k.str op a).passed<=_;have:=h.seen;omega⟩
theorem Fc.sml{j:Nat}{k:Mk}(h:Fc j k)(hj:j<=64):BE k:=⟨by have:=h.ds;omega,by have:=h.ws;omega,by have:=h.seen;omega,h.le⟩
theorem Kz(w:World)(p:Option Addr)(n c:Nat):Calls prog 157 #[.slice p n c] w fun e w'=>e=.returned (.func (.func 176) #[] #[ptr w.heap.size])/\w'=w.alloc (.cells #[.slice p n c] 216):=by
 have hmf:=A__mkf
 go_enter func157,ntmps157
 go_wp2;go_ret;exact⟨rfl,rfl⟩
theorem Ay.finish{w:World}{B kb:Nat}{L:Bxs}{k:Mk}(h:Ay w B kb L k):∃ p c,w.cell? ⟨kb,0,none⟩=some (.slice p k.ds.length c)/\∀ (w':World) (b:Nat),Below w.heap.size w w'->B<=b->w'.heap[b]?=some (.cells #[.slice p k.ds.length c] 216 (0,0))->∃ L',(∀ t,t∈L'->B<=t.1)/\Hb L' w'/\D9 L' k.ds (.func (.func 176) #[] #[ptr b]):=by
 obtain⟨tg,dv,wv,D,W,h⟩:=h;have hw:=h.ds;rcases hw with⟨h1,h2⟩|⟨db,cap,cur,h1,h2,h3,h4,h5,_,_,h6⟩
 ·refine⟨none,0,by rw[Ab h.blk,h1,h2];rfl,fun w' b _ _ _=>⟨[],fun t ht=>absurd ht List.not_mem_nil,fun t ht=>absurd ht List.not_mem_nil,b,rfl,Or.inl (List.eq_nil_of_length_eq_zero h2)⟩⟩
 ·refine⟨some ⟨db,0,none⟩,cap,by rw[Ab h.blk,h1];rfl,fun w' b hb hB hh=>⟨(b,#[.slice (some ⟨db,0,none⟩) k.ds.length cap],216)::(db,cur,181)::L,fun t ht=>?_,fun t ht=>?_,b,rfl,Or.inr ⟨db,cap,cur,Ti,Tf _ Ti,fun i hi=>⟨D i,h6 i (by omega),(h.dsv i hi).mono (fun t ht=>Tf _ (Tf _ ht))⟩⟩⟩⟩
  ·rcases List.mem_cons.1 ht with rfl|ht
   ·exact hB
   ·rcases List.mem_cons.1 ht with rfl|ht
    ·exact h2
    ·exact h.bB t ht
  ·rcases List.mem_cons.1 ht with rfl|ht
   ·exact hh
   ·rcases List.mem_cons.1 ht with rfl|ht
    ·exact(hb.block db (Ah h4)).trans h4
    ·exact(hb.block t.1 (Ah (h.bx t ht).1)).trans (h.bx t ht).1
theorem Ay.start(w:World):Ay (w.alloc (.cells #[.slice none 0 0,.slice none 0 0,.int .i64 0,.int .i64 0] 219)) w.heap.size w.heap.size [] ⟨[],[],0,0⟩ :=
 ⟨fun _=>0,.slice none 0 0,.slice none 0 0,fun _=>.nilFunc,fun _=>.nilFunc,by simp,Tv _ _,⟨Te _,rfl⟩,Ae.nil _ _ _ _ _ _ _,fun i hi=>absurd hi (Nat.not_lt_zero _),Ae.nil _ _ _ _ _ _ _,fun i hi=>absurd hi (Nat.not_lt_zero _),fun t ht=>absurd ht List.not_mem_nil,fun t ht=>absurd ht List.not_mem_nil⟩
end Go.Proofs.YtkafkipjedpohaaGreatDoor

import Derived.Test.YtkafkipjedpohaaGreatDoorWd
namespace Go.Proofs.YtkafkipjedpohaaGreatDoor
set_option maxRecDepth 100000
set_option maxHeartbeats 16000000
open Go.RowKit _root_.Go.Proofs.Tryz
structure ED (w:World) (pb po k:Nat) (f:PF) (ca:Option Addr) (cc:Nat):Prop where
 args:w.cell? ⟨pb,po+k * 3,none⟩=some (.int .i64 f.args)
 locals:w.cell? ⟨pb,po+k * 3+1,none⟩=some (.int .i64 f.locals)
 slice:w.cell? ⟨pb,po+k * 3+2,none⟩=some (.slice ca f.cn cc)
 code:1<=f.cn->∃ cb co,ca=some ⟨cb,co,none⟩/\cb<w.heap.size/\BB w cb co f.cn f.op f.ar
section
variable {f:PF}{k m:Nat}
theorem ED.below{w w':World}{B pb po cc:Nat}{ca:Option Addr}(h:ED w pb po k f ca cc)(b:Below B w w')(hB:w.heap.size<=B)(hpb:pb<B):ED w' pb po k f ca cc :=
 ⟨(b.cell (p:=⟨pb,_,none⟩) hpb).trans h.args,(b.cell (p:=⟨pb,_,none⟩) hpb).trans h.locals,(b.cell (p:=⟨pb,_,none⟩) hpb).trans h.slice,
  fun h1=>by
   obtain⟨cb,co,e,hl,hc⟩:=h.code h1;exact⟨cb,co,e,by have:=b.size;omega,hc.below b (by omega)⟩⟩
theorem GG(h:B6 f=false\/(k=0/\f.args≠0)):BW m k f=(1,0):=by unfold BW;rw[if_pos h]
theorem IU(h:¬(B6 f=false\/(k=0/\f.args≠0))){j:Nat}(hj:j<f.cn)(hb:CF m f j=true)(hn:∀ i,i<j->CF m f i=false):BW m k f=(2,(j:Int)):=by
 unfold BW;rw[if_neg h,GL _ _ _ hj hb hn,if_pos hj]
theorem MO(h:¬(B6 f=false\/(k=0/\f.args≠0)))(hn:∀ i,i<f.cn->CF m f i=false):BW m k f=Cl f.cn f.op f.ar (f.cn+1) s0:=by
 unfold BW;rw[if_neg h,Gc _ _ hn,if_neg (by omega)]
theorem SU(pb po pc m k:Nat)(f:PF)(ca:Option Addr)(cc:Nat)(w:World)(hf:ED w pb po k f ca cc)(hk:k<m)(hs:B6 f=false) :
  Calls prog 49 #[.slice (some ⟨pb,po,none⟩) m pc,.int .i64 k] w fun e w' =>
   e=.returned (.tuple #[.int .i64 (BW m k f).1,.int .i64 (BW m k f).2])/\Below w.heap.size w w':=by
 obtain⟨c0,c1,c2,_⟩:=hf;rw[GG (Or.inl hs)];unfold B6 at hs;have HS:=Aa hs;clear hs;generalize f.args=ag at *;generalize f.locals=lc at *;generalize f.cn=cn at *;go_enter func49,ntmps49
 go_wp2_with fail
 refine(Iy _ _ _ _ _ _).mono ?_;rintro e w2 ⟨rfl,hB⟩;rw[HS.out];clear HS;have HB2:=Aa hB;clear hB;go_wp2;go_ret2
 exact⟨rfl,((Tu _ _).alloc (Te _) _).trans (HB2.out.mono (by simp))⟩
theorem SA(pb po pc m k:Nat)(f:PF)(ca:Option Addr)(cc:Nat)(w:World)(hf:ED w pb po k f ca cc)(hk:k<m)(hs:B6 f=true)(h0:k=0)(ha:f.args≠0) :
  Calls prog 49 #[.slice (some ⟨pb,po,none⟩) m pc,.int .i64 k] w fun e w' =>
   e=.returned (.tuple #[.int .i64 (BW m k f).1,.int .i64 (BW m k f).2])/\Below w.heap.size w w':=by
 obtain⟨c0,c1,c2,_⟩:=hf;rw[GG (Or.inr ⟨h0,ha⟩)];unfold B6 at hs;have HS:=Aa hs;have hb:(f.args != 0)=true:=by simpa using ha
 have hk0:((k:Int)==0)=true:=by simpa using h0
 clear hs ha h0;generalize f.args=ag at *;generalize f.locals=lc at *;generalize f.cn=cn at *;go_enter func49,ntmps49
 go_wp2_with fail
 refine(Iy _ _ _ _ _ _).mono ?_;rintro e w2 ⟨rfl,hB⟩;rw[HS.out];clear HS;have HB2:=Aa hB;have d0:w2.cell? ⟨w.heap.size,0,none⟩=some (.int .i64 ag):=(hB.cell (p:=⟨w.heap.size,0,none⟩) (by simp)).trans (by simp);clear hB;go_wp2;go_ret2
 exact⟨rfl,((Tu _ _).alloc (Te _) _).trans (HB2.out.mono (by simp))⟩
theorem Lh{j:Nat}(h:CF m f j=false):Bz (f.op j) (f.ar j) f.locals f.cn m=true:=by simpa [CF] using h
theorem Nl(pb po pc m k:Nat)(f:PF)(ca:Option Addr)(cc:Nat)(w:World)(hf:ED w pb po k f ca cc)(hk:k<m)(_hm:m<=8)(hs:B6 f=true)(h0:¬(k=0/\f.args≠0))(ht:Cb w)(hw:0<w.heap.size) :
  Calls prog 49 #[.slice (some ⟨pb,po,none⟩) m pc,.int .i64 k] w fun e w' =>
   e=.returned (.tuple #[.int .i64 (BW m k f).1,.int .i64 (BW m k f).2])/\Below w.heap.size w w':=by
 have hno:¬(B6 f=false\/(k=0/\f.args≠0)):=by rw[hs];simp only[Bool.true_eq_false,false_or];exact h0
 have hs':=hs;unfold B6 at hs';simp only[Bool.and_eq_true,decide_eq_true_eq] at hs';obtain⟨⟨⟨hl0,hl8⟩,ha0,hal⟩,hn1,hn⟩:=hs';obtain⟨c0,c1,c2,hcode⟩:=hf;obtain⟨cb,co,rfl,hcb,hc⟩:=hcode hn1;have hg:((k:Int)==0)=false\/(((k:Int)==0)=true/\(f.args != 0)=false):=by
  by_cases e:k=0
  ·right;subst e;simp at h0;simp[h0]
  ·left;simp;omega
 unfold B6 at hs;have HS:=Aa hs;have HX:Hid (¬(B6 f=false\/(k=0/\f.args≠0))/\BB w cb co f.cn f.op f.ar/\Cb w):=⟨hno,hc,ht⟩
 generalize hR:BW m k f=R;have HR:=Aa hR;clear hs h0 hno hc ht hR hcode;generalize hag:f.args=ag at *;generalize hlc:f.locals=lc at *;generalize hcn:f.cn=cn at *;have HE:Hid (f.args=ag/\f.locals=lc/\f.cn=cn):=⟨hag,hlc,hcn⟩
 clear hag hlc hcn;have hz1:(w.alloc (.cells #[.int .i64 ag,.int .i64 lc,.slice (some ⟨cb,co,none⟩) cn cc] 31)).heap.size=w.heap.size+1:=by simp
 have hB1:Below w.heap.size w (w.alloc (.cells #[.int .i64 ag,.int .i64 lc,.slice (some ⟨cb,co,none⟩) cn cc] 31)):=(Tu _ _).alloc (Te _) _;have HB1:=Aa hB1;clear hB1;go_enter func49,ntmps49
 go_wp2_with fail
 refine(Iy _ _ _ _ _ _).mono ?_;rintro e w2 ⟨rfl,hB⟩;rw[HS.out];clear HS;have d0:w2.cell? ⟨w.heap.size,0,none⟩=some (.int .i64 ag):=(hB.cell (p:=⟨w.heap.size,0,none⟩) (by simp)).trans (by simp);have d2:w2.cell? ⟨w.heap.size,2,none⟩=some (.slice (some ⟨cb,co,none⟩) cn cc):=(hB.cell (p:=⟨w.heap.size,2,none⟩) (by simp)).trans (by simp);have HB2:=Aa hB;clear hB;rcases hg with hg|⟨hg,hg'⟩
 all_goals
  have hBw:Below w.heap.size w w2:=HB1.out.trans (HB2.out.mono (by simp));have d1:w2.cell? ⟨w.heap.size,1,none⟩=some (.int .i64 lc):=(HB2.out.cell (p:=⟨w.heap.size,1,none⟩) (by simp)).trans (by simp);have hsz2:w.heap.size+1<=w2.heap.size:=by have:=HB2.out.size;simpa using this
  have HBw:=Aa hBw;clear hBw HB1 HB2;go_wp2;go_loopw [28] (fun v wr=>∃ j:Nat,j<=cn/\v=.int .i64 j/\(∀ i,i<j->CF m f i=false)/\Below w.heap.size w wr/\wr.cell? ⟨w.heap.size,0,none⟩=some (.int .i64 ag)/\wr.cell? ⟨w.heap.size,1,none⟩=some (.int .i64 lc)/\wr.cell? ⟨w.heap.size,2,none⟩=some (.slice (some ⟨cb,co,none⟩) cn cc)/\w.heap.size+1<=wr.heap.size) (fun v _=>cn-(intOf v).toNat)
  case atStart=>exact⟨0,Tt _,rfl,fun i hi=>by omega,HBw.out,d0,d1,d2,hsz2⟩
  case round =>
   clear d0 d1 d2 hsz2 HBw;obtain⟨j,hj,rfl,hnb,hB,e0,e1,e2,Av⟩:=hrel;by_cases hlt:j<cn
   ·have x0:wr.cell? ⟨cb,co+j * 2,none⟩=some (.int .i64 (f.op j)):=((HX.out.2.1.below hB hcb) j hlt).1;have x1:wr.cell? ⟨cb,co+j * 2+1,none⟩=some (.int .i64 (f.ar j)):=((HX.out.2.1.below hB hcb) j hlt).2;have hwr:w.heap.size<wr.heap.size:=by omega
    have HN:Hid ((∀ i,i<j->CF m f i=false)/\Below w.heap.size w wr):=⟨hnb,hB⟩
    have hleg:=MA (f.op j) (f.ar j) lc cn m;have hbad:CF m f j=!Bz (f.op j) (f.ar j) lc cn m:=by unfold CF;rw[HE.out.2.1,HE.out.2.2]
    clear hnb hB;by_cases hkn:0<=f.op j/\f.op j<22
    ·have hkd:decide (0<=f.op j/\f.op j<22)=true:=by simpa using hkn
     rw[hkd,Bool.true_and] at hleg;rw[hleg] at hbad;clear hleg;cases hfit:Gf (f.op j) (f.ar j) lc cn m
     ·rw[hfit] at hbad;have HF:Hid (R=(2,(j:Int))):=by
       unfold Hid;rw[<-HR.out];exact IU (by rw[HE.out.1];exact HX.out.1) (by rw[HE.out.2.2];exact hlt) hbad HN.out.1
      have HFit:=Aa hfit;have HKd:=Aa hkd;clear hfit hkd hbad hkn;generalize f.op j=oj at *;generalize f.ar j=aj at *;go_wp2_with fail
      refine(JX _ _).mono ?_;rintro e w' ⟨rfl,rfl⟩;rw[HKd.out];clear HKd;go_wp2_with fail
      refine(MD _ _ _ _ _ _ _ _ _).mono ?_;rintro e w3 ⟨rfl,hB3⟩;rw[HFit.out];clear HFit;have HB3:=Aa hB3;clear hB3;go_wp2;go_ret2
      rw[HF.out];exact⟨rfl,(HN.out.2.alloc (by omega) _).trans (HB3.out.mono (by simp;omega))⟩
     ·rw[hfit] at hbad;have HF:Hid (∀ i,i<j+1->CF m f i=false):=fun i hi=>by
       by_cases e:i=j
       ·rw[e];exact hbad
       ·exact HN.out.1 i (by omega)
      have HFit:=Aa hfit;have HKd:=Aa hkd;clear hfit hkd hbad hkn;generalize f.op j=oj at *;generalize f.ar j=aj at *;go_wp2_with fail
      refine(JX _ _).mono ?_;rintro e w' ⟨rfl,rfl⟩;rw[HKd.out];clear HKd;go_wp2_with fail
      refine(MD _ _ _ _ _ _ _ _ _).mono ?_;rintro e w3 ⟨rfl,hB3⟩;rw[HFit.out];clear HFit;have HQ:Hid (Below w.heap.size w w3/\w3.cell? ⟨w.heap.size,0,none⟩=some (.int .i64 ag)/\w3.cell? ⟨w.heap.size,1,none⟩=some (.int .i64 lc)/\w3.cell? ⟨w.heap.size,2,none⟩=some (.slice (some ⟨cb,co,none⟩) cn cc)/\w.heap.size+1<=w3.heap.size):=by
       have hB4:Below wr.heap.size wr w3:=((Tu _ _).alloc (Te _) _).trans (hB3.mono (by simp));exact⟨HN.out.2.trans (hB4.mono (by omega)),(hB4.cell (p:=⟨w.heap.size,_,none⟩) hwr).trans e0,(hB4.cell (p:=⟨w.heap.size,_,none⟩) hwr).trans e1,(hB4.cell (p:=⟨w.heap.size,_,none⟩) hwr).trans e2,by have:=hB4.size;omega⟩
      clear hB3;go_wp2;go_roundw
      case rel=>exact⟨j+1,by omega,by go_num,HF.out,HQ.out⟩
      case measure=>simp[intOf];omega
    ·have hkd:decide (0<=f.op j/\f.op j<22)=false:=by simpa using hkn
     rw[hkd,Bool.false_and] at hleg;rw[hleg] at hbad;have HF:Hid (R=(2,(j:Int))):=by
      unfold Hid;rw[<-HR.out];exact IU (by rw[HE.out.1];exact HX.out.1) (by rw[HE.out.2.2];exact hlt) hbad HN.out.1
     have HKd:=Aa hkd;clear hkd hbad hkn hleg;generalize f.op j=oj at *;generalize f.ar j=aj at *;go_wp2_with fail
     refine(JX _ _).mono ?_;rintro e w' ⟨rfl,rfl⟩;rw[HKd.out];clear HKd;go_wp2;go_ret2
     rw[HF.out];exact⟨rfl,HN.out.2.alloc (by omega) _⟩
   ·obtain rfl:j=cn:=by omega
    have HF:Hid (R=Cl j f.op f.ar (j+1) s0):=by
     unfold Hid;rw[<-HR.out,MO (by rw[HE.out.1];exact HX.out.1) (by rw[HE.out.2.2];exact hnb),HE.out.2.2]
    have hcon:=RW cb co cc j f.op f.ar wr (HX.out.2.1.below hB hcb) (by omega) (HX.out.2.2.below hB hw) hn1 hn lc m (fun i hi=>by
     have:=Lh (hnb i hi);rw[HE.out.2.1,HE.out.2.2] at this;exact this)
    rw[<-HF.out] at hcon;have HC:=Aa hcon;have HN:=Aa hB;clear hcon hB hnb;go_wp2_with fail
    refine HC.out.mono ?_;rintro e w3 ⟨rfl,hB3⟩;have HB3:Hid (Below w.heap.size w w3):=HN.out.trans (hB3.mono (by omega));clear hB3 HC;go_wp2;go_ret2
    exact⟨rfl,HB3.out⟩
end
theorem Q5(pb po pc m k:Nat)(f:PF)(ca:Option Addr)(cc:Nat)(w:World)(hf:ED w pb po k f ca cc)(hk:k<m)(hm:m<=8)(ht:Cb w)(hw:0<w.heap.size) :
  Calls prog 49 #[.slice (some ⟨pb,po,none⟩) m pc,.int .i64 k] w fun e w' =>
   e=.returned (.tuple #[.int .i64 (BW m k f).1,.int .i64 (BW m k f).2])/\Below w.heap.size w w':=by
 cases hs:B6 f
 ·exact SU pb po pc m k f ca cc w hf hk hs
 ·by_cases h0:k=0/\f.args≠0
  ·exact SA pb po pc m k f ca cc w hf hk hs h0.1 h0.2
  ·exact Nl pb po pc m k f ca cc w hf hk hm hs h0 ht hw
structure BD (w:World) (pb po m:Nat) (F:Nat->PF) (CA:Nat->Option Addr) (CC:Nat->Nat):Prop where
 lt:pb<w.heap.size
 fn:∀ k,k<m->ED w pb po k (F k) (CA k) (CC k)
section
variable {m:Nat}{F:Nat->PF}
theorem BD.below{w w':World}{B pb po:Nat}{CA:Nat->Option Addr}{CC:Nat->Nat}(h:BD w pb po m F CA CC)(b:Below B w w')(hB:w.heap.size<=B):BD w' pb po m F CA CC :=
 ⟨by have:=b.size;have:=h.lt;omega,fun k hk=>(h.fn k hk).below b hB (by have:=h.lt;omega)⟩
theorem Ix(h:m<1\/8<m):AW m F=(1,0,0):=by unfold AW;rw[if_pos h]
theorem Gj(h:¬(m<1\/8<m)){k:Nat}(hk:k<m)(hb:(BW m k (F k)).1≠0)(hn:∀ i,i<k->B8 m F i=false):AW m F=((BW m k (F k)).1,(k:Int),(BW m k (F k)).2):=by
 unfold AW;rw[if_neg h,GL _ _ _ hk (by simpa [B8] using hb) hn,if_pos hk]
theorem Ji(h:¬(m<1\/8<m))(hn:∀ i,i<m->B8 m F i=false):AW m F=(0,0,0):=by
 unfold AW;rw[if_neg h,Gc _ _ hn,if_neg (by omega)]
theorem OB(p:Option Addr)(pc m:Nat)(F:Nat->PF)(w:World)(h:m<1\/8<m) :
  Calls prog 34 #[.slice p m pc] w fun e w' =>
   e=.returned (.tuple #[.int .i64 (AW m F).1,.int .i64 (AW m F).2.1,.int .i64 (AW m F).2.2])/\Below w.heap.size w w':=by
 rw[Ix h];have hd:decide (1<=(m:Int)/\(m:Int)<=8)=false:=by simp;omega
 have HD:=Aa hd;clear hd h;go_enter func34,ntmps34
 go_wp2_with fail
 refine(Gu _ _ _ _).mono ?_;rintro e w' ⟨rfl,rfl⟩;rw[HD.out];clear HD;go_wp2;go_ret3
 exact⟨rfl,Tu _ _⟩
theorem KD(pb po pc m:Nat)(F:Nat->PF)(CA:Nat->Option Addr)(CC:Nat->Nat)(w:World)(hP:BD w pb po m F CA CC)(h:¬(m<1\/8<m))(ht:Cb w) :
  Calls prog 34 #[.slice (some ⟨pb,po,none⟩) m pc] w fun e w' =>
   e=.returned (.tuple #[.int .i64 (AW m F).1,.int .i64 (AW m F).2.1,.int .i64 (AW m F).2.2])/\Below w.heap.size w w':=by
 have hd:decide (1<=(m:Int)/\(m:Int)<=8)=true:=by simp;omega
 have HD:=Aa hd;have HX:Hid (BD w pb po m F CA CC/\Cb w/\¬(m<1\/8<m)):=⟨hP,ht,h⟩
 have hw:0<w.heap.size:=by have:=hP.lt;omega
 have hm:m<=8:=by omega
 clear hd h hP ht;generalize hR:AW m F=R;have HR:=Aa hR;clear hR;go_enter func34,ntmps34
 go_wp2_with fail
 refine(Gu _ _ _ _).mono ?_;rintro e w1 ⟨rfl,hw1⟩;rw[hw1];clear hw1 w1;rw[HD.out];clear HD;go_wp2;go_loopw [14] (fun v wr=>∃ k:Nat,k<=m/\v=.int .i64 k/\(∀ i,i<k->B8 m F i=false)/\Below w.heap.size w wr) (fun v _=>m-(intOf v).toNat)
 case atStart=>exact⟨0,Tt _,rfl,fun i hi=>by omega,Tu _ _⟩
 case round =>
  obtain⟨k,hk,rfl,hno,hB⟩:=hrel;by_cases hlt:k<m
  ·have hcon:=Q5 pb po pc m k (F k) (CA k) (CC k) wr (((HX.out.1).below hB (Te _)).fn k hlt) hlt hm (HX.out.2.1.below hB hw) (by have:=hB.size;omega);have hbad:=fun h1=>Gj (m:=m) (F:=F) HX.out.2.2 hlt h1 hno
   rcases hfp:BW m k (F k) with⟨er,at'⟩
   rw[hfp] at hcon hbad;simp only at hcon hbad;have HC:=Aa hcon;have HN:Hid ((∀ i,i<k->B8 m F i=false)/\Below w.heap.size w wr/\BW m k (F k)=(er,at')/\(er≠0->AW m F=(er,(k:Int),at'))):=⟨hno,hB,hfp,hbad⟩
   have Av:=hB.size;clear hcon hno hB hfp hbad;go_wp2_with fail
   refine HC.out.mono ?_;rintro e w2 ⟨rfl,hB2⟩;have HB2:Hid (Below w.heap.size w w2):=HN.out.2.1.trans (hB2.mono Av);clear hB2 HC;by_cases her:er=0
   ·subst her;have HY:Hid (∀ i,i<k+1->B8 m F i=false):=fun i hi=>by
     by_cases e:i=k
     ·subst e;unfold B8;rw[HN.out.2.2.1];simp
     ·exact HN.out.1 i (by omega)
    go_wp2;go_roundw
    case rel=>exact⟨k+1,by omega,by go_num,HY.out,HB2.out⟩
    case measure=>simp[intOf];omega
   ·have hb:(er != 0)=true:=by simpa using her
    have HY:Hid (R=(er,(k:Int),at')):=by unfold Hid;rw[<-HR.out];exact HN.out.2.2.2 her
    clear her;go_wp2;go_ret3
    rw[HY.out];exact⟨rfl,HB2.out⟩
  ·obtain rfl:k=m:=by omega
   have HY:Hid (R=(0,0,0)):=by unfold Hid;rw[<-HR.out];exact Ji HX.out.2.2 hno
   have HB2:=Aa hB;clear hno hB;go_wp2;go_ret3
   rw[HY.out];exact⟨rfl,HB2.out⟩
end
theorem Qw(op a ag lc:Int)(ca:Option Addr)(cn cc:Nat)(m:Int)(w:World) :
  Calls prog 96 #[.agg #[.int .i64 op,.int .i64 a],.agg #[.int .i64 ag,.int .i64 lc,.slice ca cn cc],.int .i64 m] w fun e w' =>
   e=.returned (.bool (Bz op a lc cn m))/\Below w.heap.size w w':=by
 by_cases ha:0<=a
 ·by_cases ho:0<=op
  ·go_enter func96,ntmps96
   go_wp2;all_goals go_ret
   all_goals (refine⟨FK ?_,by repeat (first|exact Tu _ _|refine Below.alloc ?_ (by simp<;>omega) _)⟩)
   all_goals (unfold Bz;simp_all<;>omega)
  ·have ho':decide (0<=op)=false:=by simpa using ho
   go_enter func96,ntmps96
   go_wp2;all_goals go_ret
   all_goals (refine⟨FK ?_,by repeat (first|exact Tu _ _|refine Below.alloc ?_ (by simp<;>omega) _)⟩)
   all_goals (unfold Bz;simp_all<;>omega)
 ·have ha':decide (0<=a)=false:=by simpa using ha
  by_cases ho:0<=op
  ·go_enter func96,ntmps96
   go_wp2;all_goals go_ret
   all_goals (refine⟨FK ?_,by repeat (first|exact Tu _ _|refine Below.alloc ?_ (by simp<;>omega) _)⟩)
   all_goals (unfold Bz;simp_all<;>omega)
  ·have ho':decide (0<=op)=false:=by simpa using ho
   go_enter func96,ntmps96
   go_wp2;all_goals go_ret
   all_goals (refine⟨FK ?_,by repeat (first|exact Tu _ _|refine Below.alloc ?_ (by simp<;>omega) _)⟩)
   all_goals (unfold Bz;simp_all<;>omega)
theorem QD(op a:Int)(w:World)(h13:op=13->0<=a/\a<=8) :
  Calls prog 108 #[.agg #[.int .i64 op,.int .i64 a]] w fun e w' =>
   e=.returned (.int .i64 (At op a))/\Below w.heap.size w w':=by
 by_cases h:op=13
 ·obtain⟨a0,a8⟩:=h13 h;clear h13;subst h;go_enter func108,ntmps108
  go_wp2;go_ret;exact⟨JY (by simp[At]),(Tu _ _).alloc (Te _) _⟩
 ·have hb:(op==13)=false:=by simpa using h
  have hp:At op a=A6 op:=by unfold At;rw[if_neg h]
  rw[hp];clear hp h13;go_enter func108,ntmps108
  go_wp2;all_goals go_ret
  all_goals (refine⟨JY ?_,(Tu _ _).alloc (Te _) _⟩)
  all_goals (unfold A6;simp_all)
theorem Jy(op a:Int)(w:World) :
  Calls prog 109 #[.agg #[.int .i64 op,.int .i64 a]] w fun e w' =>
   e=.returned (.int .i64 (Bc op))/\Below w.heap.size w w':=by
 go_enter func109,ntmps109
 go_wp2;all_goals go_ret
 all_goals (refine⟨JY ?_,(Tu _ _).alloc (Te _) _⟩)
 all_goals (unfold Bc;simp_all)
theorem NR(op a:Int)(i:Nat)(w:World)(hi:i<64) :
  Calls prog 110 #[.agg #[.int .i64 op,.int .i64 a],.int .i64 i] w fun e w' =>
   ∃ p c,e=.returned (.slice p (Bj op a i).length c)/\Below w.heap.size w w'/\Ku w w' p (Bj op a i):=by
 by_cases h1:op=14
 ·subst h1;have hl:Bj 14 a i=[]:=by simp[Bj]
  rw[hl];go_enter func110,ntmps110
  go_wp2;go_ret;exact⟨_,_,rfl,(Tu _ _).alloc (Te _) _,Or.inl rfl⟩
 ·have b1:(op==14)=false:=by simpa using h1
  by_cases h2:op=10
  ·subst h2;have hl:Bj 10 a i=[a]:=by simp[Bj]
   rw[hl];clear hl h1;go_enter func110,ntmps110
   go_wp2;go_ret;exact⟨_,_,rfl,((Tu _ _).alloc (Te _) _).alloc (by simp) _,Or.inr ⟨w.heap.size+1,by omega,by simp,rfl,G0 (w.alloc _) a 3 _ (by simp)⟩⟩
  ·have b2:(op==10)=false:=by simpa using h2
   by_cases h3:op=11
   ·subst h3;have hl:Bj 11 a i=[(i:Int)+1,a]:=by simp[Bj]
    rw[hl];clear hl h1;go_enter func110,ntmps110
    go_wp2;go_ret;exact⟨_,_,rfl,((Tu _ _).alloc (Te _) _).alloc (by simp) _,Or.inr ⟨w.heap.size+1,by omega,by simp,rfl,J7 (w.alloc _) _ a 3 _ (by simp)⟩⟩
   ·have b3:(op==11)=false:=by simpa using h3
    have hl:Bj op a i=[(i:Int)+1]:=by simp[Bj,h1,h2,h3]
    rw[hl];clear hl h1 h2 h3;go_enter func110,ntmps110
    go_wp2;go_ret;exact⟨_,_,rfl,((Tu _ _).alloc (Te _) _).alloc (by simp) _,Or.inr ⟨w.heap.size+1,by omega,by simp,rfl,G0 (w.alloc _) _ 3 _ (by simp)⟩⟩
end Go.Proofs.YtkafkipjedpohaaGreatDoor

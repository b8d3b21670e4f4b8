import Derived.Test.YtkafkipjedpohaaGreatDoorZ8
namespace Go.Proofs.YtkafkipjedpohaaGreatDoor
set_option maxRecDepth 100000
set_option maxHeartbeats 16000000
open Go.RowKit _root_.Go.Proofs.Tryz
def Jl(w:World)(k:Mk)(e:Ending)(w':World):Prop :=
 ∃ v L,e=.returned (.agg #[.int .i64 k.seen,v])/\D9 L k.ds v/\Hb L w'/\(∀ t,t∈L->w.heap.size<=t.1)/\Below w.heap.size w w'
theorem MY(w:World)(cb co n cap p:Nat)(f:PF)(m:Int)(hcode:∀ i,i<n->w.cell? ⟨cb,co+i * 2,none⟩=some (.int .i64 (f.op (p+i)))/\w.cell? ⟨cb,co+i * 2+1,none⟩=some (.int .i64 (f.ar (p+i))))(hcb:cb<w.heap.size)(hpn:p+n=f.cn)(hn:n<=64)(hleg:∀ i,i<f.cn->Bz (f.op i) (f.ar i) f.locals f.cn m=true) :
  Calls prog 144 #[.slice (some ⟨cb,co,none⟩) n cap] w (Jl w (BQ f p)):=by
 have hbl0:Below w.heap.size w (w.alloc (.cells #[.int .i64 0,.nilFunc] 183)):=(Tu _ _).alloc (Te _) _;have hst:=Ay.start (w.alloc (.cells #[.int .i64 0,.nilFunc] 183));have hsz0:(w.alloc (.cells #[.int .i64 0,.nilFunc] 183)).heap.size=w.heap.size+1:=by simp
 rw[hsz0] at hst;have hbl1:Below (w.heap.size+1) (w.alloc (.cells #[.int .i64 0,.nilFunc] 183)) ((w.alloc (.cells #[.int .i64 0,.nilFunc] 183)).alloc (.cells #[.slice none 0 0,.slice none 0 0,.int .i64 0,.int .i64 0] 219)):=by
  rw[<-hsz0];exact(Tu _ _).alloc (Te _) _
 have HR0:=Aa (Tv w (.cells #[.int .i64 0,.nilFunc] 183));have HB0:=Aa hbl0;have HST:=Aa (Tc hst hbl1);have HCD:=Aa hcode;have HLG:=Aa (Tc hleg hpn);have HMK:Hid (CZ f n p ⟨[],[],0,0⟩=BQ f p):=Aa (by unfold BQ;rw[show f.cn-p=n by omega]);clear hbl0 hst hsz0 hbl1 hcode hleg;go_enter func144,ntmps144
 go_wp2;go_loopw [10] (fun v wr=>∃ j:Nat,j<=n/\v=.int .i64 j/\∃ L k,Ay wr (w.heap.size+1) (w.heap.size+1) L k/\Below (w.heap.size+1) (w.alloc (.cells #[.int .i64 0,.nilFunc] 183)) wr/\Fc j k/\CZ f (n-j) (p+j) k=BQ f p) (fun v _=>n-(intOf v).toNat)
 case atStart =>
  exact⟨0,by omega,rfl,[],⟨[],[],0,0⟩,HST.out.1,HST.out.2,⟨rfl,by simp,by simp,Te _⟩,HMK.out⟩
 case round =>
  obtain⟨j,hj,rfl,L,k,hA,hB,hS,hK⟩:=hrel;by_cases hlt:j<n
  ·have hdec:decide ((j:Int)<(n:Int))=true:=by simp;omega
   obtain⟨q0,q1⟩:=HCD.out j hlt;have hbw:Below w.heap.size w wr:=HB0.out.trans (hB.mono (by omega));have y0:=(hbw.cell (p:=⟨cb,co+j * 2,none⟩) hcb).trans q0;have y1:=(hbw.cell (p:=⟨cb,co+j * 2+1,none⟩) hcb).trans q1;have hlg:=HLG.out.1 (p+j) (by have:=HLG.out.2;omega);have hun:CZ f (n-j) (p+j) k=if Dv (f.op (p+j))=true then k.turn (f.op (p+j)) (f.ar (p+j)) else CZ f (n-(j+1)) (p+(j+1)) (k.straight (f.op (p+j)) (f.ar (p+j))):=by
    rw[show n-j=(n-(j+1))+1 by omega];rfl
   rw[hun] at hK;have i0:(0:Int)<=(j:Int):=by omega
   have i1:(j:Int)<(n:Int):=by omega
   have hA1:=hA.box #[.int .i64 (f.op (p+j)),.int .i64 (f.ar (p+j))] 33;have hB1:=hB.trans (Bt hA.le.1 (.cells #[.int .i64 (f.op (p+j)),.int .i64 (f.ar (p+j))] 33));have HA:=Aa (Tc hA1 (Tc hB1 (Tc hS (Tc hK hlg))));obtain⟨tb,htb⟩:∃ tb,Dv (f.op (p+j))=tb:=⟨_,rfl⟩
   have HTM:=Aa (fun X=>LI (f.op (p+j)) X);have htb2:decide (f.op (p+j)=10\/f.op (p+j)=11\/f.op (p+j)=13\/f.op (p+j)=14)=tb:=htb;rw[htb2] at HTM;have HTB:=Aa htb;clear hA hB hS hK hlg hA1 hB1 hun q0 q1 hbw htb htb2 HST HMK;generalize f.op (p+j)=op at *;generalize f.ar (p+j)=ar at *;go_wp2_with fail
   have hwz:wr.heap.size<(wr.alloc (.cells #[.int .i64 op,.int .i64 ar] 33)).heap.size:=by simp
   clear y0 y1;refine(HTM.out _).mono ?_;rintro e w1 ⟨rfl,hw1⟩;rw[hw1];clear hw1 w1 HTM;cases tb
   ·have HT:=Aa (PL HA.out.1 (HA.out.2.2.1.sml (by omega)) op ar HA.out.2.2.2.2 HTB.out);go_wp2_with fail
    refine HT.out.mono ?_;rintro e w2 ⟨rfl,L2,hl2,h2,b2⟩;have HQ:=Aa (show ∃ L k,Ay w2 (w.heap.size+1) (w.heap.size+1) L k/\Below (w.heap.size+1) (w.alloc (.cells #[.int .i64 0,.nilFunc] 183)) w2/\Fc (j+1) k/\CZ f (n-(j+1)) (p+(j+1)) k=BQ f p from ⟨L2,k.straight op ar,h2,HA.out.2.1.trans b2,HA.out.2.2.1.straight op ar,by have:=HA.out.2.2.2.1;rw[if_neg (by rw[HTB.out];simp)] at this;exact this⟩);clear h2 b2 hl2 HT HA;go_wp2;exact⟨⟨j+1,by omega,by go_num,HQ.out⟩,by simp[intOf];omega⟩
   ·have HT:=Aa (OJ HA.out.1 (HA.out.2.2.1.sml (by omega)) op ar HA.out.2.2.2.2 HTB.out);go_wp2_with fail
    refine HT.out.mono ?_;rintro e wf ⟨rfl,L2,hl2,h2,b2⟩;have HFin:=Aa (show ∃ Lf,Ay wf (w.heap.size+1) (w.heap.size+1) Lf (BQ f p)/\Below (w.heap.size+1) (w.alloc (.cells #[.int .i64 0,.nilFunc] 183)) wf from ⟨L2,by have:=HA.out.2.2.2.1;rw[if_pos HTB.out] at this;rw[<-this];exact h2,HA.out.2.1.trans b2⟩);clear h2 b2 hl2 HT HA HCD HLG HTB;obtain⟨Lf,af,bf⟩:=HFin.out;obtain⟨pd,cd,c0,hfin⟩:=af.finish;obtain⟨c2,_,_,_⟩:=af.counts;have hr0:wf.heap[w.heap.size]?=some (.cells #[.int .i64 0,.nilFunc] 183 (0,0)):=(bf.block w.heap.size (by omega)).trans HR0.out;have HC:=Aa (Tc c0 (Tc c2 (Tc hr0 (Tc hfin (Tc bf af.le)))));clear c0 c2 hr0 hfin bf af HFin;generalize hkf:BQ f p=kf at *;have hkz:=HC.out.2.2.2.2.2.2.1;go_wp2_with fail
    refine AG (fun w'=>w'.cell? ⟨w.heap.size+1,0,none⟩=some (.slice pd kf.ds.length cd)/\w'.cell? ⟨w.heap.size+1,2,none⟩=some (.int .i64 kf.seen)) TL (by kernel_rfl) (by kernel_rfl) (Co _ _ _) ⟨HC.out.1,HC.out.2.1⟩ ?_;simp only[TL,lexL,Tl,Tm];iterate 8 (refine Aw (by rfl) (by intro w' hS';obtain⟨y0,y1⟩:=hS';go_simp;exact rfl) ?_;simp only[Act.put,Td,Th,Tg])
    have hdr:Below wf.heap.size wf wf.drew:=(Tu _ _).drew;have hkz2:w.heap.size+1<wf.drew.heap.size:=hkz;have hc0:wf.drew.cell? ⟨w.heap.size+1,0,none⟩=some (.slice pd kf.ds.length cd):=HC.out.1;have hc2:wf.drew.cell? ⟨w.heap.size+1,2,none⟩=some (.int .i64 kf.seen):=HC.out.2.1;have HD:=Aa (Tc hdr (Tc hc0 hc2));clear hdr hc0 hc2;generalize hwd:wf.drew=wd at *;have hwsz:wd.heap.size=wf.heap.size:=by rw[<-hwd];rfl
    have HWS:=Aa hwsz;clear hwsz hwd;refine Az (fun K hK=>?_);go_simp;refine(Kz wd pd kf.ds.length cd).mono ?_;rintro e w8 ⟨rfl,hw8⟩;rw[hw8];clear hw8 w8;have hbl8:Below wd.heap.size wd (wd.alloc (.cells #[.slice pd kf.ds.length cd] 216)):=(Tu _ _).alloc (Te _) _;have hz8:wd.heap.size<(wd.alloc (.cells #[.slice pd kf.ds.length cd] 216)).heap.size:=by simp
    refine hK.out _ _ ⟨BH HD.out.2.1 hkz2,BH HD.out.2.2 hkz2⟩ ?_;clear hK K;refine Aw (by rfl) (by intro w' hS';clear hS';go_simp;exact rfl) ?_;simp only[Act.put,Td,Th,Tg];obtain⟨L',hL1,hL2,hL3⟩:=HC.out.2.2.2.1 (wd.alloc (.cells #[.slice pd kf.ds.length cd] 216)) wd.heap.size (HD.out.1.trans (hbl8.mono (by rw[HWS.out];exact Te _))) (by have:=HC.out.2.2.2.2.2.1;rw[HWS.out];exact this) (Tv _ _);have hrd:wd.heap[w.heap.size]?=some (.cells #[.int .i64 0,.nilFunc] 183 (0,0)):=(HD.out.1.block w.heap.size (by omega)).trans HC.out.2.2.1;have hr8:(wd.alloc (.cells #[.slice pd kf.ds.length cd] 216)).heap[w.heap.size]?=some (.cells #[.int .i64 0,.nilFunc] 183 (0,0)):=(hbl8.block w.heap.size (Ah hrd)).trans hrd;have HL:=Aa (Tc hL1 (Tc hL2 hL3));have HBW:=Aa (show Below w.heap.size w (wd.alloc (.cells #[.slice pd kf.ds.length cd] 216)) from by
     have h1:Below w.heap.size w wf:=HB0.out.trans (HC.out.2.2.2.2.1.mono (by omega));exact(h1.trans (HD.out.1.mono (by omega))).trans (hbl8.mono (by rw[HWS.out];omega)))
    have HR8:=Aa hr8;have HZ:=Aa (show w.heap.size<(wd.alloc (.cells #[.slice pd kf.ds.length cd] 216)).heap.size from Ah hr8);have HK1:=Aa (Tc (BH (o:=.cells #[.slice pd kf.ds.length cd] 216) HD.out.2.1 hkz2) (BH (o:=.cells #[.slice pd kf.ds.length cd] 216) HD.out.2.2 hkz2));clear hL1 hL2 hL3 hrd hr8 hbl8 hz8 HC HD;generalize hvb:wd.heap.size=vb at *;generalize wd.alloc (.cells #[.slice pd kf.ds.length cd] 216)=V at *;have x0:V.cell? ⟨w.heap.size,0,none⟩=some (.int .i64 0):=(Ab HR8.out).trans rfl;have x1:V.cell? ⟨w.heap.size,1,none⟩=some .nilFunc:=(Ab HR8.out).trans rfl;have z0:V.frozen? ⟨w.heap.size,0,none⟩=false:=Ax HR8.out;have z1:V.frozen? ⟨w.heap.size,1,none⟩=false:=Ax HR8.out;refine Az (fun K hK=>?_);go_simp;have hkk:¬w.heap.size=w.heap.size+1:=by omega
    refine hK.out _ _ ⟨?_,?_⟩ ?_
    ·rw[To _ _ _ _ hkk,To _ _ _ _ hkk];exact HK1.out.1
    ·rw[To _ _ _ _ hkk,To _ _ _ _ hkk];exact HK1.out.2
    clear hK K x0 x1 z0 z1;have hr9:=AM (o:=1) (AM (o:=0) HR8.out (.int .i64 kf.seen)) (.func (.func 176) #[] #[ptr vb]);have HQ:=Aa (show Jl w kf (.returned (.agg #[.int .i64 kf.seen,.func (.func 176) #[] #[ptr vb]])) ((V.setCell ⟨w.heap.size,0,none⟩ (.int .i64 kf.seen)).setCell ⟨w.heap.size,1,none⟩ (.func (.func 176) #[] #[ptr vb])) from
     ⟨_,L',rfl,HL.out.2.2,fun t ht=>by
      have hne:t.1≠w.heap.size:=by have:=HL.out.1 t ht;omega
      exact((Tx _ _ _ _ hne).trans (Tx _ _ _ _ hne)).trans (HL.out.2.1 t ht),fun t ht=>by have:=HL.out.1 t ht;omega,(HBW.out.setCell (Te _) _).setCell (Te _) _⟩)
    have y0:((V.setCell ⟨w.heap.size,0,none⟩ (.int .i64 kf.seen)).setCell ⟨w.heap.size,1,none⟩ (.func (.func 176) #[] #[ptr vb])).cell? ⟨w.heap.size,0,none⟩=some (.int .i64 kf.seen):=(Ab hr9).trans rfl;have y1:((V.setCell ⟨w.heap.size,0,none⟩ (.int .i64 kf.seen)).setCell ⟨w.heap.size,1,none⟩ (.func (.func 176) #[] #[ptr vb])).cell? ⟨w.heap.size,1,none⟩=some (.func (.func 176) #[] #[ptr vb]):=(Ab hr9).trans rfl;clear hr9;refine AF ?_;go_wp2;exact bodyPost_ret (v:=.agg #[.int .i64 kf.seen,.func (.func 176) #[] #[ptr vb]]) (by simp[results,Tryz.results144,go_sem,y0,y1]) rfl HQ.out
  ·have hdec:decide ((j:Int)<(n:Int))=false:=by simp;omega
   have hkk:k=BQ f p:=by rw[<-hK,show n-j=0 by omega];rfl
   have HFin:=Aa (show ∃ Lf,Ay wr (w.heap.size+1) (w.heap.size+1) Lf (BQ f p)/\Below (w.heap.size+1) (w.alloc (.cells #[.int .i64 0,.nilFunc] 183)) wr from ⟨L,by rw[<-hkk];exact hA,hB⟩);clear hA hB hS hK hkk HCD HLG HST HMK;generalize wr=wf at *;obtain⟨Lf,af,bf⟩:=HFin.out;obtain⟨pd,cd,c0,hfin⟩:=af.finish;obtain⟨c2,_,_,_⟩:=af.counts;have hr0:wf.heap[w.heap.size]?=some (.cells #[.int .i64 0,.nilFunc] 183 (0,0)):=(bf.block w.heap.size (by omega)).trans HR0.out;have HC:=Aa (Tc c0 (Tc c2 (Tc hr0 (Tc hfin (Tc bf af.le)))));clear c0 c2 hr0 hfin bf af HFin;generalize hkf:BQ f p=kf at *;have hkz:=HC.out.2.2.2.2.2.2.1;go_wp2_with fail
   refine AG (fun w'=>w'.cell? ⟨w.heap.size+1,0,none⟩=some (.slice pd kf.ds.length cd)/\w'.cell? ⟨w.heap.size+1,2,none⟩=some (.int .i64 kf.seen)) TL (by kernel_rfl) (by kernel_rfl) (Co _ _ _) ⟨HC.out.1,HC.out.2.1⟩ ?_;simp only[TL,lexL,Tl,Tm];iterate 8 (refine Aw (by rfl) (by intro w' hS';obtain⟨y0,y1⟩:=hS';go_simp;exact rfl) ?_;simp only[Act.put,Td,Th,Tg])
   have hdr:Below wf.heap.size wf wf.drew:=(Tu _ _).drew;have hkz2:w.heap.size+1<wf.drew.heap.size:=hkz;have hc0:wf.drew.cell? ⟨w.heap.size+1,0,none⟩=some (.slice pd kf.ds.length cd):=HC.out.1;have hc2:wf.drew.cell? ⟨w.heap.size+1,2,none⟩=some (.int .i64 kf.seen):=HC.out.2.1;have HD:=Aa (Tc hdr (Tc hc0 hc2));clear hdr hc0 hc2;generalize hwd:wf.drew=wd at *;have hwsz:wd.heap.size=wf.heap.size:=by rw[<-hwd];rfl
   have HWS:=Aa hwsz;clear hwsz hwd;refine Az (fun K hK=>?_);go_simp;refine(Kz wd pd kf.ds.length cd).mono ?_;rintro e w8 ⟨rfl,hw8⟩;rw[hw8];clear hw8 w8;have hbl8:Below wd.heap.size wd (wd.alloc (.cells #[.slice pd kf.ds.length cd] 216)):=(Tu _ _).alloc (Te _) _;have hz8:wd.heap.size<(wd.alloc (.cells #[.slice pd kf.ds.length cd] 216)).heap.size:=by simp
   refine hK.out _ _ ⟨BH HD.out.2.1 hkz2,BH HD.out.2.2 hkz2⟩ ?_;clear hK K;refine Aw (by rfl) (by intro w' hS';clear hS';go_simp;exact rfl) ?_;simp only[Act.put,Td,Th,Tg];obtain⟨L',hL1,hL2,hL3⟩:=HC.out.2.2.2.1 (wd.alloc (.cells #[.slice pd kf.ds.length cd] 216)) wd.heap.size (HD.out.1.trans (hbl8.mono (by rw[HWS.out];exact Te _))) (by have:=HC.out.2.2.2.2.2.1;rw[HWS.out];exact this) (Tv _ _);have hrd:wd.heap[w.heap.size]?=some (.cells #[.int .i64 0,.nilFunc] 183 (0,0)):=(HD.out.1.block w.heap.size (by omega)).trans HC.out.2.2.1;have hr8:(wd.alloc (.cells #[.slice pd kf.ds.length cd] 216)).heap[w.heap.size]?=some (.cells #[.int .i64 0,.nilFunc] 183 (0,0)):=(hbl8.block w.heap.size (Ah hrd)).trans hrd;have HL:=Aa (Tc hL1 (Tc hL2 hL3));have HBW:=Aa (show Below w.heap.size w (wd.alloc (.cells #[.slice pd kf.ds.length cd] 216)) from by
    have h1:Below w.heap.size w wf:=HB0.out.trans (HC.out.2.2.2.2.1.mono (by omega));exact(h1.trans (HD.out.1.mono (by omega))).trans (hbl8.mono (by rw[HWS.out];omega)))
   have HR8:=Aa hr8;have HZ:=Aa (show w.heap.size<(wd.alloc (.cells #[.slice pd kf.ds.length cd] 216)).heap.size from Ah hr8);have HK1:=Aa (Tc (BH (o:=.cells #[.slice pd kf.ds.length cd] 216) HD.out.2.1 hkz2) (BH (o:=.cells #[.slice pd kf.ds.length cd] 216) HD.out.2.2 hkz2));clear hL1 hL2 hL3 hrd hr8 hbl8 hz8 HC HD;generalize hvb:wd.heap.size=vb at *;generalize wd.alloc (.cells #[.slice pd kf.ds.length cd] 216)=V at *;have x0:V.cell? ⟨w.heap.size,0,none⟩=some (.int .i64 0):=(Ab HR8.out).trans rfl;have x1:V.cell? ⟨w.heap.size,1,none⟩=some .nilFunc:=(Ab HR8.out).trans rfl;have z0:V.frozen? ⟨w.heap.size,0,none⟩=false:=Ax HR8.out;have z1:V.frozen? ⟨w.heap.size,1,none⟩=false:=Ax HR8.out;refine Az (fun K hK=>?_);go_simp;have hkk:¬w.heap.size=w.heap.size+1:=by omega
   refine hK.out _ _ ⟨?_,?_⟩ ?_
   ·rw[To _ _ _ _ hkk,To _ _ _ _ hkk];exact HK1.out.1
   ·rw[To _ _ _ _ hkk,To _ _ _ _ hkk];exact HK1.out.2
   clear hK K x0 x1 z0 z1;have hr9:=AM (o:=1) (AM (o:=0) HR8.out (.int .i64 kf.seen)) (.func (.func 176) #[] #[ptr vb]);have HQ:=Aa (show Jl w kf (.returned (.agg #[.int .i64 kf.seen,.func (.func 176) #[] #[ptr vb]])) ((V.setCell ⟨w.heap.size,0,none⟩ (.int .i64 kf.seen)).setCell ⟨w.heap.size,1,none⟩ (.func (.func 176) #[] #[ptr vb])) from
    ⟨_,L',rfl,HL.out.2.2,fun t ht=>by
     have hne:t.1≠w.heap.size:=by have:=HL.out.1 t ht;omega
     exact((Tx _ _ _ _ hne).trans (Tx _ _ _ _ hne)).trans (HL.out.2.1 t ht),fun t ht=>by have:=HL.out.1 t ht;omega,(HBW.out.setCell (Te _) _).setCell (Te _) _⟩)
   have y0:((V.setCell ⟨w.heap.size,0,none⟩ (.int .i64 kf.seen)).setCell ⟨w.heap.size,1,none⟩ (.func (.func 176) #[] #[ptr vb])).cell? ⟨w.heap.size,0,none⟩=some (.int .i64 kf.seen):=(Ab hr9).trans rfl;have y1:((V.setCell ⟨w.heap.size,0,none⟩ (.int .i64 kf.seen)).setCell ⟨w.heap.size,1,none⟩ (.func (.func 176) #[] #[ptr vb])).cell? ⟨w.heap.size,1,none⟩=some (.func (.func 176) #[] #[ptr vb]):=(Ab hr9).trans rfl;clear hr9;refine AF ?_;go_wp2;exact bodyPost_ret (v:=.agg #[.int .i64 kf.seen,.func (.func 176) #[] #[ptr vb]]) (by simp[results,Tryz.results144,go_sem,y0,y1]) rfl HQ.out
def D6(L:Bxs)(f:PF)(v:Value):Prop :=
 ∃ vb cap arr,v=.slice (some ⟨vb,0,none⟩) f.cn cap/\(vb,arr,183)∈L/\∀ p,p<f.cn->arr[p * 2]?=some (.int .i64 (BQ f p).seen)/\∃ vd,arr[p * 2+1]?=some vd/\D9 L (BQ f p).ds vd
theorem D6.mono{L L':Bxs}{f:PF}{v:Value}(h:D6 L f v)(hl:∀ t,t∈L->t∈L'):D6 L' f v:=by
 obtain⟨vb,cap,arr,h1,h2,h3⟩:=h;refine⟨vb,cap,arr,h1,hl _ h2,fun p hp=>?_⟩;obtain⟨a1,vd,a2,a3⟩:=h3 p hp;exact⟨a1,vd,a2,a3.mono hl⟩
def Kq(w:World)(f:PF)(e:Ending)(w':World):Prop :=
 ∃ v L,e=.returned v/\D6 L f v/\Hb L w'/\(∀ t,t∈L->w.heap.size<=t.1)/\Below w.heap.size w w'
theorem Tryz.infoStr:(prog.info? 183).map (fun i=>(i.zero,i.size,i.bytes))=some (some (.agg #[.int .i64 0,.nilFunc]),2,16):=by kernel_rfl
theorem QB{cur:Array Value}{j n:Nat}(hs:cur.size=n * 2)(hj:j<n)(x y:Value):((cur.setIfInBounds (j * 2) x).setIfInBounds (j * 2+1) y).size=n * 2/\((cur.setIfInBounds (j * 2) x).setIfInBounds (j * 2+1) y)[j * 2]?=some x/\((cur.setIfInBounds (j * 2) x).setIfInBounds (j * 2+1) y)[j * 2+1]?=some y/\∀ i,i≠j->((cur.setIfInBounds (j * 2) x).setIfInBounds (j * 2+1) y)[i * 2]?=cur[i * 2]?/\((cur.setIfInBounds (j * 2) x).setIfInBounds (j * 2+1) y)[i * 2+1]?=cur[i * 2+1]?:=by
 refine⟨by simpa using hs,?_,?_,fun i hi=>⟨?_,?_⟩⟩
 ·rw[Array.getElem?_setIfInBounds_ne (by omega),Array.getElem?_setIfInBounds_self_of_lt (by omega)]
 ·rw[Array.getElem?_setIfInBounds_self_of_lt (by simp;omega)]
 ·rw[Array.getElem?_setIfInBounds_ne (by omega),Array.getElem?_setIfInBounds_ne (by omega)]
 ·rw[Array.getElem?_setIfInBounds_ne (by omega),Array.getElem?_setIfInBounds_ne (by omega)]
def IB(w:World)(f:PF)(n j:Nat)(wr:World):Prop :=
 ∃ cur L,wr.heap[w.heap.size]?=some (.cells cur 183 (0,0))/\cur.size=n * 2/\(∀ i,i<j->cur[i * 2]?=some (.int .i64 (BQ f i).seen)/\∃ vd,cur[i * 2+1]?=some vd/\D9 L (BQ f i).ds vd)/\Hb L wr/\(∀ t,t∈L->w.heap.size+1<=t.1)/\Below w.heap.size w wr
theorem OT(w:World)(cb co cap n:Nat)(f:PF)(m:Int)(hfn:f.cn=n)(hcode:∀ i,i<n->w.cell? ⟨cb,co+i * 2,none⟩=some (.int .i64 (f.op i))/\w.cell? ⟨cb,co+i * 2+1,none⟩=some (.int .i64 (f.ar i)))(hcb:cb<w.heap.size)(hn:n<=64)(hc:n<=cap)(hleg:∀ i,i<f.cn->Bz (f.op i) (f.ar i) f.locals f.cn m=true) :
  Calls prog 125 #[.slice (some ⟨cb,co,none⟩) n cap] w (Kq w f):=by
 have hmk:=fun wx=>Fo (P:=prog) 136 183 _ _ 2 16 underlying136 Tryz.infoStr rfl .i64 .i64 n (by omega) (by omega) wx
 have hbl0:Below w.heap.size w (w.alloc (.cells (madeCells #[.int .i64 0,.nilFunc] (n * 2)) 183)):=(Tu _ _).alloc (Te _) _;have HST:=Aa (show IB w f n 0 (w.alloc (.cells (madeCells #[.int .i64 0,.nilFunc] (n * 2)) 183)) from ⟨_,[],Tv _ _,by simp[size_madeCells],fun i hi=>absurd hi (Nat.not_lt_zero _),fun t ht=>absurd ht List.not_mem_nil,fun t ht=>absurd ht List.not_mem_nil,hbl0⟩);have HCD:=Aa (Tc hcode (Tc hleg hfn));clear hbl0 hcode hleg hfn;go_enter func125,ntmps125
 go_wp2;clear hmk;go_loopw [10] (fun v wr=>∃ j:Nat,j<=n/\v=.int .i64 j/\IB w f n j wr) (fun v _=>n-(intOf v).toNat)
 case atStart =>
  exact⟨0,by omega,rfl,HST.out⟩
 case round =>
  obtain⟨j,hj,rfl,hI⟩:=hrel;by_cases hlt:j<n
  ·have hdec:decide ((j:Int)<(n:Int))=true:=by simp;omega
   have hbw:=hI.choose_spec.choose_spec.2.2.2.2.2;have hcbr:cb<wr.heap.size:=by have:=hbw.size;omega
   have HT:=Aa (MY wr cb (co+j * 2) (n-j) (cap-j) j f m (fun i hi=>by
    obtain⟨q0,q1⟩:=HCD.out.1 (j+i) (by omega);refine⟨?_,?_⟩
    ·rw[show co+j * 2+i * 2=co+(j+i) * 2 by omega];exact(hbw.cell (p:=⟨cb,co+(j+i) * 2,none⟩) hcb).trans q0
    ·rw[show co+j * 2+i * 2+1=co+(j+i) * 2+1 by omega];exact(hbw.cell (p:=⟨cb,co+(j+i) * 2+1,none⟩) hcb).trans q1) hcbr (by rw[HCD.out.2.2];omega) (by omega) HCD.out.2.1)
   have HI:=Aa hI;have i0:(0:Int)<=(j:Int):=by omega
   have i1:(j:Int)<(n:Int):=by omega
   have i2:(j:Int)<=(n:Int):=by omega
   have i3:(n:Int)<=(cap:Int):=by omega
   clear hI hbw HST;go_wp2_with fail
   refine HT.out.mono ?_;rintro e w2 ⟨vd,L2,rfl,hsv,hb2,hB2,hbl2⟩;obtain⟨cur,L,h1,h2,h3,h4,h5,h6⟩:=HI.out;have hz:=Ah h1;have h1':=(hbl2.block w.heap.size hz).trans h1;obtain⟨u0,hu0⟩:∃ u,cur[j * 2]?=some u:=⟨_,Array.getElem?_eq_getElem (by omega)⟩
   obtain⟨u1,hu1⟩:∃ u,cur[j * 2+1]?=some u:=⟨_,Array.getElem?_eq_getElem (by omega)⟩
   have x0:w2.cell? ⟨w.heap.size,j * 2,none⟩=some u0:=(Ab h1').trans hu0;have x1:w2.cell? ⟨w.heap.size,j * 2+1,none⟩=some u1:=(Ab h1').trans hu1;have z0:w2.frozen? ⟨w.heap.size,j * 2,none⟩=false:=Ax h1';have z1:w2.frozen? ⟨w.heap.size,j * 2+1,none⟩=false:=Ax h1';have HN:=Aa (show IB w f n (j+1) ((w2.setCell ⟨w.heap.size,j * 2,none⟩ (.int .i64 (BQ f j).seen)).setCell ⟨w.heap.size,j * 2+1,none⟩ vd) from by
    obtain⟨s1,s2,s3,s4⟩:=QB h2 hlt (.int .i64 (BQ f j).seen) vd;refine⟨_,L++L2,AM (AM h1' _) _,s1,fun i hi=>?_,fun t ht=>?_,fun t ht=>?_,((h6.trans (hbl2.mono h6.size)).setCell (Te _) _).setCell (Te _) _⟩
    ·by_cases e:i=j
     ·subst e;exact⟨s2,vd,s3,hsv.mono (fun t ht=>List.mem_append.2 (Or.inr ht))⟩
     ·obtain⟨a1,vd',a2,a3⟩:=h3 i (by omega);obtain⟨b1,b2⟩:=s4 i e;exact⟨b1.trans a1,vd',b2.trans a2,a3.mono (fun t ht=>List.mem_append.2 (Or.inl ht))⟩
    ·have hne:t.1≠w.heap.size:=by
      rcases List.mem_append.1 ht with ht|ht
      ·have:=h5 t ht;omega
      ·have:=hB2 t ht;omega
     refine((Tx _ _ _ _ hne).trans (Tx _ _ _ _ hne)).trans ?_;rcases List.mem_append.1 ht with ht|ht
     ·exact(hbl2.block t.1 (Ah (h4 t ht))).trans (h4 t ht)
     ·exact hb2 t ht
    ·rcases List.mem_append.1 ht with ht|ht
     ·exact h5 t ht
     ·have:=hB2 t ht;omega)
   obtain⟨bv,rfl,_⟩:=hsv;generalize (BQ f j).seen=sn at *;clear h1 h1' h2 h3 h4 h5 h6 hb2 hB2 hbl2 hu0 hu1 HT HI;go_wp2;exact⟨⟨j+1,by omega,by go_num,HN.out⟩,by simp[intOf];omega⟩
  ·have hdec:decide ((j:Int)<(n:Int))=false:=by simp;omega
   obtain rfl:j=n:=by omega
   have HQ:=Aa (show Kq w f (.returned (.slice (some ⟨w.heap.size,0,none⟩) j j)) wr from by
    obtain⟨cur,L,h1,h2,h3,h4,h5,h6⟩:=hI;refine⟨_,(w.heap.size,cur,183)::L,rfl,⟨w.heap.size,j,cur,by rw[HCD.out.2.2],Ti,fun p hp=>?_⟩,fun t ht=>?_,fun t ht=>?_,h6⟩
    ·rw[HCD.out.2.2] at hp;obtain⟨a1,vd,a2,a3⟩:=h3 p hp;exact⟨a1,vd,a2,a3.mono (fun t ht=>Tf _ ht)⟩
    ·rcases List.mem_cons.1 ht with rfl|ht
     ·exact h1
     ·exact h4 t ht
    ·rcases List.mem_cons.1 ht with rfl|ht
     ·exact Te _
     ·have:=h5 t ht;omega)
   clear hI;go_wp2;go_ret;exact HQ.out
variable {m:Nat} {F:Nat->PF} {K:Nat->Nat->Bool} {H:Nat->Nat->Int}
structure Ev where
 st:Int
 k:Int
 n:Int
def BN(F:Nat->PF):List Ev->Mc->Mc × List Ev
 |[],s=>(s,[])
 |e::r,s=>if e.st<=s.steps then BN F r (Bu F e.k e.n s) else (s,e::r)
def AO(F:Nat->PF)(s0:Mc)(E0:List Ev):Nat->Mc × List Ev
 |0=>BN F E0 s0
 |n+1=>if (AO F s0 E0 n).1.fin=0 then (if (AA F (AO F s0 E0 n).1).fin=0 then BN F (AO F s0 E0 n).2 (AA F (AO F s0 E0 n).1) else (AA F (AO F s0 E0 n).1,(AO F s0 E0 n).2)) else AO F s0 E0 n
def CY(m:Nat)(e:Ev):Prop:=0<=e.st/\(e.k=1\/e.k=2\/e.k=3\/e.k=4)/\(e.k<=2->0<=e.n/\e.n<m)
def Cv(a:Int):List Ev->Prop
 |[]=>True
 |e::r=>a<=e.st/\Cv e.st r
theorem Cv.mono{a b:Int}{E:List Ev}(h:Cv a E)(hb:b<=a):Cv b E:=by
 cases E with
 |nil=>trivial
 |cons e r=>exact⟨by have:=h.1;omega,h.2⟩
theorem L6(all:Bool)(n:Int):∀ (fr:List Fr) (hs:List Bool),(D2 all n fr hs).1.length=hs.length
 |[],hs=>by cases hs<;>rfl
 |_::_,[]=>rfl
 |f::fr,h::hs=>by
  unfold D2;dsimp only;have:=L6 all n fr hs;split<;>simp[this]
structure Cm (s s':Mc):Prop where
 fr:s'.fr=s.fr
 arr:s'.arr=s.arr
 out:s'.out=s.out
 gives:s'.gives=s.gives
 steps:s'.steps=s.steps
 fin:s'.fin=s.fin
 hl:s'.high.length=s.high.length
 cH:s'.cH=s.cH
theorem Cm.refl(s:Mc):Cm s s:=⟨rfl,rfl,rfl,rfl,rfl,rfl,rfl,rfl⟩
theorem Cm.trans{s t u:Mc}(h:Cm s t)(k:Cm t u):Cm s u:=⟨k.fr.trans h.fr,k.arr.trans h.arr,k.out.trans h.out,k.gives.trans h.gives,k.steps.trans h.steps,k.fin.trans h.fin,k.hl.trans h.hl,k.cH.trans h.cH⟩
theorem G5(kd n:Int)(s:Mc)(hl:s.high.length=s.fr.length):Cm s (Bu F kd n s):=by
 unfold Bu;split
 ·exact⟨rfl,rfl,rfl,rfl,rfl,rfl,rfl,rfl⟩
 ·split
  ·split
   ·exact Cm.refl s
   ·rename_i f r hfr;split
    ·refine⟨hfr ▸ rfl,rfl,rfl,rfl,rfl,rfl,?_,rfl⟩;show (true::s.high.drop 1).length=_;rw[hfr] at hl;simp at hl;simp;omega
    ·exact Cm.refl s
  ·exact⟨rfl,rfl,rfl,rfl,rfl,rfl,L6 _ _ _ _,rfl⟩
theorem Fe:∀ (E:List Ev) (s:Mc),s.high.length=s.fr.length->Cm s (BN F E s).1
 |[],s,_=>Cm.refl s
 |e::r,s,hl=>by
  unfold BN;split
  ·have h1:=G5 (F:=F) e.k e.n s hl;exact h1.trans (Fe r _ (by rw[h1.hl,h1.fr];exact hl))
  ·exact Cm.refl s
theorem Cm.inv{s s':Mc}(h:Cm s s')(hI:BS m F K H s):BS m F K H s':=by
 obtain⟨⟨f,rest,h1,h2,h3,h4⟩,h5,h6,h7⟩:=hI;exact⟨⟨f,rest,h.fr.trans h1,by rw[h.arr];exact h2,by rw[h.arr];exact h3,h4⟩,by rw[h.hl,h.fr];exact h5,by rw[h.arr];exact h6,by rw[h.arr];exact h7⟩
theorem Cm.low{s s':Mc}(h:Cm s s')(hl:Cw H s):Cw H s':=fun g hg=>hl g (by rw[<-h.fr];exact hg)
theorem Cm.bd{s s':Mc}(h:Cm s s')(hb:Bd s):Bd s':=⟨by rw[h.out,h.steps];exact hb.out,by rw[h.arr,h.steps];exact hb.arr,by rw[h.cH,h.steps];exact hb.cH⟩
theorem ME:∀ (E:List Ev) (s:Mc) (a:Int),Cv a E->s.high.length=s.fr.length->Cv (s.steps+1) (BN F E s).2/\∀ e,e∈(BN F E s).2->e∈E
 |[],s,a,_,_=>⟨trivial,fun e he=>he⟩
 |e::r,s,a,h,hl=>by
  unfold BN;split
  ·have h1:=G5 (F:=F) e.k e.n s hl;obtain⟨h2,h3⟩:=ME r (Bu F e.k e.n s) e.st h.2 (by rw[h1.hl,h1.fr];exact hl);rw[h1.steps] at h2;exact⟨h2,fun e' he=>Tf _ (h3 e' he)⟩
  ·exact⟨⟨by omega,h.2⟩,fun e he=>he⟩
structure Gh (m:Nat) (F:Nat->PF) (K:Nat->Nat->Bool) (H:Nat->Nat->Int) (n:Nat) (x:Mc × List Ev):Prop where
 go:x.1.fin=0->BS m F K H x.1/\Cw H x.1/\Bd x.1/\x.1.steps=n/\Cv (n+1) x.2
 ok:∀ e,e∈x.2->CY m e
 fin:x.1.fin=0\/x.1.fin=1\/(3<=x.1.fin/\x.1.fin<=8)
 fr:x.1.fr=[]↔x.1.fin=1
 le:x.1.steps<=n
theorem LF{n:Nat}{E:List Ev}{s:Mc}{a:Int}(hI:BS m F K H s)(h16:Cw H s)(hb:Bd s)(hs:s.steps=n)(h0:s.fin=0)(hr:Cv a E)(hok:∀ e,e∈E->CY m e):Gh m F K H n (BN F E s):=by
 have hc:=Fe (F:=F) E s hI.highs;obtain⟨h1,h2⟩:=ME (F:=F) E s a hr hI.highs;rw[hs] at h1;refine⟨fun _=>⟨hc.inv hI,hc.low h16,hc.bd hb,hc.steps.trans hs,h1⟩,fun e he=>hok e (h2 e he),Or.inl (hc.fin.trans h0),⟨fun e=>absurd (hc.fr.symm.trans e) hI.some,fun e=>by rw[hc.fin,h0] at e;exact absurd e (by decide)⟩,by rw[hc.steps,hs];exact Te _⟩
theorem LA(hF:AP m F K H){s0:Mc}{E0:List Ev}(hI:BS m F K H s0)(h16:Cw H s0)(hb:Bd s0)(hs:s0.steps=0)(h0:s0.fin=0)(hr:Cv 0 E0)(hok:∀ e,e∈E0->CY m e):∀ n,Gh m F K H n (AO F s0 E0 n)
 |0=>LF hI h16 hb hs h0 hr hok
 |n+1=>by
  have ih:=LA hF hI h16 hb hs h0 hr hok n;unfold AO;generalize AO F s0 E0 n=x at *;split
  ·rename_i hz;obtain⟨i1,i2,i3,i4,i5⟩:=ih.go hz;have hst:=Fb (F:=F) hz i1.some;obtain⟨f,rest,hfr,_⟩:=i1.top;split
   ·rename_i h1;exact LF (EH hF i1 h1) (FP hF i1 i2 h1) (Bd.step i3 hz hfr) (by rw[hst.steps,i4]) h1 i5 ih.ok
   ·rename_i h1;exact⟨fun e=>absurd e h1,ih.ok,hst.fin,hst.fr,by rw[hst.steps,i4];omega⟩
  ·rename_i hz;exact⟨fun e=>absurd e hz,ih.ok,ih.fin,ih.fr,by have:=ih.le;omega⟩
theorem SY{E:List Ev}{s:Mc}(h:Cv (s.steps+1) E):BN F E s=(s,E):=by
 cases E with
 |nil=>rfl
 |cons e r =>
  unfold BN;rw[if_neg (by have:=h.1;omega)]
theorem IQ{s0:Mc}{E0:List Ev}{n:Nat}(h:(AO F s0 E0 n).1.fin≠0):∀ k,n<=k->AO F s0 E0 k=AO F s0 E0 n
 |0,hk=>by
  obtain rfl:n=0:=by omega
  rfl
 |k+1,hk=>by
  by_cases e:n=k+1
  ·rw[e]
  ·have ih:=IQ h k (by omega);show (if (AO F s0 E0 k).1.fin=0 then _ else AO F s0 E0 k)=_;rw[ih,if_neg h]
theorem Lb(hF:AP m F K H){s0:Mc}{E0:List Ev}(hA:∀ n,Gh m F K H n (AO F s0 E0 n)):∀ (n j:Nat) (s t:Mc) (E:List Ev),AO F s0 E0 j=(s,E)->s.fin=0->Ew F n s t->1<=n->(E≠[]->(j:Int)+n<=(E.headD ⟨0,0,0⟩).st) ->
  AO F s0 E0 (j+n)=if t.fin=0 then BN F E t else (t,E)
 |0,_,_,_,_,_,_,_,h,_=>by omega
 |n+1,j,s,t,E,he,hz,hst,_,hE=>by
  cases hst with
  |more h0 hst =>
   have hj:=hA j;rw[he] at hj;obtain⟨i1,i2,i3,i4,i5⟩:=hj.go hz;have hsf:=Fb (F:=F) hz i1.some;have e1:AO F s0 E0 (j+1)=if (AA F s).fin=0 then BN F E (AA F s) else (AA F s,E):=by
    show (if (AO F s0 E0 j).1.fin=0 then _ else _)=_;rw[he,if_pos hz]
   cases n with
   |zero =>
    cases hst with
    |none=>exact e1
   |succ n =>
    have h1:(AA F s).fin=0:=by cases hst with|more h0 _=>exact h0
    rw[if_pos h1] at e1;have hr:Cv ((AA F s).steps+1) E:=by
     rw[hsf.steps,i4];cases E with
     |nil=>trivial
     |cons e r =>
      have:=hE (by simp);simp only[List.headD_cons] at this;exact⟨by omega,i5.2⟩
    rw[SY hr] at e1;have:=Lb hF hA (n+1) (j+1) (AA F s) t E e1 h1 hst (by omega) (fun h=>by have:=hE h;omega);rw[show j+(n+1+1)=j+1+(n+1) by omega];exact this
end Go.Proofs.YtkafkipjedpohaaGreatDoor

import Derived.Test.YtkafkipjedpohaaGreatDoorW2
namespace Go.Proofs.YtkafkipjedpohaaGreatDoor
set_option maxRecDepth 100000
set_option maxHeartbeats 16000000
open Go.RowKit _root_.Go.Proofs.Tryz
theorem JI(E:List Ev)(k j:Nat):∃ n,Ct E k j=.int .i64 n:=by
 unfold Ct DW;repeat' split
 all_goals exact⟨_,rfl⟩
theorem KK(w:World)(E:List Ev)(v:Value)(hE:Bs w w.heap.size v E)(hl:E.length<=5864062014805)(b:Nat)(hb:w.rowIs b 65 ((E.length+2) * 3) (Ct E (E.length+2))) :
  Calls prog 84 #[.slice (some ⟨b,0,none⟩) (E.length+2) (E.length+2),v] w fun e w'=>e=.returned (.bool true)/\Below w.heap.size w w':=by
 have HT:=Aa (II w E v hE hl);obtain⟨p,c,rfl,_⟩:=id hE;have HB:=Aa hb;clear hE hb;generalize hn:E.length=n at *;have HN:=Aa hn;clear hn;go_enter func84,ntmps84
 go_wp2_with fail
 refine HT.out.mono ?_;rintro e w2 ⟨rfl,hB2,hR2⟩;have H2:=Aa (Tc hB2 hR2);clear hB2 hR2 HT;go_wp2;go_loopw [6] (fun v wr=>∃ k:Nat,k<=n+2/\v=.int .i64 k/\Below w2.heap.size w2 wr) (fun v _=>n+2-(intOf v).toNat)
 case atStart=>exact⟨0,Tt _,rfl,Tu _ _⟩
 case round =>
  obtain⟨k,hk,rfl,hBr⟩:=hrel;by_cases hlt:k<n+2
  ·have d1:decide ((k:Int)<(n:Int)+2)=true:=by simp;omega
   obtain⟨cur,hcur,_,hca⟩:=H2.out.2;obtain⟨cu2,hcu2,_,hc2⟩:=HB.out;have hbz:b<w.heap.size:=Ah hcu2;have f2:=(H2.out.1.block b hbz).trans hcu2;have g1:=(hBr.block _ (Ah hcur)).trans hcur;have g2:=(hBr.block _ (Ah f2)).trans f2;obtain⟨n0,t0⟩:=JI E (n+2) (k * 3);obtain⟨n1,t1⟩:=JI E (n+2) (k * 3+1);obtain⟨n2,t2⟩:=JI E (n+2) (k * 3+2);have y0:wr.cell? ⟨w.heap.size,k * 3,none⟩=some (.int .i64 n0):=by rw[<-t0];exact(Ab g1).trans (hca _ (by omega))
   have y1:wr.cell? ⟨w.heap.size,k * 3+1,none⟩=some (.int .i64 n1):=by rw[<-t1];exact(Ab g1).trans (hca _ (by omega))
   have y2:wr.cell? ⟨w.heap.size,k * 3+2,none⟩=some (.int .i64 n2):=by rw[<-t2];exact(Ab g1).trans (hca _ (by omega))
   have x0:wr.cell? ⟨b,k * 3,none⟩=some (.int .i64 n0):=by rw[<-t0];exact(Ab g2).trans (hc2 _ (by omega))
   have x1:wr.cell? ⟨b,k * 3+1,none⟩=some (.int .i64 n1):=by rw[<-t1];exact(Ab g2).trans (hc2 _ (by omega))
   have x2:wr.cell? ⟨b,k * 3+2,none⟩=some (.int .i64 n2):=by rw[<-t2];exact(Ab g2).trans (hc2 _ (by omega))
   have i0:(0:Int)<=(k:Int):=by omega
   have i1:(k:Int)<(n:Int)+2:=by omega
   have e1:(n0==n0)=true:=by simp
   have e2:(n1==n1)=true:=by simp
   have e3:(n2==n2)=true:=by simp
   have HBr:=Aa hBr;clear hcur hca hcu2 hc2 hbz f2 g1 g2 t0 t1 t2 hBr;go_wp2_with fail
   go_quiet (fail)
   go_wp2;go_roundw
   case rel=>exact⟨k+1,by omega,by go_num,below_drewN HBr.out _⟩
   case measure=>simp[intOf];omega
  ·have d1:decide ((k:Int)<(n:Int)+2)=false:=by simp;omega
   have HQ:=Aa (H2.out.1.trans (hBr.mono H2.out.1.size));clear hBr;go_wp2;go_ret;exact⟨rfl,HQ.out⟩
def DG:Int->List Ev->Int
 |a,[]=>a
 |_,e::r=>DG e.st r
theorem Jm(a:Int):∀ (E:List Ev) (i:Nat),i<E.length->DG a (E.take (i+1))=(E.getD i ⟨0,0,0⟩).st
 |[],_,h=>by simp at h
 |e::r,0,_=>rfl
 |e::r,i+1,h=>by
  show DG e.st (r.take (i+1))=_;rw[Jm e.st r i (by simpa using h)];rfl
theorem JZ(w:World)(v:Value)(E:List Ev)(hE:Bs w w.heap.size v E)(m:Int) :
  Calls prog 85 #[v,.int .i64 m] w fun r w'=>r=.returned (.bool (decide (BR m E=0)))/\Below w.heap.size w w':=by
 obtain⟨p,c,rfl,hc,hcells⟩:=hE;unfold BR;by_cases h200:200<E.length
 ·rw[if_pos h200];have hd:decide ((200:Int)<(E.length:Int))=true:=by simp;omega
  clear hcells;generalize E.length=n at *;go_enter func85,ntmps85
  go_wp2;go_ret;exact⟨rfl,Tu _ _⟩
 ·rw[if_neg h200];have hd:decide ((200:Int)<(E.length:Int))=false:=by simp;omega
  have HC:=Aa hcells;clear hcells;obtain⟨R,hR⟩:∃ R:Bool,R=decide ((if BL m 0 E=true then (0:Int) else 5)=0):=⟨_,rfl⟩
  have hRe:R=BL m 0 E:=by rw[hR];cases BL m 0 E<;>rfl
  rw[<-hR];have HR:=Aa hRe;clear hR hRe;go_enter func85,ntmps85
  go_wp2;go_loopw [5] (fun v wr=>∃ k:Nat,k<=E.length/\v=.int .i64 k/\BL m 0 E=BL m (DG 0 (E.take k)) (E.drop k)/\0<=DG 0 (E.take k)/\Below w.heap.size w wr) (fun v _=>E.length-(intOf v).toNat)
  case atStart=>exact⟨0,Tt _,rfl,rfl,Int.le_refl _,Tu _ _⟩
  case round =>
   obtain⟨k,hk,rfl,hno,hz0,hB⟩:=hrel;by_cases hlt:k<E.length
   ·obtain⟨eb,eo,rfl,heb,hcs⟩:=HC.out (by intro e;rw[e] at hlt;simp at hlt);obtain⟨k0,k1,k2⟩:=hcs k hlt;have hpr:0<k->w.cell? ⟨eb,eo+(k-1) * 3,none⟩=some (.int .i64 (DG 0 (E.take k))):=fun h1=>by
     obtain⟨j,rfl⟩:∃ j,k=j+1:=⟨k-1,by omega⟩
     rw[Jm 0 E j (by omega)];exact(hcs j (by omega)).1
    have h00:k=0->DG 0 (E.take k)=0:=fun h=>by rw[h];rfl
    have hdr:E.drop k=E.getD k ⟨0,0,0⟩::E.drop (k+1):=by
     rw[List.drop_eq_getElem_cons hlt,Tj,List.getElem?_eq_getElem hlt];rfl
    have hnx:=Jm 0 E k hlt;rw[hdr] at hno;generalize E.getD k ⟨0,0,0⟩=ev at *;have hno':BL m 0 E=(!(decide (ev.st<DG 0 (E.take k)))&&BO m ev&&BL m ev.st (E.drop (k+1))):=hno;generalize DG 0 (E.take k)=x at *;have HB:=Aa hB;have hd1:decide ((k:Int)<(E.length:Int))=true:=by simp;omega
    have HS:=Aa (fun (w':World) (hb:Below w.heap.size w w')=>(show w'.cell? ⟨eb,eo+k * 3,none⟩=some (.int .i64 ev.st)/\w'.cell? ⟨eb,eo+k * 3+1,none⟩=some (.int .i64 ev.k)/\w'.cell? ⟨eb,eo+k * 3+2,none⟩=some (.int .i64 ev.n)/\(0<k->w'.cell? ⟨eb,eo+(k-1) * 3,none⟩=some (.int .i64 x)) from ⟨(hb.cell (p:=⟨eb,eo+k * 3,none⟩) heb).trans k0,(hb.cell (p:=⟨eb,eo+k * 3+1,none⟩) heb).trans k1,(hb.cell (p:=⟨eb,eo+k * 3+2,none⟩) heb).trans k2,fun h=>(hb.cell (p:=⟨eb,eo+(k-1) * 3,none⟩) heb).trans (hpr h)⟩));have HN:=Aa (Tc hno' (Tc hnx (Tc hz0 h00)));clear hno hno' hB hdr k0 k1 k2 hcs hpr hnx hz0 h00;have i0:(0:Int)<=(k:Int):=by omega
    have i1:(k:Int)<(E.length:Int):=by omega
    by_cases hs0:ev.st<0
    ·have ds:decide (ev.st<0)=true:=by simpa using hs0
     have HV:Hid (R=false):=by unfold Hid;rw[HR.out,HN.out.1];have hge:decide (ev.st<x)=true:=(by have:=HN.out.2.2.1;simp;omega);rw[hge];simp
     clear HN hs0;go_wp2_with fail
     refine AG (Below w.heap.size w) TC (by kernel_rfl) (by kernel_rfl) (fun c0 a0 d0 v0 x0 h0=>A8 (P:=prog) f85 (fun r w'=>r=.returned (.bool R)/\Below w.heap.size w w') c0 a0 d0 v0 x0 h0) HB.out.drew ?_;simp only[TC,lexL,Tl,Tm];iterate 40 (first|(refine Cj (by rfl) ?_;simp only[Act.put,Td,Th,Tg])|(refine Aw (by rfl) (by intro w' hS';obtain⟨q0,q1,q2,q3'⟩:=HS.out w' hS';clear hS' q3';go_simp;exact rfl) ?_;simp only[Act.put,Td,Th,Tg]))
     refine AF ?_;go_wp2;go_ret;exact⟨by rw[HV.out];rfl,HB.out.drew⟩
    ·have ds:decide (ev.st<0)=false:=by simpa using hs0
     by_cases hk0:k=0
     ·have dk:decide ((0:Int)<(k:Int))=false:=by simp;omega
      have dk':decide (0<k)=false:=by simp;omega
      have hge:decide (ev.st<x)=false:=by have:=HN.out.2.2.2 hk0;simp;omega
      clear hk0;by_cases h1:ev.k<1
      ·have d1:decide (ev.k<1)=true:=by simpa using h1
       have HV:Hid (R=false):=by unfold Hid;rw[HR.out,HN.out.1];have hmb:BO m ev=false:=(by unfold BO;rw[if_neg (by omega)];simp;omega);rw[hmb];simp
       clear HN h1;go_wp2_with fail
       refine AG (Below w.heap.size w) TC (by kernel_rfl) (by kernel_rfl) (fun c0 a0 d0 v0 x0 h0=>A8 (P:=prog) f85 (fun r w'=>r=.returned (.bool R)/\Below w.heap.size w w') c0 a0 d0 v0 x0 h0) HB.out.drew ?_;simp only[TC,lexL,Tl,Tm];iterate 40 (first|(refine Cj (by rfl) ?_;simp only[Act.put,Td,Th,Tg])|(refine Aw (by rfl) (by intro w' hS';obtain⟨q0,q1,q2,q3'⟩:=HS.out w' hS';clear hS' q3';go_simp;exact rfl) ?_;simp only[Act.put,Td,Th,Tg]))
       refine AF ?_;go_wp2;go_ret;exact⟨by rw[HV.out];rfl,HB.out.drew⟩
      ·have d1:decide (ev.k<1)=false:=by simpa using h1
       by_cases h4:4<ev.k
       ·have d4:decide (4<ev.k)=true:=by simpa using h4
        have HV:Hid (R=false):=by unfold Hid;rw[HR.out,HN.out.1];have hmb:BO m ev=false:=(by unfold BO;rw[if_neg (by omega)];simp;omega);rw[hmb];simp
        clear HN h1 h4;go_wp2_with fail
        refine AG (Below w.heap.size w) TC (by kernel_rfl) (by kernel_rfl) (fun c0 a0 d0 v0 x0 h0=>A8 (P:=prog) f85 (fun r w'=>r=.returned (.bool R)/\Below w.heap.size w w') c0 a0 d0 v0 x0 h0) HB.out.drew ?_;simp only[TC,lexL,Tl,Tm];iterate 40 (first|(refine Cj (by rfl) ?_;simp only[Act.put,Td,Th,Tg])|(refine Aw (by rfl) (by intro w' hS';obtain⟨q0,q1,q2,q3'⟩:=HS.out w' hS';clear hS' q3';go_simp;exact rfl) ?_;simp only[Act.put,Td,Th,Tg]))
        refine AF ?_;go_wp2;go_ret;exact⟨by rw[HV.out];rfl,HB.out.drew⟩
       ·have d4:decide (4<ev.k)=false:=by simpa using h4
        by_cases h5:ev.k<=2
        ·have d5:decide (ev.k<=2)=true:=by simpa using h5
         by_cases h6:ev.n<0
         ·have d6:decide (ev.n<0)=true:=by simpa using h6
          have HV:Hid (R=false):=by unfold Hid;rw[HR.out,HN.out.1];have hmb:BO m ev=false:=(by unfold BO;rw[if_pos (by omega)];simp;omega);rw[hmb];simp
          clear HN h1 h4 h5 h6;go_wp2_with fail
          refine AG (Below w.heap.size w) TC (by kernel_rfl) (by kernel_rfl) (fun c0 a0 d0 v0 x0 h0=>A8 (P:=prog) f85 (fun r w'=>r=.returned (.bool R)/\Below w.heap.size w w') c0 a0 d0 v0 x0 h0) HB.out.drew ?_;simp only[TC,lexL,Tl,Tm];iterate 40 (first|(refine Cj (by rfl) ?_;simp only[Act.put,Td,Th,Tg])|(refine Aw (by rfl) (by intro w' hS';obtain⟨q0,q1,q2,q3'⟩:=HS.out w' hS';clear hS' q3';go_simp;exact rfl) ?_;simp only[Act.put,Td,Th,Tg]))
          refine AF ?_;obtain⟨q0,q1,q2,_⟩:=HS.out wr.drew HB.out.drew;go_wp2;go_ret;exact⟨by rw[HV.out];rfl,HB.out.drew⟩
         ·have d6:decide (ev.n<0)=false:=by simpa using h6
          by_cases h7:m<=ev.n
          ·have d7:decide (m<=ev.n)=true:=by simpa using h7
           have HV:Hid (R=false):=by unfold Hid;rw[HR.out,HN.out.1];have hmb:BO m ev=false:=(by unfold BO;rw[if_pos (by omega)];simp;omega);rw[hmb];simp
           clear HN h1 h4 h5 h6 h7;go_wp2_with fail
           refine AG (Below w.heap.size w) TC (by kernel_rfl) (by kernel_rfl) (fun c0 a0 d0 v0 x0 h0=>A8 (P:=prog) f85 (fun r w'=>r=.returned (.bool R)/\Below w.heap.size w w') c0 a0 d0 v0 x0 h0) HB.out.drew ?_;simp only[TC,lexL,Tl,Tm];iterate 40 (first|(refine Cj (by rfl) ?_;simp only[Act.put,Td,Th,Tg])|(refine Aw (by rfl) (by intro w' hS';obtain⟨q0,q1,q2,q3'⟩:=HS.out w' hS';clear hS' q3';go_simp;exact rfl) ?_;simp only[Act.put,Td,Th,Tg]))
           refine AF ?_;obtain⟨q0,q1,q2,_⟩:=HS.out wr.drew HB.out.drew;go_wp2;go_ret;exact⟨by rw[HV.out];rfl,HB.out.drew⟩
          ·have d7:decide (m<=ev.n)=false:=by simpa using h7
           have HV:Hid (BL m 0 E=BL m ev.st (E.drop (k+1))/\DG 0 (E.take (k+1))=ev.st/\0<=ev.st):=⟨by rw[HN.out.1];have hmb:BO m ev=true:=(by unfold BO;rw[if_pos (by omega)];simp;omega);rw[hmb,hge];simp,HN.out.2.1,by omega⟩
           clear HN h1 h4 h5 h6 h7;go_wp2_with fail
           refine AG (Below w.heap.size w) TC (by kernel_rfl) (by kernel_rfl) (fun c0 a0 d0 v0 x0 h0=>A8 (P:=prog) f85 (fun r w'=>r=.returned (.bool R)/\Below w.heap.size w w') c0 a0 d0 v0 x0 h0) HB.out.drew ?_;simp only[TC,lexL,Tl,Tm];iterate 40 (first|(refine Cj (by rfl) ?_;simp only[Act.put,Td,Th,Tg])|(refine Aw (by rfl) (by intro w' hS';obtain⟨q0,q1,q2,q3'⟩:=HS.out w' hS';clear hS' q3';go_simp;exact rfl) ?_;simp only[Act.put,Td,Th,Tg]))
           refine AF ?_;obtain⟨q0,q1,q2,_⟩:=HS.out wr.drew HB.out.drew;go_wp2;go_roundw
           case rel=>exact⟨k+1,by omega,by go_num,by rw[HV.out.2.1];exact HV.out.1,by rw[HV.out.2.1];exact HV.out.2.2,HB.out.drew⟩
           case measure=>simp[intOf];omega
        ·have d5:decide (ev.k<=2)=false:=by simpa using h5
         have HV:Hid (BL m 0 E=BL m ev.st (E.drop (k+1))/\DG 0 (E.take (k+1))=ev.st/\0<=ev.st):=⟨by rw[HN.out.1];have hmb:BO m ev=true:=(by unfold BO;rw[if_neg (by omega)];simp;omega);rw[hmb,hge];simp,HN.out.2.1,by omega⟩
         clear HN h1 h4 h5;go_wp2_with fail
         refine AG (Below w.heap.size w) TC (by kernel_rfl) (by kernel_rfl) (fun c0 a0 d0 v0 x0 h0=>A8 (P:=prog) f85 (fun r w'=>r=.returned (.bool R)/\Below w.heap.size w w') c0 a0 d0 v0 x0 h0) HB.out.drew ?_;simp only[TC,lexL,Tl,Tm];iterate 40 (first|(refine Cj (by rfl) ?_;simp only[Act.put,Td,Th,Tg])|(refine Aw (by rfl) (by intro w' hS';obtain⟨q0,q1,q2,q3'⟩:=HS.out w' hS';clear hS' q3';go_simp;exact rfl) ?_;simp only[Act.put,Td,Th,Tg]))
         refine AF ?_;obtain⟨q0,q1,q2,_⟩:=HS.out wr.drew HB.out.drew;go_wp2;go_roundw
         case rel=>exact⟨k+1,by omega,by go_num,by rw[HV.out.2.1];exact HV.out.1,by rw[HV.out.2.1];exact HV.out.2.2,HB.out.drew⟩
         case measure=>simp[intOf];omega
     ·obtain⟨j,rfl⟩:∃ j,k=j+1:=⟨k-1,by omega⟩
      have dk:decide ((0:Int)<((j+1:Nat):Int))=true:=decide_eq_true (by omega);have dk':decide (0<j+1)=true:=by simp
      rw[show j+1-1=j by omega] at HS;have j0:(0:Int)<=(j:Int):=by omega
      have j1:(j:Int)<(E.length:Int):=by omega
      have e1:wrap64 (((j+1:Nat):Int)-1)=(j:Int):=by unfold wrap64;omega
      have e2:wrap64 ((j:Int)+1-1)=(j:Int):=by unfold wrap64;omega
      have e3:wrap64 (j:Int)=(j:Int):=by unfold wrap64;omega
      have e4:IntKind.i64.wrap (j:Int)=(j:Int):=by rw[IntKind.wrap_i64];omega
      clear hk0;by_cases hl:ev.st<x
      ·have dl:decide (ev.st<x)=true:=by simpa using hl
       have HV:Hid (R=false):=by unfold Hid;rw[HR.out,HN.out.1];rw[dl];simp
       clear HN hl;go_wp2_with fail
       refine AG (Below w.heap.size w) TC (by kernel_rfl) (by kernel_rfl) (fun c0 a0 d0 v0 x0 h0=>A8 (P:=prog) f85 (fun r w'=>r=.returned (.bool R)/\Below w.heap.size w w') c0 a0 d0 v0 x0 h0) HB.out.drew ?_;simp only[TC,lexL,Tl,Tm];iterate 40 (first|(refine Cj (by rfl) ?_;simp only[Act.put,Td,Th,Tg])|(refine Aw (by rfl) (by intro w' hS';obtain⟨q0,q1,q2,q3'⟩:=HS.out w' hS';have q3:=q3' (by omega);clear hS' q3';go_simp;exact rfl) ?_;simp only[Act.put,Td,Th,Tg]))
       refine AF ?_;go_wp2;go_ret;exact⟨by rw[HV.out];rfl,HB.out.drew⟩
      ·have hge:decide (ev.st<x)=false:=by simpa using hl
       by_cases h1:ev.k<1
       ·have d1:decide (ev.k<1)=true:=by simpa using h1
        have HV:Hid (R=false):=by unfold Hid;rw[HR.out,HN.out.1];have hmb:BO m ev=false:=(by unfold BO;rw[if_neg (by omega)];simp;omega);rw[hmb];simp
        clear HN h1;go_wp2_with fail
        refine AG (Below w.heap.size w) TC (by kernel_rfl) (by kernel_rfl) (fun c0 a0 d0 v0 x0 h0=>A8 (P:=prog) f85 (fun r w'=>r=.returned (.bool R)/\Below w.heap.size w w') c0 a0 d0 v0 x0 h0) HB.out.drew ?_;simp only[TC,lexL,Tl,Tm];iterate 40 (first|(refine Cj (by rfl) ?_;simp only[Act.put,Td,Th,Tg])|(refine Aw (by rfl) (by intro w' hS';obtain⟨q0,q1,q2,q3'⟩:=HS.out w' hS';have q3:=q3' (by omega);clear hS' q3';go_simp;exact rfl) ?_;simp only[Act.put,Td,Th,Tg]))
        refine AF ?_;go_wp2;go_ret;exact⟨by rw[HV.out];rfl,HB.out.drew⟩
       ·have d1:decide (ev.k<1)=false:=by simpa using h1
        by_cases h4:4<ev.k
        ·have d4:decide (4<ev.k)=true:=by simpa using h4
         have HV:Hid (R=false):=by unfold Hid;rw[HR.out,HN.out.1];have hmb:BO m ev=false:=(by unfold BO;rw[if_neg (by omega)];simp;omega);rw[hmb];simp
         clear HN h1 h4;go_wp2_with fail
         refine AG (Below w.heap.size w) TC (by kernel_rfl) (by kernel_rfl) (fun c0 a0 d0 v0 x0 h0=>A8 (P:=prog) f85 (fun r w'=>r=.returned (.bool R)/\Below w.heap.size w w') c0 a0 d0 v0 x0 h0) HB.out.drew ?_;simp only[TC,lexL,Tl,Tm];iterate 40 (first|(refine Cj (by rfl) ?_;simp only[Act.put,Td,Th,Tg])|(refine Aw (by rfl) (by intro w' hS';obtain⟨q0,q1,q2,q3'⟩:=HS.out w' hS';have q3:=q3' (by omega);clear hS' q3';go_simp;exact rfl) ?_;simp only[Act.put,Td,Th,Tg]))
         refine AF ?_;go_wp2;go_ret;exact⟨by rw[HV.out];rfl,HB.out.drew⟩
        ·have d4:decide (4<ev.k)=false:=by simpa using h4
         by_cases h5:ev.k<=2
         ·have d5:decide (ev.k<=2)=true:=by simpa using h5
          by_cases h6:ev.n<0
          ·have d6:decide (ev.n<0)=true:=by simpa using h6
           have HV:Hid (R=false):=by unfold Hid;rw[HR.out,HN.out.1];have hmb:BO m ev=false:=(by unfold BO;rw[if_pos (by omega)];simp;omega);rw[hmb];simp
           clear HN h1 h4 h5 h6;go_wp2_with fail
           refine AG (Below w.heap.size w) TC (by kernel_rfl) (by kernel_rfl) (fun c0 a0 d0 v0 x0 h0=>A8 (P:=prog) f85 (fun r w'=>r=.returned (.bool R)/\Below w.heap.size w w') c0 a0 d0 v0 x0 h0) HB.out.drew ?_;simp only[TC,lexL,Tl,Tm];iterate 40 (first|(refine Cj (by rfl) ?_;simp only[Act.put,Td,Th,Tg])|(refine Aw (by rfl) (by intro w' hS';obtain⟨q0,q1,q2,q3'⟩:=HS.out w' hS';have q3:=q3' (by omega);clear hS' q3';go_simp;exact rfl) ?_;simp only[Act.put,Td,Th,Tg]))
           refine AF ?_;obtain⟨q0,q1,q2,_⟩:=HS.out wr.drew HB.out.drew;go_wp2;go_ret;exact⟨by rw[HV.out];rfl,HB.out.drew⟩
          ·have d6:decide (ev.n<0)=false:=by simpa using h6
           by_cases h7:m<=ev.n
           ·have d7:decide (m<=ev.n)=true:=by simpa using h7
            have HV:Hid (R=false):=by unfold Hid;rw[HR.out,HN.out.1];have hmb:BO m ev=false:=(by unfold BO;rw[if_pos (by omega)];simp;omega);rw[hmb];simp
            clear HN h1 h4 h5 h6 h7;go_wp2_with fail
            refine AG (Below w.heap.size w) TC (by kernel_rfl) (by kernel_rfl) (fun c0 a0 d0 v0 x0 h0=>A8 (P:=prog) f85 (fun r w'=>r=.returned (.bool R)/\Below w.heap.size w w') c0 a0 d0 v0 x0 h0) HB.out.drew ?_;simp only[TC,lexL,Tl,Tm];iterate 40 (first|(refine Cj (by rfl) ?_;simp only[Act.put,Td,Th,Tg])|(refine Aw (by rfl) (by intro w' hS';obtain⟨q0,q1,q2,q3'⟩:=HS.out w' hS';have q3:=q3' (by omega);clear hS' q3';go_simp;exact rfl) ?_;simp only[Act.put,Td,Th,Tg]))
            refine AF ?_;obtain⟨q0,q1,q2,_⟩:=HS.out wr.drew HB.out.drew;go_wp2;go_ret;exact⟨by rw[HV.out];rfl,HB.out.drew⟩
           ·have d7:decide (m<=ev.n)=false:=by simpa using h7
            have HV:Hid (BL m 0 E=BL m ev.st (E.drop ((j+1)+1))/\DG 0 (E.take ((j+1)+1))=ev.st/\0<=ev.st):=⟨by rw[HN.out.1];have hmb:BO m ev=true:=(by unfold BO;rw[if_pos (by omega)];simp;omega);rw[hmb,hge];simp,HN.out.2.1,by omega⟩
            clear HN h1 h4 h5 h6 h7;go_wp2_with fail
            refine AG (Below w.heap.size w) TC (by kernel_rfl) (by kernel_rfl) (fun c0 a0 d0 v0 x0 h0=>A8 (P:=prog) f85 (fun r w'=>r=.returned (.bool R)/\Below w.heap.size w w') c0 a0 d0 v0 x0 h0) HB.out.drew ?_;simp only[TC,lexL,Tl,Tm];iterate 40 (first|(refine Cj (by rfl) ?_;simp only[Act.put,Td,Th,Tg])|(refine Aw (by rfl) (by intro w' hS';obtain⟨q0,q1,q2,q3'⟩:=HS.out w' hS';have q3:=q3' (by omega);clear hS' q3';go_simp;exact rfl) ?_;simp only[Act.put,Td,Th,Tg]))
            refine AF ?_;obtain⟨q0,q1,q2,_⟩:=HS.out wr.drew HB.out.drew;go_wp2;go_roundw
            case rel=>exact⟨(j+1)+1,by omega,by go_num,by rw[HV.out.2.1];exact HV.out.1,by rw[HV.out.2.1];exact HV.out.2.2,HB.out.drew⟩
            case measure=>simp[intOf];omega
         ·have d5:decide (ev.k<=2)=false:=by simpa using h5
          have HV:Hid (BL m 0 E=BL m ev.st (E.drop ((j+1)+1))/\DG 0 (E.take ((j+1)+1))=ev.st/\0<=ev.st):=⟨by rw[HN.out.1];have hmb:BO m ev=true:=(by unfold BO;rw[if_neg (by omega)];simp;omega);rw[hmb,hge];simp,HN.out.2.1,by omega⟩
          clear HN h1 h4 h5;go_wp2_with fail
          refine AG (Below w.heap.size w) TC (by kernel_rfl) (by kernel_rfl) (fun c0 a0 d0 v0 x0 h0=>A8 (P:=prog) f85 (fun r w'=>r=.returned (.bool R)/\Below w.heap.size w w') c0 a0 d0 v0 x0 h0) HB.out.drew ?_;simp only[TC,lexL,Tl,Tm];iterate 40 (first|(refine Cj (by rfl) ?_;simp only[Act.put,Td,Th,Tg])|(refine Aw (by rfl) (by intro w' hS';obtain⟨q0,q1,q2,q3'⟩:=HS.out w' hS';have q3:=q3' (by omega);clear hS' q3';go_simp;exact rfl) ?_;simp only[Act.put,Td,Th,Tg]))
          refine AF ?_;obtain⟨q0,q1,q2,_⟩:=HS.out wr.drew HB.out.drew;go_wp2;go_roundw
          case rel=>exact⟨(j+1)+1,by omega,by go_num,by rw[HV.out.2.1];exact HV.out.1,by rw[HV.out.2.1];exact HV.out.2.2,HB.out.drew⟩
          case measure=>simp[intOf];omega
   ·obtain rfl:k=E.length:=by omega
    have HV:Hid (R=true):=by unfold Hid;rw[HR.out,hno];simp[BL]
    have HB2:=Aa hB;clear hno hB;go_wp2;go_ret;exact⟨by rw[HV.out];rfl,HB2.out⟩
theorem MB{w:World}{E:List Ev}{tb:Nat}(h:w.rowIs tb 65 ((E.length+2) * 3) (Ct E (E.length+2)))(htb:tb<w.heap.size):Bs w w.heap.size (.slice (some ⟨tb,0,none⟩) E.length (E.length+2)) E:=by
 have hc:∀ j,j<E.length * 3->w.cell? ⟨tb,j,none⟩=some (DW E j):=fun j hj=>by
  rw[h.cell (by omega)];unfold Ct;rw[if_pos (by omega)]
 refine⟨_,_,rfl,by omega,fun _=>⟨tb,0,rfl,htb,fun i hi=>?_⟩⟩;refine⟨?_,?_,?_⟩
 ·rw[Nat.zero_add,hc _ (by omega)];unfold DW;rw[if_pos (by omega),show i * 3 / 3=i by omega]
 ·rw[Nat.zero_add,hc _ (by omega)];unfold DW;rw[if_neg (by omega),if_pos (by omega),show (i * 3+1) / 3=i by omega]
 ·rw[Nat.zero_add,hc _ (by omega)];unfold DW;rw[if_neg (by omega),if_neg (by omega),show (i * 3+2) / 3=i by omega]
theorem Mm{w w':World}{b n:Nat}{t:TypeId}{f:Nat->Value}(h:w.rowIs b t n f)(hb:Below w.heap.size w w')(hlt:b<w.heap.size):w'.rowIs b t n f:=by
 obtain⟨cur,h1,h2⟩:=h;exact⟨cur,(hb.block b hlt).trans h1,h2⟩
open Go
inductive LT where
 |done:LT
 |free:Nat->LT->LT
 |one:Nat->LT->LT
 |two:Nat->LT->Nat->LT->LT
 |three:Nat->LT->Nat->LT->Nat->LT->LT
section
variable {P:Program} {ops:Array Oper} {Q:Exit->Act->World->Prop} {S:World->Prop}
def LT.len:LT->Nat
 |.done=>0
 |.free _ t=>t.len+1
 |.one _ t=>t.len+1
 |.two _ t _ _=>t.len+1
 |.three _ t _ _ _ _=>t.len+1
def EL(P:Program)(ops:Array Oper)(Q:Exit->Act->World->Prop)(S:World->Prop):LT->Act->World->Prop
 |.done,a,w=>Q .normal a w
 |.free i t,a,w=>∃ oi v,ops[i]?=some oi/\YieldsIf P ops S oi v a/\EL P ops Q S t (a.put oi.dst v) w
 |.one i t,a,w=>wpOp P ops Q i (fun a' w'=>S w'/\EL P ops Q S t a' w') a w
 |.two i t j u,a,w=>wpOp P ops Q i (fun a' w'=>S w'/\EL P ops Q S t a' w') a w/\wpOp P ops Q j (fun a' w'=>S w'/\EL P ops Q S u a' w') a w
 |.three i t j u k v,a,w=>wpOp P ops Q i (fun a' w'=>S w'/\EL P ops Q S t a' w') a w/\wpOp P ops Q j (fun a' w'=>S w'/\EL P ops Q S u a' w') a w/\wpOp P ops Q k (fun a' w'=>S w'/\EL P ops Q S v a' w') a w
def Dy(ops:Array Oper):LT->Array Bool->Bool
 |.done,listed=>(Region.ready .any ops listed).isEmpty
 |.free i t,listed=>Region.free .any ops listed i&&(Region.ready .any ops listed).contains i&&Dy ops t (listed.setIfInBounds i true)
 |.one i t,listed=>decide (Region.ready .any ops listed=[i])&&Dy ops t (listed.setIfInBounds i true)
 |.two i t j u,listed=>decide (Region.ready .any ops listed=[i,j])&&decide (u.len=t.len)&&Dy ops t (listed.setIfInBounds i true)&&Dy ops u (listed.setIfInBounds j true)
 |.three i t j u k v,listed=>decide (Region.ready .any ops listed=[i,j,k])&&decide (u.len=t.len)&&decide (v.len=t.len)&&Dy ops t (listed.setIfInBounds i true)&&Dy ops u (listed.setIfInBounds j true)&&Dy ops v (listed.setIfInBounds k true)
theorem EY(hs:Region.noSelect ops=true)(hQ:∀ c a d v w,Q (.panic c) (Act.put a d v) w->Q (.panic c) a w):∀ (t:LT) (listed:Array Bool) (a:Act) (w:World),
  Dy ops t listed=true->S w->EL P ops Q S t a w->wpAnyH P .any ops Q S t.len listed a w
 |.done,listed,a,w,hB,_,h=>⟨by simpa [Dy] using hB,h⟩
 |.one i t,listed,a,w,hB,_,h=>by
  simp only[Dy,Bool.and_eq_true,decide_eq_true_eq] at hB;refine⟨fun h0=>(by rw[hB.1] at h0;cases h0),fun j hj=>?_⟩;rw[hB.1] at hj;obtain rfl:j=i:=by simpa using hj
  exact wpOp_mono (fun a' w' h'=>⟨h'.1,EY hs hQ t _ a' w' hB.2 h'.1 h'.2⟩) h
 |.free i t,listed,a,w,hB,hS,h=>by
  simp only[Dy,Bool.and_eq_true] at hB;obtain⟨oi,v,hi,hy,h'⟩:=h;exact wpAnyH_take hi hs hB.1.1 hB.1.2 (fun c a w=>hQ c a _ _ w) hy hS (EY hs hQ t _ _ w hB.2 hS h')
 |.two i t j u,listed,a,w,hB,_,h=>by
  simp only[Dy,Bool.and_eq_true,decide_eq_true_eq] at hB;obtain⟨⟨⟨h1,h2⟩,h3⟩,h4⟩:=hB;refine⟨fun h0=>(by rw[h1] at h0;cases h0),fun x hx=>?_⟩;rw[h1] at hx;have hx':x=i\/x=j:=by simpa using hx
  rcases hx' with rfl|rfl
  ·exact wpOp_mono (fun a' w' h'=>⟨h'.1,EY hs hQ t _ a' w' h3 h'.1 h'.2⟩) h.1
  ·refine wpOp_mono (fun a' w' h'=>⟨h'.1,?_⟩) h.2;have:=EY hs hQ u _ a' w' h4 h'.1 h'.2;rw[h2] at this;exact this
 |.three i t j u k v,listed,a,w,hB,_,h=>by
  simp only[Dy,Bool.and_eq_true,decide_eq_true_eq] at hB;obtain⟨⟨⟨⟨⟨h1,h2⟩,h3⟩,h4⟩,h5⟩,h6⟩:=hB;refine⟨fun h0=>(by rw[h1] at h0;cases h0),fun x hx=>?_⟩;rw[h1] at hx;have hx':x=i\/x=j\/x=k:=by simpa using hx
  rcases hx' with rfl|rfl|rfl
  ·exact wpOp_mono (fun a' w' h'=>⟨h'.1,EY hs hQ t _ a' w' h4 h'.1 h'.2⟩) h.1
  ·refine wpOp_mono (fun a' w' h'=>⟨h'.1,?_⟩) h.2.1;have:=EY hs hQ u _ a' w' h5 h'.1 h'.2;rw[h2] at this;exact this
  ·refine wpOp_mono (fun a' w' h'=>⟨h'.1,?_⟩) h.2.2;have:=EY hs hQ v _ a' w' h6 h'.1 h'.2;rw[h3] at this;exact this
structure CK (P:Program) (ops:Array Oper) (Q:Exit->Act->World->Prop) (S:World->Prop) (t:LT) (a:Act) (w:World):Prop where
 out:EL P ops Q S t a w
theorem LE{id:Nat}{a:Act}{w:World}(S:World->Prop)(t:LT)(hm:P.follows .mixedOrders=true)(hB:(Region.noSelect ops&&decide (t.len=ops.size)&&Dy ops t (Array.replicate ops.size false))=true)
  (hQ:∀ c a d v w,Q (.panic c) (Act.put a d v) w->Q (.panic c) a w) (hS:S w.drew) (h:CK P ops Q S t a w.drew):(Code.region id ops true).wp P Q a w:=by
 simp only[Bool.and_eq_true,decide_eq_true_eq] at hB;refine wp_region_held (S:=S) hm ?_;have:=EY hB.1.1 hQ t _ a w.drew hB.2 hS h.out;rw[hB.1.2] at this;exact this
theorem C7{i:Nat}{o:Oper}{v:Value}{t:LT}{a:Act}{w:World}(ho:ops[i]?=some o)(hw:Region.wanted o (yielded ops a.tmps)=true)(hy:∀ w',S w'->(execOp a.eval o).run P w'=.ok (.value v) w')
  (h:CK P ops Q S t (a.put o.dst v) w):CK P ops Q S (.free i t) a w:=⟨⟨o,v,ho,Or.inl ⟨hw,hy⟩,h.out⟩⟩
theorem BJ{i:Nat}{o:Oper}{t:LT}{a:Act}{w:World}(ho:ops[i]?=some o)
  (h:∀ K':Act->World->Prop,Shut (∀ a w,S w->CK P ops Q S t a w->K' a w)->if Region.wanted o (yielded ops a.tmps)=true then Oper.wp P o a w K' Q else K' (a.put o.dst undef) w):CK P ops Q S (.one i t) a w :=
 ⟨wpOp_step ho (fun K' hK=>h K' (fun a w hS hW=>hK a w ⟨hS,hW.out⟩))⟩
theorem Hr{i j:Nat}{t u:LT}{a:Act}{w:World}(h1:CK P ops Q S (.one i t) a w)(h2:CK P ops Q S (.one j u) a w):CK P ops Q S (.two i t j u) a w:=⟨⟨h1.out,h2.out⟩⟩
theorem OZ{i j k:Nat}{t u v:LT}{a:Act}{w:World}(h1:CK P ops Q S (.one i t) a w)(h2:CK P ops Q S (.one j u) a w)(h3:CK P ops Q S (.one k v) a w):CK P ops Q S (.three i t j u k v) a w:=⟨⟨h1.out,h2.out,h3.out⟩⟩
theorem E4{a:Act}{w:World}(h:Q .normal a w):CK P ops Q S .done a w:=⟨h⟩
end
end Go.Proofs.YtkafkipjedpohaaGreatDoor

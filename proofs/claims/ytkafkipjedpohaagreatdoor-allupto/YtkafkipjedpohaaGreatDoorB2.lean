import Derived.Test.YtkafkipjedpohaaGreatDoorA6
import Derived.Deep.AppendSrc
namespace Go.Proofs.YtkafkipjedpohaaGreatDoor
set_option maxRecDepth 100000
set_option maxHeartbeats 16000000
open Go.RowKit _root_.Go.Proofs.Tryz
theorem Tryz.info4:(prog.info? 4).map (fun i=>(i.zero,i.size,i.bytes))=some (some (.bool false),1,1):=by kernel_rfl
theorem Tryz.info3:(prog.info? 3).map (fun i=>(i.zero,i.size,i.bytes))=some (some (.int .i64 0),1,8):=by kernel_rfl
theorem BP(w:World)(c:Array Value)(t:TypeId)(B i:Nat)(hB:B=w.heap.size):(w.alloc (.cells c t)).cell? ⟨B,i,none⟩=c[i]?:=by
 subst hB;unfold World.cell?;rw[Tv];rfl
structure BI (w:World) (b n:Nat) (s:St):Prop where
 K:w.rowIs b 4 n (fun i=>.bool (s.K i))
 L:w.rowIs (b+1) 4 n (fun i=>.bool (s.L i))
 H:w.rowIs (b+1+1) 3 n (fun i=>.int .i64 (s.H i))
section
variable {n b:Nat}{s:St}{w:World}
theorem BI.alloc(h:BI w b n s)(o:Obj):BI (w.alloc o) b n s:=⟨h.K.alloc o,h.L.alloc o,h.H.alloc o⟩
theorem BI.drew(h:BI w b n s):BI w.drew b n s:=⟨h.K,h.L,h.H⟩
theorem BI.below{w':World}{B:Nat}(h:BI w b n s)(k:Below B w w')(hb:b+2<B):BI w' b n s :=
 ⟨h.K.of_block (k.block _ (by omega)),h.L.of_block (k.block _ (by omega)),h.H.of_block (k.block _ (by omega))⟩
theorem BI.setK(h:BI w b n s)(i:Nat)(v:Bool):BI (w.setCell ⟨b,i,none⟩ (.bool v)) b n {s with K:=Ac s.K i v} :=
 ⟨(h.K.set i (.bool v)).congr (fun j _=>by simp only[Ac];split<;>rfl),h.L.setOther (by simp<;>omega) _,h.H.setOther (by simp<;>omega) _⟩
theorem BI.setL(h:BI w b n s)(i:Nat)(v:Bool):BI (w.setCell ⟨b+1,i,none⟩ (.bool v)) b n {s with L:=Ac s.L i v} :=
 ⟨h.K.setOther (by simp<;>omega) _,(h.L.set i (.bool v)).congr (fun j _=>by simp only[Ac];split<;>rfl),h.H.setOther (by simp<;>omega) _⟩
theorem BI.setH(h:BI w b n s)(i:Nat)(v:Int):BI (w.setCell ⟨b+1+1,i,none⟩ (.int .i64 v)) b n {s with H:=Ac s.H i v} :=
 ⟨h.K.setOther (by simp<;>omega) _,h.L.setOther (by simp<;>omega) _,(h.H.set i (.int .i64 v)).congr (fun j _=>by simp only[Ac];split<;>rfl)⟩
def Eu(s:St)(n:Nat):Int:=if Bi (Ba s) n<n then (Bi (Ba s) n:Int) else -1
def CW(n:Nat):Array Value:=madeCells #[.bool false] n
theorem Nk(n:Nat)(h:1<=n):(CW n)[0]?=some (.bool false):=by
 have:0<n:=by omega
 simp[CW,madeCells,this]
def Kl(n:Nat):Array Value:=madeCells #[.int .i64 0] n
theorem Nc(w:World)(n:Nat)(_hn:1<=n):BI (((w.alloc (.cells ((CW n).setIfInBounds 0 (.bool true)) 4)).alloc (.cells (CW n) 4)).alloc (.cells (Kl n) 3)) w.heap.size n s0:=by
 have h0:(w.alloc (.cells ((CW n).setIfInBounds 0 (.bool true)) 4)).rowIs w.heap.size 4 n (fun i=>.bool (s0.K i)):=by
  refine⟨_,Tv _ _,by simp[CW,size_madeCells],fun i hi=>?_⟩;by_cases e:i=0
  ·subst e;have hl:0<(CW n).size:=by simp[CW,size_madeCells];omega
   simp[hl,s0,Ac]
  ·rw[Array.getElem?_setIfInBounds_ne (by omega)];simp[CW,madeCells,hi,s0,Ac,e,Nat.mod_one]
 have h1:=World.rowIs_made (w.alloc (.cells ((CW n).setIfInBounds 0 (.bool true)) 4)) (.bool false) n 4;have h2:=World.rowIs_made ((w.alloc (.cells ((CW n).setIfInBounds 0 (.bool true)) 4)).alloc (.cells (CW n) 4)) (.int .i64 0) n 3;rw[World.size_alloc] at h1;rw[World.size_alloc,World.size_alloc] at h2;exact⟨(h0.alloc _).alloc _,h1.alloc _,h2⟩
theorem SD(n:Nat)(hn:1<=n):Eu s0 n=0:=by
 have:Bi (Ba s0) n=0:=GL _ _ _ (by omega) (by simp[Ba,s0,Ac]) (fun j hj=>by omega);unfold Eu;rw[this,if_pos (by omega)];rfl
theorem Si(h:∀ j,j<n->Ba s j=false):Eu s n=-1:=by
 unfold Eu;rw[Gc _ _ h,if_neg (by omega)]
theorem QY{i:Nat}(hi:i<n)(hp:Ba s i=true)(h:∀ j,j<i->Ba s j=false):Eu s n=i:=by
 unfold Eu;rw[GL _ _ _ hi hp h,if_pos hi]
def Ej(w:World)(b:Nat)(p:Option Addr)(l:List Int):Prop:=l=[]\/∃ bl,b<bl/\bl<w.heap.size/\p=some ⟨bl,0,none⟩/\Eb w bl l
theorem Ej.set{p:Option Addr}{l:List Int}(h:Ej w b p l){a:Addr}(ha:a.block<=b)(v:Value):Ej (w.setCell a v) b p l:=by
 rcases h with h|⟨bl,h1,h2,h3,h4⟩
 ·exact Or.inl h
 ·refine Or.inr ⟨bl,h1,by simpa [World.setCell] using h2,h3,fun j hj=>?_⟩;rw[<-h4 j hj];exact Tw (w:=w) (Tx _ _ _ _ (by dsimp only;omega))
def Dq(s:St)(n t:Nat)(v:Int):Prop:=(v=-1/\∀ j,t<=j->j<n->Ba s j=false)\/(∃ i:Nat,v=(i:Int)/\t<=i/\i<n/\Ba s i=true/\∀ j,t<=j->j<i->Ba s j=false)
theorem Dq.start(s:St)(n:Nat):Dq s n n (-1):=Or.inl ⟨rfl,fun j h1 h2=>by omega⟩
theorem Dq.hit{t:Nat}(ht:t<n)(h:Ba s t=true):Dq s n t t:=Or.inr ⟨t,rfl,Te _,ht,h,fun j h1 h2=>by omega⟩
theorem Dq.miss{t:Nat}{v:Int}(h:Ba s t=false)(hd:Dq s n (t+1) v):Dq s n t v:=by
 rcases hd with⟨e,hd⟩|⟨i,e,h1,h2,h3,hd⟩
 ·refine Or.inl ⟨e,fun j hj hn=>?_⟩;by_cases hjt:j=t
  ·rw[hjt];exact h
  ·exact hd j (by omega) hn
 ·refine Or.inr ⟨i,e,by omega,h2,h3,fun j hj hn=>?_⟩;by_cases hjt:j=t
  ·rw[hjt];exact h
  ·exact hd j (by omega) hn
theorem Dq.done{v:Int}(hd:Dq s n 0 v):v=Eu s n:=by
 rcases hd with⟨e,hd⟩|⟨i,e,h1,h2,h3,hd⟩
 ·rw[e,Si (fun j hj=>hd j (Tt _) hj)]
 ·rw[e,QY h2 h3 (fun j hj=>hd j (Tt _) hj)]
theorem QF(cb co cc n:Nat)(op ar:Nat->Int)(w:World)(hc:BB w cb co n op ar)(hcb:cb<w.heap.size)(hn1:1<=n)(hn:n<=64)(lc m:Int)
  (hleg:∀ j,j<n->Bz (op j) (ar j) lc n m=true) :
  Calls prog 97 #[.slice (some ⟨cb,co,none⟩) n cc] w fun e w' =>
   e=.returned (.tuple #[.int .i64 (Cl n op ar (n+1) s0).1,.int .i64 (Cl n op ar (n+1) s0).2])/\Below w.heap.size w w':=by
 have hmk4:∀ wx:World,(Instr.makeSlice 142 (.int .i64 (n:Int)) (.int .i64 (n:Int))).run prog wx=.ok (.slice (some ⟨wx.heap.size,0,none⟩) n n) (wx.alloc (.cells (CW n) 4)) :=
  fun wx=>run_make_row' (P:=prog) 142 4 _ 1 underlying142 Tryz.info4 rfl .i64 .i64 n (by omega) (by omega) wx
 have hmk3:∀ wx:World,(Instr.makeSlice 66 (.int .i64 (n:Int)) (.int .i64 (n:Int))).run prog wx=.ok (.slice (some ⟨wx.heap.size,0,none⟩) n n) (wx.alloc (.cells (Kl n) 3)) :=
  fun wx=>run_make_row' (P:=prog) 66 3 _ 8 underlying66 Tryz.info3 rfl .i64 .i64 n (by omega) (by omega) wx
 have h0:=Nk n hn1;have HI:Hid (BB w cb co n op ar/\∀ j,j<n->Bz (op j) (ar j) lc n m=true):=⟨hc,hleg⟩
 clear hc hleg;generalize hR:Cl n op ar (n+1) s0=R at *;have HR:=Aa hR;clear hR;go_enter func97,ntmps97
 go_wp2;go_loopg [7] n (fun gk v wr=>∃ s:St,v=.int .i64 (Eu s n)/\Cf s.L n<=gk/\Cl n op ar (gk+1) s=R/\HB s/\BI wr w.heap.size n s/\Below w.heap.size w wr)
 case atStart=>exact⟨s0,by rw[SD n hn1],I1 _ _,HR.out,Lt,Nc w n hn1,(((Tu _ _).alloc (Te _) _).alloc (by simp) _).alloc (by simp;omega) _⟩
 case round =>
  obtain⟨s,rfl,hu,hF,hH,hT,hB⟩:=hrel;have hF2:=hF;rw[Ms] at hF2;unfold Eu;clear HR h0 hmk3 hmk4;rcases FR (Ba s) n with⟨h1,h2,h3⟩|⟨h1,h2⟩
  ·rw[if_pos h1] at hF2 ⊢;have hwt:s.L (Bi (Ba s) n)=false:=by
    have:=h2;simp only[Ba,Bool.and_eq_true,Bool.not_eq_true'] at this;exact this.2
   clear h2 h3;generalize Bi (Ba s) n=i at *;have hul:=JW s.L n i h1 hwt;have hl:=HI.out.2 i h1;have ho:=E3 hl;have h13:=Fz hl;have hj:=DF hl;have hpb:=Mq h13;have hqb:=IJ (op i);have hHi:=hH i;have hLL:=JQ n op ar s i;have hHH:=KX (n:=n) (op:=op) (ar:=ar) (i:=i) hH;have Av:w.heap.size+1+1<wr.heap.size:=hT.H.lt;have x0:wr.cell? ⟨cb,co+i * 2,none⟩=some (.int .i64 (op i)):=((HI.out.1.below hB hcb) i h1).1;have x1:wr.cell? ⟨cb,co+i * 2+1,none⟩=some (.int .i64 (ar i)):=((HI.out.1.below hB hcb) i h1).2;have y1:wr.cell? ⟨w.heap.size+1,i,none⟩=some (.bool (s.L i)):=hT.L.cell h1;have z1:wr.frozen? ⟨w.heap.size+1,i,none⟩=false:=hT.L.frozen i;have y2:wr.cell? ⟨w.heap.size+1+1,i,none⟩=some (.int .i64 (s.H i)):=hT.H.cell h1;have HT:Hid (BI (wr.setCell ⟨w.heap.size+1,i,none⟩ (.bool true)) w.heap.size n {s with L:=Ac s.L i true}/\Below w.heap.size w (wr.setCell ⟨w.heap.size+1,i,none⟩ (.bool true))):=⟨hT.setL i true,hB.setCell (by simp) _⟩
   have HX:Hid ((if (BM n op ar s i).1=0 then Cl n op ar gk (BM n op ar s i).2 else ((BM n op ar s i).1,(i:Int)))=R/\(BM n op ar s i).2.L=Ac s.L i true/\HB (BM n op ar s i).2/\Cf (Ac s.L i true) n+1=Cf s.L n/\Cf s.L n<=gk/\HB s):=⟨hF2,hLL,hHH,hul,hu,hH⟩
   clear hF2 hLL hHH hul hu hH hF hwt hT hB hl;have hcw:¬cb=w.heap.size+1:=by omega
   have hT1:BI ((wr.setCell ⟨w.heap.size+1,i,none⟩ (.bool true)).alloc (.cells #[.int .i64 (op i),.int .i64 (ar i)] 33)) w.heap.size n {s with L:=Ac s.L i true}:=HT.out.1.alloc _;have hB1:Below w.heap.size w ((wr.setCell ⟨w.heap.size+1,i,none⟩ (.bool true)).alloc (.cells #[.int .i64 (op i),.int .i64 (ar i)] 33)):=HT.out.2.alloc (by simp[World.setCell];omega) _;have b0:((wr.setCell ⟨w.heap.size+1,i,none⟩ (.bool true)).alloc (.cells #[.int .i64 (op i),.int .i64 (ar i)] 33)).cell? ⟨wr.heap.size,0,none⟩=some (.int .i64 (op i)):=BP _ _ _ _ _ (by simp[World.setCell]);have b1:((wr.setCell ⟨w.heap.size+1,i,none⟩ (.bool true)).alloc (.cells #[.int .i64 (op i),.int .i64 (ar i)] 33)).cell? ⟨wr.heap.size,1,none⟩=some (.int .i64 (ar i)):=BP _ _ _ _ _ (by simp[World.setCell]);have hz:wr.heap.size<((wr.setCell ⟨w.heap.size+1,i,none⟩ (.bool true)).alloc (.cells #[.int .i64 (op i),.int .i64 (ar i)] 33)).heap.size:=by simp
   have b2:((wr.setCell ⟨w.heap.size+1,i,none⟩ (.bool true)).alloc (.cells #[.int .i64 (op i),.int .i64 (ar i)] 33)).cell? ⟨w.heap.size+1+1,i,none⟩=some (.int .i64 (s.H i)):=hT1.H.cell h1;have HW:Hid (BI ((wr.setCell ⟨w.heap.size+1,i,none⟩ (.bool true)).alloc (.cells #[.int .i64 (op i),.int .i64 (ar i)] 33)) w.heap.size n {s with L:=Ac s.L i true}/\Below w.heap.size w ((wr.setCell ⟨w.heap.size+1,i,none⟩ (.bool true)).alloc (.cells #[.int .i64 (op i),.int .i64 (ar i)] 33))/\((wr.setCell ⟨w.heap.size+1,i,none⟩ (.bool true)).alloc (.cells #[.int .i64 (op i),.int .i64 (ar i)] 33)).cell? ⟨wr.heap.size,0,none⟩=some (.int .i64 (op i))/\((wr.setCell ⟨w.heap.size+1,i,none⟩ (.bool true)).alloc (.cells #[.int .i64 (op i),.int .i64 (ar i)] 33)).cell? ⟨wr.heap.size,1,none⟩=some (.int .i64 (ar i))/\((wr.setCell ⟨w.heap.size+1,i,none⟩ (.bool true)).alloc (.cells #[.int .i64 (op i),.int .i64 (ar i)] 33)).cell? ⟨w.heap.size+1+1,i,none⟩=some (.int .i64 (s.H i))/\wr.heap.size<((wr.setCell ⟨w.heap.size+1,i,none⟩ (.bool true)).alloc (.cells #[.int .i64 (op i),.int .i64 (ar i)] 33)).heap.size):=⟨hT1,hB1,b0,b1,b2,hz⟩
   clear hT1 hB1 b0 b1 b2 hz HT;go_wp2;clear x0 x1 y1 z1 y2;generalize (wr.setCell ⟨w.heap.size+1,i,none⟩ (.bool true)).alloc (.cells #[.int .i64 (op i),.int .i64 (ar i)] 33)=W at *;obtain⟨hT1,hB1,b0,b1,b2,hz⟩:=HW.out;have hHW:=Aa hT1;have hBW:=Aa hB1;clear HW hT1 hB1;generalize hsh:s.H i=hh at *;have Hsh:=Aa hsh;clear hsh;have i0:(0:Int)<=(i:Int):=by omega
   have i1:(i:Int)<(n:Int):=by omega
   have HQ:Hid (op i=13->0<=ar i/\ar i<=8):=h13;clear h13 ho hj;go_region_held3 (fun w'=>w'.cell? ⟨w.heap.size+1+1,i,none⟩=some (.int .i64 hh)/\w'.cell? ⟨wr.heap.size,0,none⟩=some (.int .i64 (op i))/\w'.cell? ⟨wr.heap.size,1,none⟩=some (.int .i64 (ar i))) (go_keep)
    (first|(go_at_call 108;refine(QD _ _ _ HQ.out).mono ?_;rintro e w2 ⟨rfl,hB2⟩;have q0:=(hB2.cell (p:=⟨w.heap.size+1+1,i,none⟩) (by show _<W.heap.size;dsimp only;omega)).trans b2;have q1:=(hB2.cell (p:=⟨wr.heap.size,0,none⟩) hz).trans b0;have q2:=(hB2.cell (p:=⟨wr.heap.size,1,none⟩) hz).trans b1))
   have hwrap:IntKind.i64.wrap (hh-At (op i) (ar i))=hh-At (op i) (ar i):=by rw[IntKind.wrap_i64];omega
   rw[hwrap];clear hwrap;have hT2:BI w2 w.heap.size n {s with L:=Ac s.L i true}:=hHW.out.drew.below hB2 (by show _<W.heap.size;omega);have hB3:Below w.heap.size w w2:=hBW.out.drew.trans (hB2.mono (by show _<=W.heap.size;have:=hBW.out.size;omega));have hz2:wr.heap.size<w2.heap.size:=by have:W.heap.size<=w2.heap.size:=hB2.size;omega
   have HT2:Hid (BI w2 w.heap.size n {s with L:=Ac s.L i true}/\Below w.heap.size w w2):=⟨hT2,hB3⟩
   rename_i hheld;clear hheld q0 hB2 hT2 hB3 hHW hBW b0 b1 b2 hz i0 i1;have hlk:BM n op ar s i=if hh<At (op i) (ar i) then (4,{s with L:=Ac s.L i true}) else if 16<hh-At (op i) (ar i)+Bc (op i) then (4,{s with L:=Ac s.L i true}) else BU n (hh-At (op i) (ar i)+Bc (op i)) (Bj (op i) (ar i) i) {s with L:=Ac s.L i true}:=by
    rw[<-Hsh.out];rfl
   generalize hpp:At (op i) (ar i)=pp at *;generalize hqq:Bc (op i)=qq at *;have Hpq:Hid (Bc (op i)=qq):=hqq;clear hpp hqq;obtain⟨hF2,hLL,hHH,hul,hu,hH⟩:=HX.out;clear HX;rcases hlp:BM n op ar s i with⟨er,sr⟩
   rw[hlp] at hF2 hLL hHH hlk;clear hlp;have HX:Hid ((if er=0 then Cl n op ar gk sr else (er,(i:Int)))=R/\sr.L=Ac s.L i true/\HB sr/\Cf (Ac s.L i true) n+1=Cf s.L n/\Cf s.L n<=gk):=⟨hF2,hLL,hHH,hul,hu⟩
   clear hF2 hLL hHH hul hu hH;by_cases hA:hh<pp
   ·rw[if_pos hA] at hlk;obtain⟨rfl,rfl⟩:=Prod.mk.inj hlk;have HY:Hid (R=(4,(i:Int))):=by unfold Hid;rw[<-HX.out.1];rfl
    clear hlk HX;have hA':hh-pp<0:=by omega
    go_wp2;go_ret2
    rw[HY.out];exact⟨rfl,HT2.out.2⟩
   ·rw[if_neg hA] at hlk;have hA':decide (hh-pp<0)=false:=by simp;omega
    have hA'':0<=hh-pp:=by omega
    by_cases hC:16<hh-pp+qq
    ·rw[if_pos hC] at hlk;obtain⟨rfl,rfl⟩:=Prod.mk.inj hlk;have HY:Hid (R=(4,(i:Int))):=by unfold Hid;rw[<-HX.out.1];rfl
     clear hlk HX;go_wp2_with fail
     refine(Jy _ _ _).mono ?_;rintro e w3 ⟨rfl,hB3⟩;rw[Hpq.out];have HB3:=Aa hB3;clear hB3;go_wp2;go_ret2
     rw[HY.out];exact⟨rfl,HT2.out.2.trans (HB3.out.mono HT2.out.2.size)⟩
    ·rw[if_neg hC] at hlk;have HLK:=Aa hlk;clear hlk;go_wp2_with fail
     refine(Jy _ _ _).mono ?_;rintro e w3 ⟨rfl,hB3⟩;rw[Hpq.out];have HT3:Hid (BI w3 w.heap.size n {s with L:=Ac s.L i true}/\Below w.heap.size w w3):=⟨HT2.out.1.below hB3 (by omega),HT2.out.2.trans (hB3.mono HT2.out.2.size)⟩
     have r1:=(hB3.cell (p:=⟨wr.heap.size,0,none⟩) hz2).trans q1;have r2:=(hB3.cell (p:=⟨wr.heap.size,1,none⟩) hz2).trans q2;have hz3:wr.heap.size<w3.heap.size:=by have:=hB3.size;omega
     clear hB3 q1 q2 hz2 HT2;go_wp2_with fail
     refine(Jy _ _ _).mono ?_;rintro e w4 ⟨rfl,hB4⟩;rw[Hpq.out];have HT4:Hid (BI w4 w.heap.size n {s with L:=Ac s.L i true}/\Below w.heap.size w w4):=⟨HT3.out.1.below hB4 (by omega),HT3.out.2.trans (hB4.mono HT3.out.2.size)⟩
     have q1:=(hB4.cell (p:=⟨wr.heap.size,0,none⟩) hz3).trans r1;have q2:=(hB4.cell (p:=⟨wr.heap.size,1,none⟩) hz3).trans r2;have hz4:wr.heap.size<w4.heap.size:=by have:=hB4.size;omega
     clear hB4 r1 r2 hz3 HT3;go_wp2_with fail
     refine(NR _ _ _ _ (by omega)).mono ?_;rintro e w5 ⟨p,c,rfl,hB5,hG⟩;have hT5:BI w5 w.heap.size n {s with L:=Ac s.L i true}:=HT4.out.1.below hB5 (by omega);have hB6:Below w.heap.size w w5:=HT4.out.2.trans (hB5.mono HT4.out.2.size);have hG5:Ej w5 (w.heap.size+1+1) p (Bj (op i) (ar i) i):=by
      rcases hG with h|⟨bl,a1,a2,a3,a4⟩
      ·exact Or.inl h
      ·exact Or.inr ⟨bl,by omega,a2,a3,a4⟩
     have hnn:=LJ (i:=i) (fun hx=>(DF (HI.out.2 i h1) hx).1);have hln:=LD (op i) (ar i) i;have HLK':=HLK.out;clear HT4 hB5 hG q1 q2 HLK HI HQ Hsh Hpq;generalize {s with L:=Ac s.L i true}=s1 at *;generalize Bj (op i) (ar i) i=l at *;generalize hh-pp+qq=d at *;have HF:Hid ((∀ t,t∈l->0<=t)/\(er,sr)=BU n d l s1):=⟨hnn,HLK'⟩
     have HS:Hid (BI w5 w.heap.size n s1/\Below w.heap.size w w5/\Ej w5 (w.heap.size+1+1) p l):=⟨hT5,hB6,hG5⟩
     clear hnn HLK' hT5 hB6 hG5;go_wp2;go_loopw [11] (fun v wz=>∃ (k:Nat) (sk:St),k<=l.length/\v=.int .i64 k/\BU n d l s1=BU n d (l.drop k) sk/\BI wz w.heap.size n sk/\Below w.heap.size w wz/\Ej wz (w.heap.size+1+1) p l) (fun v _=>l.length-(intOf v).toNat)
     case atStart=>exact⟨0,s1,Tt _,rfl,rfl,HS.out.1,HS.out.2.1,HS.out.2.2⟩
     case round =>
      obtain⟨k,sk,hk,rfl,hR,hT,hB,hG⟩:=hrel;by_cases hlt:k<l.length
      ·rcases hG with rfl|⟨bl,g1,g2,rfl,hI⟩
       ·simp at hlt
       ·have zz:=hI k hlt;have hz0:0<=l.getD k 0:=HF.out.1 _ (by rw[Jz l k hlt];exact List.getElem_mem _);have hst:=Mx n d l sk k hlt;generalize l.getD k 0=tk at *;obtain⟨t,rfl⟩:=Int.eq_ofNat_of_zero_le hz0;unfold Cg at hst;simp only[Int.toNat_natCast] at hst;by_cases hnt:(n:Int)<=(t:Int)
        ·rw[if_pos hnt] at hst;have he:(er,sr)=(3,sk):=by rw[HF.out.2,hR,hst];rfl
         obtain⟨rfl,rfl⟩:=Prod.mk.inj he;have HY:Hid (R=(3,(i:Int))/\Below w.heap.size w wr):=⟨by rw[<-HX.out.1];rfl,hB⟩
         clear hst he HX HF HS hR hT hB hI;go_wp2;go_ret2
         rw[HY.out.1];exact⟨rfl,HY.out.2⟩
        ·rw[if_neg hnt] at hst;have c0:=hT.K.cell (i:=t) (by omega);have c2:=hT.H.cell (i:=t) (by omega);have f0:=hT.K.frozen t;have f2:=hT.H.frozen t;have ht:t<n:=by omega
         have hbl0:¬bl=w.heap.size:=by omega
         have hbl2:¬bl=w.heap.size+1+1:=by omega
         by_cases hkh:sk.K t=true/\sk.H t≠d
         ·rw[if_pos hkh] at hst;have he:(er,sr)=(4,sk):=by rw[HF.out.2,hR,hst];rfl
          obtain⟨rfl,rfl⟩:=Prod.mk.inj he;have HY:Hid (R=(4,(i:Int))/\Below w.heap.size w wr):=⟨by rw[<-HX.out.1];rfl,hB⟩
          rw[hkh.1] at c0;have hne:(sr.H t != d)=true:=by simpa using hkh.2
          clear hst he HX HF HS hR hT hB hI hkh;generalize sr.H t=ht2 at *;go_wp2;go_ret2
          rw[HY.out.1];exact⟨rfl,HY.out.2⟩
         ·rw[if_neg hkh] at hst;simp only[if_true] at hst;have hT':=(hT.setK t true).setH t d;have hB':Below w.heap.size w ((wr.setCell ⟨w.heap.size,t,none⟩ (.bool true)).setCell ⟨w.heap.size+1+1,t,none⟩ (.int .i64 d)):=(hB.setCell (by simp) _).setCell (by simp;omega) _;have hG':Ej ((wr.setCell ⟨w.heap.size,t,none⟩ (.bool true)).setCell ⟨w.heap.size+1+1,t,none⟩ (.int .i64 d)) (w.heap.size+1+1) (some ⟨bl,0,none⟩) l :=
           Ej.set (Ej.set (Or.inr ⟨bl,g1,g2,rfl,hI⟩) (by dsimp only;omega) _) (by dsimp only;omega) _
          have HZ:Hid (BU n d l s1=BU n d (l.drop (k+1)) {K:=Ac sk.K t true,L:=sk.L,H:=Ac sk.H t d}/\BI ((wr.setCell ⟨w.heap.size,t,none⟩ (.bool true)).setCell ⟨w.heap.size+1+1,t,none⟩ (.int .i64 d)) w.heap.size n {K:=Ac sk.K t true,L:=sk.L,H:=Ac sk.H t d}/\Below w.heap.size w ((wr.setCell ⟨w.heap.size,t,none⟩ (.bool true)).setCell ⟨w.heap.size+1+1,t,none⟩ (.int .i64 d))/\Ej ((wr.setCell ⟨w.heap.size,t,none⟩ (.bool true)).setCell ⟨w.heap.size+1+1,t,none⟩ (.int .i64 d)) (w.heap.size+1+1) (some ⟨bl,0,none⟩) l):=⟨hR.trans hst,hT',hB',hG'⟩
          clear hst hT' hB' hG' hR hT hB hI;cases hK:sk.K t
          ·rw[hK] at c0;clear hK hkh;generalize hht:sk.H t=ht2 at c2;clear hht;go_wp2;go_roundw
           case rel=>exact⟨k+1,_,by omega,by go_num,HZ.out.1,HZ.out.2.1,HZ.out.2.2.1,HZ.out.2.2.2⟩
           case measure=>simp[intOf];omega
          ·have hd:sk.H t=d:=by
            by_cases e:sk.H t=d
            ·exact e
            ·exact absurd ⟨hK,e⟩ hkh
           rw[hK] at c0;rw[hd] at c2;clear hK hkh hd;go_wp2;go_roundw
           case rel=>exact⟨k+1,_,by omega,by go_num,HZ.out.1,HZ.out.2.1,HZ.out.2.2.1,HZ.out.2.2.2⟩
           case measure=>simp[intOf];omega
      ·obtain rfl:k=l.length:=by omega
       have he:(er,sr)=(0,sk):=by rw[HF.out.2,hR,Ma]
       obtain⟨rfl,rfl⟩:=Prod.mk.inj he;clear he HF HS hR hG;have HV:Hid (BI wr w.heap.size n sr/\Below w.heap.size w wr):=⟨hT,hB⟩
       have cK:=fun j (hj:j<n)=>hT.K.cell hj
       have cL:=fun j (hj:j<n)=>hT.L.cell hj
       clear hT hB;have HC:Hid ((∀ j,j<n->wr.cell? ⟨w.heap.size,j,none⟩=some (.bool (sr.K j)))/\(∀ j,j<n->wr.cell? ⟨w.heap.size+1,j,none⟩=some (.bool (sr.L j)))):=⟨cK,cL⟩
       clear cK cL;go_wp2;go_loop [7,12] (fun v7 v12=>∃ (t:Nat) (v x:Int),t<=n/\v12=.int .i64 x/\x=(t:Int)-1/\v7=.int .i64 v/\Dq sr n t v) (fun _ v12=>(intOf v12+1).toNat)
       case atStart=>exact⟨n,-1,_,Te _,rfl,rfl,rfl,Dq.start _ _⟩
       case round =>
        obtain⟨t,v,x,ht,rfl,hx,rfl,hD⟩:=hrel;by_cases h0:t=0
        ·obtain rfl:x=-1:=by omega
         subst h0;have hv:=hD.done;obtain⟨hF2,hLL,hHH,hul,hu⟩:=HX.out;have hF3:Cl n op ar gk sr=R:=by simpa using hF2
         have HY:Hid (∃ s:St,Value.int .i64 v=.int .i64 (Eu s n)/\Cf s.L n<=gk-1/\Cl n op ar (gk-1+1) s=R/\HB s/\BI wr w.heap.size n s/\Below w.heap.size w wr) :=
          ⟨sr,by rw[hv],by rw[hLL];omega,by rw[show gk-1+1=gk by omega];exact hF3,hHH,HV.out.1,HV.out.2⟩
         have hgk:gk-1<gk:=by omega
         clear hF2 hF3 hLL hHH hul hu hv hD HX HV HC hx;go_wp2;go_roundg (gk-1)
         case measure=>exact hgk
         case rel=>exact HY.out
        ·obtain⟨u,rfl⟩:∃ u:Nat,x=(u:Int):=⟨t-1,by omega⟩
         obtain rfl:t=u+1:=by omega
         have c0:=HC.out.1 u (by omega);have c1:=HC.out.2 u (by omega);have hun:u<n:=by omega
         cases hK:sr.K u
         ·have HD:Hid (Dq sr n u v):=hD.miss (by simp[Ba,hK]);rw[hK] at c0;clear hK hD hx;generalize sr.L u=lu at c1;go_wp2;go_round
          case rel=>exact⟨u,v,_,by omega,rfl,by omega,rfl,HD.out⟩
          case measure=>simp[intOf]
         ·cases hL:sr.L u
          ·have HD:Hid (Dq sr n u (u:Int)):=Dq.hit hun (by simp[Ba,hK,hL]);rw[hK] at c0;rw[hL] at c1;clear hK hL hD hx;go_wp2;go_round
           case rel=>exact⟨u,_,_,by omega,rfl,by omega,rfl,HD.out⟩
           case measure=>simp[intOf]
          ·have HD:Hid (Dq sr n u v):=hD.miss (by simp[Ba,hL]);rw[hK] at c0;rw[hL] at c1;clear hK hL hD hx;go_wp2;go_round
           case rel=>exact⟨u,v,_,by omega,rfl,by omega,rfl,HD.out⟩
           case measure=>simp[intOf]
  ·rw[h1,if_neg (by omega)] at hF2 ⊢;have HY:Hid (R=(0,0)/\Below w.heap.size w wr):=⟨hF2.symm,hB⟩
   clear hF2 h1 h2 hu hF hH hT hB;go_wp2;go_ret2
   rw[HY.out.1];exact⟨rfl,HY.out.2⟩
end
theorem MN{P:Program}(t e:TypeId)(z:Value)(size bytes:Nat)(ht:P.underlying t=some (.slice e))(hinfo:(P.info? e).map (fun i=>(i.zero,i.size,i.bytes))=some (some z,size,bytes))
  (g:Option Addr) (a:Addr) (n c:Nat) (news:List Value) (hl:news.length=n * size) (h1:∀ u∈news,u.oneCell'=true) (hn:1<=n) (hb:n * bytes<=281474976710656) (h63:n<=9223372036854775807)
  (w:World) (hnews:∀ j u,news[j]?=some u->w.cell? (a.add j)=some u) :
  ∃ (cap:Nat) (w':World),(Builtin.append_ #[t,t] t #[.slice g 0 0,.slice (some a) n c]).run P w=.ok (.slice (some ⟨w.heap.size,0,none⟩) n cap) w'/\Below w.heap.size w w'/\w'.heap.size=w.heap.size+1 /\
   (∀ j u,news[j]?=some u->w'.cell? ⟨w.heap.size,j,none⟩=some u)/\(∀ j,w'.frozen? ⟨w.heap.size,j,none⟩=false)/\n<=cap:=by
 obtain⟨i,hi,hzz⟩:=Tp.1 hinfo;simp only[Prod.mk.injEq] at hzz;obtain⟨hz,hs,hby⟩:=hzz;subst hs;have hsrc:Src P i.size t (.slice (some a) n c) n news w:=Src.ofSlice w ht a n c news hl hnews h1;have hold:(Builtin.firstCells i.size 0 (.slice g 0 0)).run P w.drew=.ok ([]:List Value).toArray w.drew:=by
  cases g with
  |none=>exact run_firstCells_none w.drew i.size 0 0 0
  |some g=>exact run_firstCells_some w.drew i.size 0 g 0 0 [] (by simp) (by simp)
 have hr:=run_append_grow_src w t t t e i z ht hi hz g 0 0 [] hold (.slice (some a) n c) n news hsrc (by omega) (by omega) (by
  unfold Builtin.nextslicecap;rw[if_pos (by omega),hby];simpa using hb)
 simp only[Nat.zero_add,List.nil_append] at hr;refine⟨_,_,hr,?_,?_,?_,?_,grownCap_ge w n 0 e⟩
 ·exact(Tu _ _).drew.alloc (Te _) _
 ·simp
 ·intro j u hu;have hj:j<news.length:=by
   rw[List.getElem?_eq_some_iff] at hu;exact hu.1
  rw[BP w.drew _ _ w.heap.size _ rfl,Array.getElem?_append_left (by simpa using hj)];simpa using hu
 ·intro j;unfold World.frozen?;have:(w.drew.alloc (.cells (news.toArray++Builtin.zeroCells z.cells (grownCap w n 0 e-n)) e)).heap[w.heap.size]?=some (.cells (news.toArray++Builtin.zeroCells z.cells (grownCap w n 0 e-n)) e):=Tv _ _;rw[this];simp
theorem Ny{P:Program}(t e:TypeId)(z:Value)(size bytes:Nat)(ht:P.underlying t=some (.slice e))(hinfo:(P.info? e).map (fun i=>(i.zero,i.size,i.bytes))=some (some z,size,bytes))
  (g:Option Addr) (a:Addr) (n c:Nat) (news:List Value) (hl:news.length=n * size) (h1:∀ u∈news,u.oneCell'=true) (hn:1<=n) (hb:n * bytes<=281474976710656) (h63:n<=9223372036854775807)
  (w:World) (hnews:∀ j u,news[j]?=some u->w.cell? (a.add j)=some u) :
  ∃ (cap:Nat) (w':World),(Builtin.append_ #[t,t] t #[.slice g 0 0,.slice (some a) n c]).run P w=.ok (.slice (some ⟨w.heap.size,0,none⟩) n cap) w'/\Below w.heap.size w w'/\w'.heap.size=w.heap.size+1 /\
   (∀ j u,news[j]?=some u->w'.cell? ⟨w.heap.size,j,none⟩=some u)/\(∀ j,w'.frozen? ⟨w.heap.size,j,none⟩=false):=by
 obtain⟨cap,w',h1',h2',h3',h4',h5',_⟩:=MN t e z size bytes ht hinfo g a n c news hl h1 hn hb h63 w hnews;exact⟨cap,w',h1',h2',h3',h4',h5'⟩
theorem BV{P:Program}(w:World){ops:Array Oper}{rest:List Oper}{o:Oper}{a:Act}{Q:Exit->Act->World->Prop}
  (hg:o.guard=none) (x y:Operand) (t:TypeId) (hop:o.op=Op.call {callee:=Callee.builtin Builtin.append,args:=#[x,y],argTypes:=#[t,t]})
  (vx vy v:Value) (w':World) (hx:a.eval x=vx) (hy:a.eval y=vy) (hrun:(Builtin.append_ #[t,t] o.type #[vx,vy]).run P w=.ok v w')
  (hK:wpList P ops Q rest (a.put o.dst v) w'):wpList P ops Q (o::rest) a w:=by
 refine wpList_plain hg fun K hK'=>?_
 unfold Oper.wp;simp[execOp,hop,resolve,invoke,builtin,hx,hy,hrun,Result.andThen];exact hK' _ _ hK
theorem Tryz.info31:(prog.info? 31).map (fun i=>(i.zero,i.size,i.bytes))=some (some (.agg #[.int .i64 0,.int .i64 0,.slice none 0 0]),3,40):=by kernel_rfl
theorem Tryz.info33:(prog.info? 33).map (fun i=>(i.zero,i.size,i.bytes))=some (some (.agg #[.int .i64 0,.int .i64 0]),2,16):=by kernel_rfl
theorem Qz(pb po pc m:Nat)(news:List Value)(w:World)(hm:1<=m)(hm8:m<=8)(hl:news.length=m * 3)(h1:∀ u∈news,u.oneCell'=true)(hpb:pb<w.heap.size)(hnews:∀ j u,news[j]?=some u->w.cell? ⟨pb,po+j,none⟩=some u) :
  Calls prog 50 #[.slice (some ⟨pb,po,none⟩) m pc] w fun e w'=>∃ g cap,e=.returned (.slice (some ⟨g,0,none⟩) m cap)/\Below w.heap.size w w'/\w.heap.size<=g/\g<w'.heap.size /\
   (∀ j u,news[j]?=some u->w'.cell? ⟨g,j,none⟩=some u)/\(∀ j,w'.frozen? ⟨g,j,none⟩=false):=by
 have hnil:=fun wx=>Lib.run_eql_slice_nil (P:=prog) wx 23 31 (some ⟨pb,po,none⟩) m pc 0 0 underlying23
 obtain⟨cap,w2,hrun,hB,hz,hcells,hfz⟩:=Ny (P:=prog) 23 31 _ 3 40 underlying23 Tryz.info31 (some ⟨w.heap.size,0,none⟩) ⟨pb,po,none⟩ m pc news hl h1 hm (by omega) (by omega) (w.alloc (.cells #[] 31))
  (fun j u hu=>by rw[Addr.add_lit];exact((Below.cell ((Tu w.heap.size w).alloc (Te _) (.cells #[] 31)) (p:=⟨pb,po+j,none⟩) hpb)).trans (hnews j u hu))
 rw[World.size_alloc] at hrun hB hz hcells hfz;have HX:=Aa (Tc hB (Tc hz (Tc hcells hfz)));have HR:=Aa hrun;clear hB hz hcells hfz hnews h1 hl hrun;go_enter func50,ntmps50
 go_wp2_with (at_builtin;refine BV _ rfl _ _ 23 rfl _ _ _ _ rfl rfl HR.out ?_)
 go_ret;obtain⟨hB,hz,hcells,hfz⟩:=HX.out;exact⟨_,_,rfl,((Tu _ _).alloc (Te _) _).trans (hB.mono (by omega)),by omega,by omega,hcells,hfz⟩
end Go.Proofs.YtkafkipjedpohaaGreatDoor

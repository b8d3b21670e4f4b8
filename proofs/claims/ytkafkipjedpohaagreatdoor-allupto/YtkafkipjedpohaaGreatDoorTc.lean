import Derived.Test.YtkafkipjedpohaaGreatDoorTb
namespace Go.Proofs.YtkafkipjedpohaaGreatDoor
open Go.RowKit _root_.Go.Proofs.Tryz
def Fh(el:Nat)(ev:Nat->Int × Int × Int):List Ev:=(List.range el).map fun k=>⟨(ev k).1,(ev k).2.1,(ev k).2.2⟩
theorem F4(el:Nat)(ev:Nat->Int × Int × Int):(Fh el ev).length=el:=by simp[Fh]
theorem PO(el:Nat)(ev:Nat->Int × Int × Int)(k:Nat)(hk:k<el):(Fh el ev).getD k ⟨0,0,0⟩=⟨(ev k).1,(ev k).2.1,(ev k).2.2⟩:=by
 rw[Tj];simp[Fh,hk]
theorem Fx.evv{w:World}{ep:Option Addr}{el ec:Nat}{ev:Nat->Int × Int × Int}(h:Fx w ep el ev)(hc:el<=ec):Bs w w.heap.size (.slice ep (Fh el ev).length ec) (Fh el ev):=by
 refine⟨ep,ec,rfl,by rw[F4];exact hc,fun h0=>?_⟩;have hl:1<=el:=by
  cases el with
  |zero=>exact absurd rfl h0
  |succ k=>omega
 obtain⟨eb,eo,e1,e2,e3⟩:=h hl;refine⟨eb,eo,e1,e2,fun i hi=>?_⟩;rw[F4] at hi;rw[PO _ _ _ hi];obtain⟨k0,k1,k2,_⟩:=e3 i hi;exact⟨k0,k1,k2⟩
set_option maxRecDepth 100000
set_option maxHeartbeats 16000000
theorem R5(w:World)(B wb:Nat)(A:AN)(n:Nat->Nat)(nc:Nat)(CV PV:Nat->Value)(M:Nat->Nat)(FF:Nat->Nat->PF)(h:B3 w B wb A n nc CV PV M FF)(at_ N:Int)(ep pp:Option Addr)(ec pl pc:Nat)(E:List Ev)(hEv:Bs w w.heap.size (.slice ep E.length ec) E)(hEl:E.length<=5864062014805)(hat:-9223372036854775808<=at_/\at_<=9223372036854775807)(hnc:1<=nc)(hnc2:nc<=10000000)(hnb:∀ k,k<4->n k<=3000000000000) :
  Calls prog 38 #[.pointer (some ⟨wb,0,none⟩),.agg #[.int .i64 5,.int .i64 at_,.int .i64 N,.slice ep E.length ec,.slice pp pl pc]] w (Cn w B wb n nc CV PV M FF):=by
 have hcr:=h.cr;have hpr:=h.pr;obtain⟨crb,crc,hcv,_,hcz,hct,_⟩:=hcr.form (by omega);obtain⟨prb,prc,hpv,_,hpz,hpt,_⟩:=hpr.form (by omega);rw[hcv] at hcr;rw[hpv] at hpr;have x0:w.cell? ⟨wb,0,none⟩=some (.slice (some ⟨crb,0,none⟩) nc crc):=by rw[Ab h.hold.blk,<-hcv];rfl
 have x1:w.cell? ⟨wb,1,none⟩=some (.slice (some ⟨prb,0,none⟩) nc prc):=by rw[Ab h.hold.blk,<-hpv];rfl
 have hwz:=Ah h.hold.blk;obtain⟨W,hWd⟩:∃ W,W=w.alloc (.cells #[.int .i64 5,.int .i64 at_,.int .i64 N,.slice ep E.length ec,.slice pp pl pc] 100):=⟨_,rfl⟩
 have hW:Below w.heap.size w W:=by rw[hWd];exact(Tu _ _).alloc (Te _) _
 have ob:W.heap[w.heap.size]?=some (.cells #[.int .i64 5,.int .i64 at_,.int .i64 N,.slice ep E.length ec,.slice pp pl pc] 100 (0,0)):=by rw[hWd];exact Tv _ _
 have o1:W.cell? ⟨w.heap.size,1,none⟩=some (.int .i64 at_):=(Ab ob).trans rfl;have y0:=(hW.cell (p:=⟨wb,0,none⟩) hwz).trans x0;have y1:=(hW.cell (p:=⟨wb,1,none⟩) hwz).trans x1;have hrc:=fun r (hr:r<nc)=>(hW.cell (p:=⟨crb,r,none⟩) hcz).trans (hcr.cell (i:=r) (by omega))
 have hrp:=fun r (hr:r<nc)=>(hW.cell (p:=⟨prb,r,none⟩) hpz).trans (hpr.cell (i:=r) (by omega))
 have HX:=Aa (Tc h (Tc hnb (Tc hW (Tc ob (Tc hrc (Tc hrp hEv))))));have HD:=Aa hWd;clear h hnb hcr hpr hcv hpv x0 x1 hW ob hrc hrp hct hpt hWd hEv;have hoz:w.heap.size<W.heap.size:=Ah HX.out.2.2.2.1;have hwzW:wb<W.heap.size:=by omega
 go_enter func38,ntmps38
 go_wp2_with fail
 rw[<-HD.out];refine AG (fun w'=>w'.cell? ⟨w.heap.size,1,none⟩=some (.int .i64 at_)/\w'.cell? ⟨wb,0,none⟩=some (.slice (some ⟨crb,0,none⟩) nc crc)) TH (by kernel_rfl) (by kernel_rfl) (Co _ _ _) ⟨o1,y0⟩ ?_;simp only[TH,lexL,Tl,Tm];iterate 7 (refine Aw (by rfl) (by intro w' hS';obtain⟨q0,q1⟩:=hS';go_simp;exact rfl) ?_;simp only[Act.put,Td,Th,Tg])
 refine Az (fun K hK=>?_);go_simp;refine(Gi at_ (nc:Int) W.drew hat (by omega)).mono ?_;rintro e w' ⟨r,rfl,hr,rfl⟩;refine hK.out _ _ ⟨o1,y0⟩ ?_;clear hK K;refine Aw (by rfl) (by intro w' hS';go_simp;exact rfl) ?_;simp only[Act.put,Td,Th,Tg];refine AF ?_;have hrn:r<nc:=by omega
 obtain⟨cb,g,cap,CA,CC,pb,po,pcc,CA2,CC2,K,H,ecv,c1,hP,hcc,epv,hP2,hF,hcbz⟩:=Gw (HX.out.1.cd r hrn);have z0:=HX.out.2.2.2.2.1 r hrn;have z1:=HX.out.2.2.2.2.2.1 r hrn;rw[ecv] at z0;rw[epv] at z1;have hWB:=HX.out.2.2.1;have hWd2:Below W.heap.size W W.drew:=(Tu _ _).drew;have hww:Below w.heap.size w W.drew:=hWB.trans (hWd2.mono hWB.size);have hEX:Bs W.drew W.drew.heap.size (.slice ep E.length ec) E:=by
  obtain⟨p',c',hv,h1,h2⟩:=HX.out.2.2.2.2.2.2.below hww;refine⟨p',c',hv,h1,fun h0=>?_⟩;obtain⟨eb,eo,e1,e2,e3⟩:=h2 h0;exact⟨eb,eo,e1,by have:=hww.size;omega,e3⟩
 have HR:=Aa (QN W.drew B wb A n nc CV PV M FF (HX.out.1.below hww) cb g cap (M r) (FF r) K H CA CC pb po pcc CA2 CC2 5 at_ N ep pp ec pl pc E ((hww.cell (p:=⟨cb,0,none⟩) hcbz).trans c1) (hP.below hww (Te _)) hcc (hP2.below hww (Te _)) hF hEX hEl (HX.out.2.1 0 (by omega)));have o0:W.cell? ⟨w.heap.size,0,none⟩=some (.int .i64 5):=(Ab HX.out.2.2.2.1).trans rfl;have o2:W.cell? ⟨w.heap.size,2,none⟩=some (.int .i64 N):=(Ab HX.out.2.2.2.1).trans rfl;have o3:W.cell? ⟨w.heap.size,3,none⟩=some (.slice ep E.length ec):=(Ab HX.out.2.2.2.1).trans rfl;have o4:W.cell? ⟨w.heap.size,4,none⟩=some (.slice pp pl pc):=(Ab HX.out.2.2.2.1).trans rfl;have i0:(0:Int)<=(r:Int):=by omega
 have HBW:=Aa (hww.mono HX.out.1.hold.le);clear hP hP2 hF ecv epv c1 hWB hWd2 hww hEX;go_wp2_with fail
 refine HR.out.mono ?_;rintro e w2 ⟨rfl,hB2,hA2⟩;have HQ:=Aa (show Cn w B wb n nc CV PV M FF (.returned (.bool true)) w2 from ⟨rfl,HBW.out.trans hB2,hA2⟩);clear hB2 hA2;go_wp2;go_ret;exact HQ.out
theorem L8:Io 5:=by
 intro w B wb A n nc CV PV M FF o h ho h2 h4 hnc hnc2 hnb;have:o.kd<=4\/o.kd=5:=by omega
 rcases this with e|e
 ·exact Od w B wb A n nc CV PV M FF o h ho h2 e hnc hnc2 hnb
 ·rw[e];have hv:=ho.ev.evv ho.cap;have hr:=R5 w B wb A n nc CV PV M FF h o.at_ o.num o.ep o.pp o.ec o.pl o.pc (Fh o.el o.ev) hv (by rw[F4];have:=ho.el;omega) ho.at_ hnc hnc2 hnb;rw[F4] at hr;exact hr
theorem Rc(w:World)(sp:Option Addr)(sl sc:Nat)(OP:Nat->DK)(hin:G8 w sp sl OP)(hsl:sl<=1048576)(ht:Cb w)(hw:0<w.heap.size) :
  Calls prog 6 #[.slice sp sl sc] w fun e w'=>e=.returned (.bool true)/\Below w.heap.size w w':=by
 have HI:=Aa (Tc hin ht);clear hin ht;go_enter func6,ntmps6
 go_wp2_with fail
 refine(Ks 5 L8 w sp sl sc OP HI.out.1 hsl HI.out.2 hw).mono ?_;rintro e w2 ⟨rfl,hB⟩;have HB:=Aa hB;clear hB;go_wp2;go_ret;exact⟨rfl,HB.out⟩
def sz:Array Value:=#[.slice none 0 0,.slice none 0 0]
def Iq(w1 X:World)(fr:List Fr)(arr:List (List V))(ab:Option Nat)(fv av:Value):Prop :=
 ∃ LV SV AV tg,Cc X w1.heap.size tg fv LV SV (Am fr) fr.length/\Cd X w1.heap.size tg av AV arr arr.length/\∀ x,ab=some x->tg x=9
structure DC (w1 X:World) (fr:List Fr) (arr:List (List V)) (ab:Option Nat) (oc:Option (Value × Value)):Prop where
 bl:Below w1.heap.size w1 X
 a:∀ b,ab=some b->X.heap[b]?=some (.cells sz 53 (0,0))/\w1.heap.size<=b
 o:∀ v,oc=some v->Iq w1 X fr arr ab v.1 v.2
theorem DC.start(w1:World)(fr:List Fr)(arr:List (List V)):DC w1 w1.drew fr arr none none :=
 ⟨(Tu _ _).drew,fun b h=>(by cases h),fun v h=>(by cases h)⟩
section
variable {w1 X:World}{fr:List Fr}{arr:List (List V)}
theorem DC.alloc53{oc:Option (Value × Value)}(h:DC w1 X fr arr none oc):DC w1 (X.alloc (.cells sz 53)) fr arr (some X.heap.size) oc:=by
 have hb:Below X.heap.size X (X.alloc (.cells sz 53)):=(Tu _ _).alloc (Te _) _;refine⟨h.bl.trans (hb.mono h.bl.size),fun b e=>?_,fun v e=>?_⟩
 ·injection e with e;subst e;exact⟨Tv _ _,h.bl.size⟩
 ·obtain⟨LV,SV,AV,tg,h1,h2,_⟩:=h.o v e;refine⟨LV,SV,AV,Ac tg X.heap.size 9,(h1.rebase (Te _) (fun b _ hb=>Ao _ _ _ _ (by omega))).below hb,(h2.rebase (Te _) (fun b _ hb=>Ao _ _ _ _ (by omega))).below hb,fun x e=>?_⟩;injection e with e;subst e;exact Au _ _ _
theorem DC.call{u2:World}{ab:Option Nat}{fv av:Value}(h:DC w1 X fr arr ab none)(hb:Below X.heap.size X u2){LV SV AV:Nat->Value}{tg:Nat->Nat}(h1:Cc u2 X.heap.size tg fv LV SV (Am fr) fr.length)(h2:Cd u2 X.heap.size tg av AV arr arr.length):DC w1 u2 fr arr ab (some (fv,av)):=by
 refine⟨h.bl.trans (hb.mono h.bl.size),fun b e=>?_,fun v e=>?_⟩
 ·obtain⟨h1,h2⟩:=h.a b e;exact⟨(hb.block b (Ah h1)).trans h1,h2⟩
 ·injection e with e;subst e;have ht:∀ b,X.heap.size<=b->b<u2.heap.size->(fun b=>if b<X.heap.size then 9 else tg b) b=tg b:=fun b hb _=>by show (if b<X.heap.size then 9 else tg b)=tg b;rw[if_neg (by omega)]
  refine⟨LV,SV,AV,_,h1.rebase h.bl.size ht,h2.rebase h.bl.size ht,fun x e=>?_⟩;have:=Ah (h.a x e).1;show (if x<X.heap.size then 9 else tg x)=9;rw[if_pos this]
def Gp(X:World)(a:Nat)(fv av:Value):World:=(X.setCell ⟨a,0,none⟩ fv).setCell ⟨a,1,none⟩ av
def KQ(w1:World)(er:Int)(fr:List Fr)(arr:List (List V))(v10 v11:Value)(wc:World):Prop :=
 v11=.int .i64 er/\∃ (ab:Nat) (fp ap:Option Addr) (fc ac:Nat),v10=.pointer (some ⟨ab,0,none⟩)/\Below w1.heap.size w1 wc/\w1.heap.size<=ab/\wc.heap[ab]?=some (.cells #[.slice fp fr.length fc,.slice ap arr.length ac] 53 (0,0))/\Iq w1 wc fr arr (some ab) (.slice fp fr.length fc) (.slice ap arr.length ac)
theorem DC.a_set{a:Nat}{fp ap:Option Addr}{fc ac:Nat}(h:DC w1 X fr arr (some a) (some (.slice fp fr.length fc,.slice ap arr.length ac)))(er:Int) :
  KQ w1 er fr arr (.pointer (some ⟨a,0,none⟩)) (.int .i64 er) (Gp X a (.slice fp fr.length fc) (.slice ap arr.length ac)):=by
 obtain⟨h1,h2⟩:=h.a a rfl;obtain⟨LV,SV,AV,tg,r1,r2,r3⟩:=h.o _ rfl;have ta:=r3 a rfl;have hc:Ch w1.heap.size (fun d=>d=9) tg tg X (Gp X a (.slice fp fr.length fc) (.slice ap arr.length ac)):=(Ch.set X a 0 _ h2 ta).trans (Ch.set _ a 1 _ h2 ta);refine⟨rfl,a,fp,ap,fc,ac,rfl,h.bl.trans (hc.below h.bl.size),h2,?_,LV,SV,AV,tg,r1.keep hc (by omega) (fun i _=>by omega),r2.keep hc (by omega) (fun j _=>by omega),fun x e=>by injection e with e;subst e;exact ta⟩;unfold Gp;rw[CD (CD h1 _) _];rfl
theorem DC.a_reads{a:Nat}{oc:Option (Value × Value)}(h:DC w1 X fr arr (some a) oc):(X.cell? ⟨a,0,none⟩=some (.slice none 0 0)/\X.cell? ⟨a,1,none⟩=some (.slice none 0 0))/\(X.frozen? ⟨a,0,none⟩=false/\X.frozen? ⟨a,1,none⟩=false)/\a<X.heap.size:=by
 obtain⟨h1,_⟩:=h.a a rfl;exact⟨⟨(Ab h1).trans rfl,(Ab h1).trans rfl⟩,⟨Ax h1,Ax h1⟩,Ah h1⟩
theorem Md{w:World}{B wb:Nat}{A:AN}{n:Nat->Nat}{nc:Nat}{CV PV:Nat->Value}{M:Nat->Nat}{FF:Nat->Nat->PF}(h:B3 w B wb A n nc CV PV M FF)(hu:Below w.heap.size w w1)(hX:Below w1.heap.size w1 X)(fr:List Fr)(arr:List (List V))(ab:Nat)(fp ap:Option Addr)(fc ac:Nat)(hab:w1.heap.size<=ab)(hO:Iq w1 X fr arr (some ab) (.slice fp fr.length fc) (.slice ap arr.length ac))(h1:fr.length<=24)(h4:arr.length<=100000)(h2:∀ i,i<fr.length->(Am fr i).loc.length<=200000/\(Am fr i).stk.length<=200000)(h3:∀ j,j<arr.length->(arr.getD j []).length<=200000)(hnb:∀ k,k<4->n k<=3000000000000) :
  Calls prog 60 #[.pointer (some ⟨wb,2,none⟩),.agg #[.slice fp fr.length fc,.slice ap arr.length ac]] X fun e w5=>e=.returned (.tuple #[])/\Cn w B wb n nc CV PV M FF (.returned (.bool true)) w5/\(ab<X.heap.size->w5.heap[ab]?=X.heap[ab]?):=by
 obtain⟨LV,SV,AV,tg,hFo,hAo,hta⟩:=hO;have hBw:B<=w.heap.size:=h.hold.le;have hWs:=hu.size;have hww4:Below w.heap.size w X:=hu.trans (hX.mono hu.size);obtain⟨tX,htX⟩:∃ tX:Nat->Nat,tX=fun b=>if b<w1.heap.size then A.tag b else tg b:=⟨_,rfl⟩
 have htN:∀ b,w1.heap.size<=b->b<X.heap.size->tX b=tg b:=fun b h1 _=>by rw[htX];show (if b<w1.heap.size then A.tag b else tg b)=tg b;rw[if_neg (by omega)]
 have hF4:Cc X B tX (.slice fp fr.length fc) LV SV (Am fr) fr.length:=hFo.rebase (by omega) htN;have hA4:Cd X B tX (.slice ap arr.length ac) AV arr arr.length:=hAo.rebase (by omega) htN;have htA:∀ b,b<w.heap.size->tX b=A.tag b:=fun b hb=>by rw[htX];show (if b<w1.heap.size then A.tag b else _)=_;rw[if_pos (by omega)]
 have hhold:AZ X B wb {A with tag:=tX} (fun d=>d=9) n:=h.hold.keep (Ch.of_tags (p:=fun _=>False) hww4 htA) (fun _ _ h=>h);have hq:∀ k,k<4->∃ q,n k=4 * q:=fun k hk=>⟨n k / 4,by have:=h.four k hk;omega⟩
 obtain⟨q,hq0⟩:=hq 0 (by omega);obtain⟨q1,hq1⟩:=hq 1 (by omega);obtain⟨q2,hq2⟩:=hq 2 (by omega);have hn0:=hnb 0 (by omega);have hn1:=hnb 1 (by omega);have hn2:=hnb 2 (by omega);refine(KJ X B wb {A with tag:=tX} fp ap fc ac LV SV AV (Am fr) fr.length arr.length arr n q q1 q2 hhold hF4 hA4 hq0 hq1 hq2 (by omega) (by omega) (by omega) h1 h4 h2 h3).mono ?_;rintro e w5 ⟨rfl,A5,n5,h5,n50,n51,n52,n53,cv5,pv5,hb5,ht5,hB5⟩;refine⟨rfl,⟨rfl,(hww4.mono hBw).trans hB5,A5,n5,?_,fun k hk=>?_⟩,fun hlt=>hb5 ab hlt (Or.inr (Or.inr (Or.inr ((htN ab hab hlt).trans (hta ab rfl)))))⟩
 ·refine h.afterS hww4 htA h5 (fun b hb hp=>hb5 b hb hp) (fun b hb hp=>ht5 b hb hp) hB5.size cv5 pv5 (fun k hk=>?_);have:k=0\/k=1\/k=2\/k=3:=by omega
  rcases this with rfl|rfl|rfl|rfl
  ·rw[n50];omega
  ·rw[n51];omega
  ·rw[n52];omega
  ·rw[n53];exact h.four 3 (by omega)
 ·have:k=0\/k=1\/k=2\/k=3:=by omega
  rcases this with rfl|rfl|rfl|rfl
  ·rw[n50];omega
  ·rw[n51];omega
  ·rw[n52];omega
  ·rw[n53];omega
end
end Go.Proofs.YtkafkipjedpohaaGreatDoor

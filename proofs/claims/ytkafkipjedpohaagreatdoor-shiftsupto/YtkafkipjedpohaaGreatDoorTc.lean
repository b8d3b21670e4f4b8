import Derived.Test.YtkafkipjedpohaaGreatDoorTb
import Derived.Test.YtkafkipjedpohaaGreatDoorCards
import Derived.Test.YtkafkipjedpohaaGreatDoorTie
import Derived.OpenShut
import Derived.Deep.DeepHandedRow
import Derived.Lib.LaidTab
namespace Go.Proofs.YtkafkipjedpohaaGreatDoor
open Go.RowKit _root_.Go.Proofs.Tryz
def Fh(el:Nat)(ev:Nat->Int × Int × Int):List Ev:=(List.range el).map fun k=>⟨(ev k).1,(ev k).2.1,(ev k).2.2⟩
theorem F4(el:Nat)(ev:Nat->Int × Int × Int):(Fh el ev).length=el:=by simp[Fh]
theorem PO(el:Nat)(ev:Nat->Int × Int × Int)(k:Nat)(hk:k<el):(Fh el ev).getD k ⟨0,0,0⟩=⟨(ev k).1,(ev k).2.1,(ev k).2.2⟩:=by
 rw[Tj];simp[Fh,hk]
theorem Fx.evv{w:World}{ep:Option Addr}{el ec:Nat}{ev:Nat->Int × Int × Int}(h:Fx w ep el ev)(hc:el<=ec):Bs w w.heap.size (.slice ep (Fh el ev).length ec) (Fh el ev):=by
 refine⟨ep,ec,rfl,by rw[F4];exact hc,fun h0=>?_⟩;have hl:1<=el:=by
  cases el with
  |zero=>exact absurd rfl h0
  |succ k=>omega
 obtain⟨eb,eo,e1,e2,e3⟩:=h hl;refine⟨eb,eo,e1,e2,fun i hi=>?_⟩;rw[F4] at hi;rw[PO _ _ _ hi];obtain⟨k0,k1,k2,_⟩:=e3 i hi;exact⟨k0,k1,k2⟩
set_option maxRecDepth 100000
set_option maxHeartbeats 16000000
theorem R5(w:World)(B wb:Nat)(A:AN)(n:Nat->Nat)(nc:Nat)(CV PV:Nat->Value)(M:Nat->Nat)(FF:Nat->Nat->PF)(h:B3 w B wb A n nc CV PV M FF)(at_ N:Int)(ep pp:Option Addr)(ec pl pc:Nat)(E:List Ev)(hEv:Bs w w.heap.size (.slice ep E.length ec) E)(hEl:E.length<=5864062014805)(hat:-9223372036854775808<=at_/\at_<=9223372036854775807)(hnc:1<=nc)(hnc2:nc<=10000000)(hnb:∀ k,k<4->n k<=3000000000000) :
  Calls prog 38 #[.pointer (some ⟨wb,0,none⟩),.agg #[.int .i64 5,.int .i64 at_,.int .i64 N,.slice ep E.length ec,.slice pp pl pc]] w (Cn w B wb n nc CV PV M FF):=by
 have hcr:=h.cr;have hpr:=h.pr;obtain⟨crb,crc,hcv,_,hcz,hct,_⟩:=hcr.form (by omega);obtain⟨prb,prc,hpv,_,hpz,hpt,_⟩:=hpr.form (by omega);rw[hcv] at hcr;rw[hpv] at hpr;have x0:w.cell? ⟨wb,0,none⟩=some (.slice (some ⟨crb,0,none⟩) nc crc):=by rw[Ab h.hold.blk,<-hcv];rfl
 have x1:w.cell? ⟨wb,1,none⟩=some (.slice (some ⟨prb,0,none⟩) nc prc):=by rw[Ab h.hold.blk,<-hpv];rfl
 have hwz:=Ah h.hold.blk;obtain⟨W,hWd⟩:∃ W,W=w.alloc (.cells #[.int .i64 5,.int .i64 at_,.int .i64 N,.slice ep E.length ec,.slice pp pl pc] 100):=⟨_,rfl⟩
 have hW:Below w.heap.size w W:=by rw[hWd];exact(Tu _ _).alloc (Te _) _
 have ob:W.heap[w.heap.size]?=some (.cells #[.int .i64 5,.int .i64 at_,.int .i64 N,.slice ep E.length ec,.slice pp pl pc] 100 (0,0)):=by rw[hWd];exact Tv _ _
 have o1:W.cell? ⟨w.heap.size,1,none⟩=some (.int .i64 at_):=(Ab ob).trans rfl;have y0:=(hW.cell (p:=⟨wb,0,none⟩) hwz).trans x0;have y1:=(hW.cell (p:=⟨wb,1,none⟩) hwz).trans x1;have hrc:=fun r (hr:r<nc)=>(hW.cell (p:=⟨crb,r,none⟩) hcz).trans (hcr.cell (i:=r) (by omega))
 have hrp:=fun r (hr:r<nc)=>(hW.cell (p:=⟨prb,r,none⟩) hpz).trans (hpr.cell (i:=r) (by omega))
 have HX:=Aa (Tc h (Tc hnb (Tc hW (Tc ob (Tc hrc (Tc hrp hEv))))));have HD:=Aa hWd;clear h hnb hcr hpr hcv hpv x0 x1 hW ob hrc hrp hct hpt hWd hEv;have hoz:w.heap.size<W.heap.size:=Ah HX.out.2.2.2.1;have hwzW:wb<W.heap.size:=by omega
 go_enter func38,ntmps38
 go_wp2_with fail
 rw[<-HD.out];refine AG (fun w'=>w'.cell? ⟨w.heap.size,1,none⟩=some (.int .i64 at_)/\w'.cell? ⟨wb,0,none⟩=some (.slice (some ⟨crb,0,none⟩) nc crc)) TH (by kernel_rfl) (by kernel_rfl) (Co _ _ _) ⟨o1,y0⟩ ?_;simp only[TH,lexL,Tl,Tm];iterate 7 (refine Aw (by rfl) (by intro w' hS';obtain⟨q0,q1⟩:=hS';go_simp;exact rfl) ?_;simp only[Act.put,Td,Th,Tg])
 refine Az (fun K hK=>?_);go_simp;refine(Gi at_ (nc:Int) W.drew hat (by omega)).mono ?_;rintro e w' ⟨r,rfl,hr,rfl⟩;refine hK.out _ _ ⟨o1,y0⟩ ?_;clear hK K;refine Aw (by rfl) (by intro w' hS';go_simp;exact rfl) ?_;simp only[Act.put,Td,Th,Tg];refine AF ?_;have hrn:r<nc:=by omega
 obtain⟨cb,g,cap,CA,CC,pb,po,pcc,CA2,CC2,K,H,ecv,c1,hP,hcc,epv,hP2,hF,hcbz⟩:=Gw (HX.out.1.cd r hrn);have z0:=HX.out.2.2.2.2.1 r hrn;have z1:=HX.out.2.2.2.2.2.1 r hrn;rw[ecv] at z0;rw[epv] at z1;have hWB:=HX.out.2.2.1;have hWd2:Below W.heap.size W W.drew:=(Tu _ _).drew;have hww:Below w.heap.size w W.drew:=hWB.trans (hWd2.mono hWB.size);have hEX:Bs W.drew W.drew.heap.size (.slice ep E.length ec) E:=by
  obtain⟨p',c',hv,h1,h2⟩:=HX.out.2.2.2.2.2.2.below hww;refine⟨p',c',hv,h1,fun h0=>?_⟩;obtain⟨eb,eo,e1,e2,e3⟩:=h2 h0;exact⟨eb,eo,e1,by have:=hww.size;omega,e3⟩
 have HR:=Aa (QN W.drew B wb A n nc CV PV M FF (HX.out.1.below hww) cb g cap (M r) (FF r) K H CA CC pb po pcc CA2 CC2 5 at_ N ep pp ec pl pc E ((hww.cell (p:=⟨cb,0,none⟩) hcbz).trans c1) (hP.below hww (Te _)) hcc (hP2.below hww (Te _)) hF hEX hEl (HX.out.2.1 0 (by omega)));have o0:W.cell? ⟨w.heap.size,0,none⟩=some (.int .i64 5):=(Ab HX.out.2.2.2.1).trans rfl;have o2:W.cell? ⟨w.heap.size,2,none⟩=some (.int .i64 N):=(Ab HX.out.2.2.2.1).trans rfl;have o3:W.cell? ⟨w.heap.size,3,none⟩=some (.slice ep E.length ec):=(Ab HX.out.2.2.2.1).trans rfl;have o4:W.cell? ⟨w.heap.size,4,none⟩=some (.slice pp pl pc):=(Ab HX.out.2.2.2.1).trans rfl;have i0:(0:Int)<=(r:Int):=by omega
 have HBW:=Aa (hww.mono HX.out.1.hold.le);clear hP hP2 hF ecv epv c1 hWB hWd2 hww hEX;go_wp2_with fail
 refine HR.out.mono ?_;rintro e w2 ⟨rfl,hB2,hA2⟩;have HQ:=Aa (show Cn w B wb n nc CV PV M FF (.returned (.bool true)) w2 from ⟨rfl,HBW.out.trans hB2,hA2⟩);clear hB2 hA2;go_wp2;go_ret;exact HQ.out
theorem L8:Io 5:=by
 intro w B wb A n nc CV PV M FF o h ho h2 h4 hnc hnc2 hnb;have:o.kd<=4\/o.kd=5:=by omega
 rcases this with e|e
 ·exact Od w B wb A n nc CV PV M FF o h ho h2 e hnc hnc2 hnb
 ·rw[e];have hv:=ho.ev.evv ho.cap;have hr:=R5 w B wb A n nc CV PV M FF h o.at_ o.num o.ep o.pp o.ec o.pl o.pc (Fh o.el o.ev) hv (by rw[F4];have:=ho.el;omega) ho.at_ hnc hnc2 hnb;rw[F4] at hr;exact hr
theorem Rc(w:World)(sp:Option Addr)(sl sc:Nat)(OP:Nat->DK)(hin:G8 w sp sl OP)(hsl:sl<=1048576)(ht:Cb w)(hw:0<w.heap.size) :
  Calls prog 6 #[.slice sp sl sc] w fun e w'=>e=.returned (.bool true)/\Below w.heap.size w w':=by
 have HI:=Aa (Tc hin ht);clear hin ht;go_enter func6,ntmps6
 go_wp2_with fail
 refine(Ks 5 L8 w sp sl sc OP HI.out.1 hsl HI.out.2 hw).mono ?_;rintro e w2 ⟨rfl,hB⟩;have HB:=Aa hB;clear hB;go_wp2;go_ret;exact⟨rfl,HB.out⟩
open Go.ChangeShapes Go.WideShapes Go.ChangeAt Go.RowKit
theorem Tryz.own:ownKnob Tryz.prog.godebug=none:=by kernel_rfl
theorem Tryz.laidOut:laidOutB Tryz.prog=true:=by kernel_rfl
theorem FC:Tryz.prog.globalNamed "upshift/check.effects"=some 0:=by kernel_rfl
theorem Jd:(Tryz.prog.globals[0]?).map (·.type)=some 194:=by kernel_rfl
theorem Tryz.cells185:Tryz.prog.cellsOf 185=2:=by kernel_rfl
theorem Tryz.cells194:Tryz.prog.cellsOf 194=44:=by kernel_rfl
def EK{H:Type}(i:Nat):DataW H:=.agg [.lit (.int .i64 (A6 i)),.lit (.int .i64 (Bc i))]
theorem JB{H:Type}:(Rows.laid_upshift_check_effects:DataW H)=.agg ((List.range 22).map EK):=by rfl
theorem I6{W:World}(h:laidMetH Tryz.prog Rows.shiftsUptoRow.laid W):Cb W:=by
 have h':laidMet Tryz.prog [("upshift/check.effects",Rows.laid_upshift_check_effects)] W:=h;obtain⟨ps,⟨g',t',cs,fuel,p,q,hg',ht',hvar,hd,_,_⟩,_⟩:=h';obtain rfl:=Option.some.inj (FC.symm.trans hg');obtain rfl:=Option.some.inj (Jd.symm.trans ht');rw[JB] at hd;obtain⟨xs,m,_,hx,hl,hxl,hf⟩:=DataW.trod_array Tryz.underlying194 hd;rw[Tryz.cells194] at hl;have hxs:xs.map (·.1)=(List.range 22).map EK:=by
  have:=(Prod.mk.inj hx).1;injection this with this;exact this.symm
 intro o ho;have h1:=hf o ho;rw[Tryz.cells185,List.getElem?_eq_getElem (by omega)] at h1;obtain⟨y0,y1,n',hy,hlen,g0,g1⟩:=trod_struct2 Tryz.underlying185 h1;simp only[Tryz.cells3] at g0 g1;obtain⟨z0,e0,d0,_⟩:=DataW.trod_int Tryz.underlying3 g0;obtain⟨z1,e1,d1,_⟩:=DataW.trod_int Tryz.underlying3 g1;have hxo:(xs[o]'(by omega)).1=EK o:=by
  have:=congrArg (·[o]?) hxs;simp only[List.getElem?_map,List.getElem?_range ho,List.getElem?_eq_getElem (show o<xs.length by omega),Option.map_some,Option.some.injEq] at this;exact this
 rw[hy] at hxo;subst d0;subst d1;unfold EK at hxo;simp only[DataW.agg.injEq,List.cons.injEq,DataW.lit.injEq,Lit.int.injEq,true_and,and_true] at hxo;obtain⟨q0,q1⟩:=hxo;have k0:cs.toList[o * 2]?=some (.int .i64 z0):=by
  have:=congrArg (·[0]?) e0;simpa [List.getElem?_take,List.getElem?_drop] using this
 have k1:cs.toList[o * 2+1]?=some (.int .i64 z1):=by
  have:=congrArg (·[0]?) e1;simpa [List.getElem?_take,List.getElem?_drop] using this
 have v0:=World.var?_cell FC hvar (o * 2);have v1:=World.var?_cell FC hvar (o * 2+1);rw[Array.getElem?_toList] at k0 k1;rw[k0,q0] at v0;rw[k1,q1] at v1;exact⟨v0,v1⟩
theorem IH{H:Type}(d:DataW H):1<=Rows.uptoBulk d:=by
 cases d with
 |lit l=>cases l<;>simp[Rows.uptoBulk]
 |nil=>simp[Rows.uptoBulk]
 |ptr d=>simp[Rows.uptoBulk]
 |slice elems spare=>simp[Rows.uptoBulk]
 |agg parts=>simp[Rows.uptoBulk]
 |iface t d=>simp[Rows.uptoBulk]
 |map entries=>simp[Rows.uptoBulk]
 |held h=>simp[Rows.uptoBulk]
theorem Jh{H:Type}(l:List (DataW H)):l.length<=Rows.uptoBulkAll l:=by
 induction l with
 |nil=>simp[Rows.uptoBulkAll]
 |cons x r ih=>have:=IH x;simp only[Rows.uptoBulkAll,Tn];omega
theorem JN{H:Type}{d:DataW H}{sl:Nat}(hd:sl=0\/∃ l r,d=.slice l r/\l.length=sl)(hk:Rows.uptoSmall H [d]=true):sl<=1048576:=by
 rcases hd with rfl|⟨l,r,rfl,rfl⟩
 ·omega
 ·have h:Rows.uptoBulkAll [DataW.slice l r]<=1048576:=of_decide_eq_true hk;simp only[Rows.uptoBulkAll,Rows.uptoBulk] at h;have:=Jh l;omega
theorem Jq(H:Type)(enc:TypeId × Value->H)(W:World)(base:Nat)(args:Array Value)(ds gs:List (DataW H))(before:List MemPlace)
  (hval:∀ (j:Nat) t v,Tryz.f6.params[j]?=some t->args[j]?=some v->Value.okWide Tryz.prog W .any base t v)
  (hW:DataW.Whole enc Tryz.prog Tryz.f6.params.toList Rows.shiftsSpec.vars false W args.toList ds gs before) (hL:laidMetH Tryz.prog Rows.shiftsUptoRow.laid W)
  (Av:(DataW.weightsEach Tryz.prog (Tryz.f6.params.toList++Rows.shiftsSpec.plain.varTypes Tryz.prog) (ds++gs)).all (·<=reachBytes)=true) (hk:Rows.uptoSmall H (ds++gs)=true) :
  Calls Tryz.prog 6 args W fun e W'=>∃ v,e=.returned v/\Rows.shiftsSpec.post enc Tryz.prog Tryz.f6 false true false false W args v W':=by
 have hW':=hW;obtain⟨p,q,hA0,hV,rfl,hfz,hnd⟩:=hW;have hA:DataW.TrodAll enc Tryz.prog W 0 (fun _=>true) true Tryz.f6.params.toList args.toList ds p:=hA0;rw[Tryz.params6] at hA hval Av;obtain⟨v0,vs0,d0,ds0,p0,q0,hargs,rfl,rfl,h0,r0⟩:=trodAll_cons hA;obtain⟨rfl,rfl,rfl⟩:=trodAll_nil r0;obtain rfl:args=#[v0]:=by cases args;simp_all
 obtain⟨rfl,rfl⟩:=trodVars_none hV;clear hA0;simp only[List.append_nil] at hW' hk;have h0k:=h0;obtain⟨fuel,hf⟩:=h0;have hsz1:(DataW.weightsEach Tryz.prog [39] [d0]).all (fun x=>decide (x<=reachBytes))=true:=Av;have hwt:∀ y∈d0.weights Tryz.prog 39,y<=reachBytes:=by
  simp only[DataW.weightsEach,List.append_nil,List.all_eq_true,decide_eq_true_eq] at hsz1;exact fun y hy=>hsz1 y hy
 obtain⟨a0,sl,sc,rfl⟩:=okWide_slice Tryz.underlying39 (hval 0 39 v0 rfl rfl);obtain⟨pa,sl2,sc2,OP,hv,hin,hd⟩:=LR (x:=(d0,p0)) hf hwt;injection hv with e1 e2 e3;subst e1;subst e2;subst e3;have hsl:=JN hd hk;have ht:=I6 hL;have hw:0<W.heap.size:=(FW (ht 0 (by omega)).1).1;have hlt:∀ x∈p0,x.block<W.heap.size:=fun x hx=>by simpa using hW'.lt x (by simpa using hx)
 refine(Rc W a0 sl sc OP hin hsl ht hw).mono fun e W' ⟨he,hb⟩=>?_
 subst he;refine⟨_,rfl,_,_,_,[],p0++[],[],hW',?_,?_,rfl,hb.frame _,fun h=>by cases h⟩
 ·exact trodAll_cons_mk (shut_bool Tryz.underlying4 _) trodAll_mk0
 ·exact trodAll_cons_mk (Below.trod Tryz.laidOut (by kernel_rfl) (of_decide_eq_true (by kernel_rfl)) h0k hb hlt) trodAll_mk0
noncomputable def FE(os:Os):World :=
 {World.holding Tryz.prog os ⟨#[],#[],[]⟩ with heap:=(World.holding Tryz.prog os ⟨#[],#[],[]⟩).heap.modify 0 fun
   |.cells _ t frozen=>.cells #[.int .i64 0,.int .i64 1,.int .i64 0,.int .i64 1,.int .i64 0,.int .i64 1,.int .i64 1,.int .i64 0,.int .i64 2,.int .i64 1,.int .i64 2,.int .i64 1,.int .i64 2,.int .i64 1,.int .i64 2,.int .i64 1,.int .i64 2,.int .i64 1,.int .i64 2,.int .i64 1,.int .i64 0,.int .i64 0,.int .i64 1,.int .i64 0,.int .i64 0,.int .i64 1,.int .i64 1,.int .i64 1,.int .i64 1,.int .i64 0,.int .i64 1,.int .i64 1,.int .i64 2,.int .i64 1,.int .i64 3,.int .i64 0,.int .i64 1,.int .i64 1,.int .i64 1,.int .i64 0,.int .i64 1,.int .i64 0,.int .i64 1,.int .i64 2] t frozen
   |o=>o}
theorem I3(os:Os):laidMet Tryz.prog Rows.shiftsUptoRow.laid ((FE os).forCall (fun _ _=>0) ⟨#[],#[.slice none 0 0],[]⟩).memory :=
 laidMet_of_run' 8 (by kernel_rfl) (by kernel_rfl)
theorem reads(os:Os){H:Type}(enc:TypeId × Value->H):∃ places,DataW.whole enc Tryz.prog ((FE os).forCall (fun _ _=>0) ⟨#[],#[.slice none 0 0],[]⟩).memory Tryz.f6.params.toList Rows.shiftsSpec.vars false #[Value.slice none 0 0].toList 8=some ([.nil],[],places) :=
 ⟨[],by kernel_rfl⟩
theorem JG(os:Os)(started:os.Started)(H:Type)(enc:TypeId × Value->H)(F:Stop.Interp) :
  ReturnsInHanded {} Tryz.checked os 6 .any ((Rows.OpenSpec.upto Rows.shiftsSpec).preRow enc Tryz.prog Tryz.f6 Rows.shiftsUptoRow.domain false Rows.shiftsUptoRow.laid) (((Rows.OpenSpec.upto Rows.shiftsSpec).at F).post enc Tryz.prog Tryz.f6 false true false false):=by
 obtain⟨places,hx⟩:=reads os enc;refine returnsInHanded_of_row (C:=Tryz.checked) (s:=Rows.OpenSpec.upto Rows.shiftsSpec) Tryz.own started (by kernel_rfl) Tryz.func6
  (witness_row_at (enc:=enc) (C:=Tryz.checked) false (FE os) #[.slice none 0 0] rfl (by kernel_rfl) (by kernel_rfl) (by kernel_rfl)
   (OpenSpec.preRow_of_cond 8 hx (by kernel_rfl) (fun k hk=>by cases hk;kernel_rfl) (by kernel_rfl) (I3 os))) ?_
 intro W base args ds gs before hval hW _ hcond Av hL _ _;exact Jq H enc W base args ds gs before hval hW hL Av (hcond _ rfl)
theorem Iz:Rows.ShiftsUptoSaid :=
 OpenClaim.holds_of_cond 6 Tryz.f6 rfl rfl rfl rfl rfl rfl rfl ⟨rfl,rfl,rfl,rfl,rfl⟩ rfl rfl rfl rfl rfl (by kernel_rfl) Tryz.func6 (by kernel_rfl)
  (of_decide_eq_true (by kernel_rfl)) (by unfold Func.isWrapper;first|(rw[if_pos (by decide +kernel)];kernel_rfl)|(rw[if_neg (by decide +kernel)];exact⟨rfl,rfl⟩))
  (fun os started H enc _ F=>by rw[OpenClaim.pre_eq_preRow];exact JG os started H enc F)
theorem JK(f:FuncId)(fn:Func)(hf:Tryz.pinned.checked.prog.funcNamed "upshift/upshiftlaw.Shifts"=some f)(hfn:Tryz.pinned.checked.prog.funcs[f]?=some fn) :
  Rows.shiftsUptoCard.stood.looks=Tryz.pinned.checked.prog.looks []/\∀ (j:Nat) t,fn.params[j]?=some t->Tryz.pinned.checked.prog.wantsStandIn t=false:=by
 obtain rfl:f=6:=Option.some.inj ((show Tryz.prog.funcNamed "upshift/upshiftlaw.Shifts"=some 6 by kernel_rfl).symm.trans hf) |>.symm;obtain rfl:fn=Tryz.f6:=(Option.some.inj (Tryz.func6.symm.trans hfn)).symm;refine⟨by kernel_rfl,fun j t ht=>?_⟩;rw[Tryz.params6] at ht;obtain rfl:t=39:=by simpa using Array.mem_of_getElem? ht
 exact(show Tryz.prog.wantsStandIn 39=false by kernel_rfl)
theorem shifts_upto_card:Rows.ShiftsUptoCardSaid :=
 Claim7.holds_tied_plain_at .later [] _ _ _ _ Iz (fun _ h=>by cases h) (by kernel_rfl) (fun _ h=>by cases h) shiftsUpto_row_tie rfl ⟨rfl,rfl⟩ (by kernel_rfl) rfl JK (by kernel_rfl)
#print axioms shifts_upto_card
end Go.Proofs.YtkafkipjedpohaaGreatDoor

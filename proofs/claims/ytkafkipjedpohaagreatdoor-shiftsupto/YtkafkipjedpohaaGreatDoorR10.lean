import Derived.Test.YtkafkipjedpohaaGreatDoorR8
import Derived.Laws.AppendOwn
namespace Go.Proofs.YtkafkipjedpohaaGreatDoor
set_option maxRecDepth 100000
set_option maxHeartbeats 16000000
open Go.RowKit _root_.Go.Proofs.Tryz
def Bo(w w':World)(B rb:Nat)(A:Ad)(s':Mc):Prop:=∃ A',Al w' B rb A' s'/\A'.pv=A.pv/\Ch B Be A.tag A'.tag w w'
theorem Al.cut{w:World}{B rb:Nat}{A:Ad}{s:Mc}{f:Fr}{rest:List Fr}{b0:Bool}{hs':List Bool}(h:Al w B rb A s)(hs:s.fr=f::rest)(hh:s.high=b0::hs')(hlen:hs'.length=rest.length){fb fcap hb hcap:Nat}
  (hfv:A.fv=.slice (some ⟨fb,0,none⟩) (rest.length+1) fcap) (hhv:A.hv=.slice (some ⟨hb,0,none⟩) (rest.length+1) hcap) :
  Al ((w.setCell ⟨rb,1,none⟩ (.slice (some ⟨fb,0,none⟩) rest.length fcap)).setCell ⟨rb,8,none⟩ (.slice (some ⟨hb,0,none⟩) rest.length hcap)) B rb {A with fv:=.slice (some ⟨fb,0,none⟩) rest.length fcap,hv:=.slice (some ⟨hb,0,none⟩) rest.length hcap} {s with fr:=rest,high:=hs'} /\
   Ch B (fun c=>c=0) A.tag A.tag w ((w.setCell ⟨rb,1,none⟩ (.slice (some ⟨fb,0,none⟩) rest.length fcap)).setCell ⟨rb,8,none⟩ (.slice (some ⟨hb,0,none⟩) rest.length hcap)):=by
 have hc:Ch B (fun c=>c=0) A.tag A.tag w ((w.setCell ⟨rb,1,none⟩ (.slice (some ⟨fb,0,none⟩) rest.length fcap)).setCell ⟨rb,8,none⟩ (.slice (some ⟨hb,0,none⟩) rest.length hcap)) :=
  ((Ch.refl B _ A.tag w).setOld (a:=⟨rb,_,none⟩) h.own.1 (fun _=>h.own.2) _).setOld (a:=⟨rb,_,none⟩) h.own.1 (fun _=>h.own.2) _
 have hfr:=h.fr;rw[hs,Tn,hfv] at hfr;have hhi:=h.hi;rw[hh,Tn,hlen,hhv] at hhi;refine⟨⟨CD (CD h.run _) _,h.own,?_,h.ar.keep hc (by omega),h.out.keep hc (by omega),?_,fun i hi=>?_,fun i hi=>?_,fun j hj=>(h.arr j hj).keep hc (by omega)⟩,hc⟩
 ·refine((hfr.take rest.length (by omega)).keep hc (by omega)).congr (fun i hi=>?_);show BG (f::rest) A.LV A.SV i=BG rest A.LV A.SV i;unfold BG;rw[B9 _ _ _ (by omega)]
 ·show Ae _ B A.tag 4 _ 1 _ hs'.length _;rw[hlen];refine((hhi.take rest.length (by omega)).keep hc (by omega)).congr (fun i hi=>?_);show Value.bool ((b0::hs').reverse.getD i false)=Value.bool (hs'.reverse.getD i false);rw[List.reverse_cons,Tj,Tj,Tq (by simp;omega)]
 ·have hi':i<rest.length:=hi;have h2:=h.loc i (by rw[hs];simp;omega);rw[hs,B9 _ _ _ hi'] at h2;exact h2.keep hc (by omega)
 ·have hi':i<rest.length:=hi;have h2:=h.stk i (by rw[hs];simp;omega);rw[hs,B9 _ _ _ hi'] at h2;exact h2.keep hc (by omega)
theorem Al.ownset{w:World}{B rb:Nat}{A:Ad}{s:Mc}(h:Al w B rb A s)(i:Nat)(v:Value){s':Mc}(hr:(CQ A.pv A.fv A.av A.ov A.hv s).setIfInBounds i v=CQ A.pv A.fv A.av A.ov A.hv s')(h1:s'.fr=s.fr)(h2:s'.arr=s.arr)(h3:s'.out=s.out)(h4:s'.high=s.high) :
  Al (w.setCell ⟨rb,i,none⟩ v) B rb A s'/\Ch B (fun c=>c=0) A.tag A.tag w (w.setCell ⟨rb,i,none⟩ v):=by
 have hc:Ch B (fun c=>c=0) A.tag A.tag w (w.setCell ⟨rb,i,none⟩ v):=(Ch.refl B _ A.tag w).setOld (a:=⟨rb,_,none⟩) h.own.1 (fun _=>h.own.2) _;refine⟨⟨?_,h.own,?_,?_,?_,?_,fun i hi=>?_,fun i hi=>?_,fun j hj=>?_⟩,hc⟩
 ·rw[<-hr];exact CD h.run _
 ·rw[h1];exact h.fr.keep hc (by omega)
 ·rw[h2];exact h.ar.keep hc (by omega)
 ·rw[h3];exact h.out.keep hc (by omega)
 ·rw[h4];exact h.hi.keep hc (by omega)
 ·rw[h1] at hi ⊢;exact(h.loc i hi).keep hc (by omega)
 ·rw[h1] at hi ⊢;exact(h.stk i hi).keep hc (by omega)
 ·rw[h2] at hj ⊢;exact(h.arr j hj).keep hc (by omega)
theorem QE(f:Fr)(s:Mc)(v:V)(st:List V)(h:f.stk=v::st):AT f [] s={s with fr:=[],high:=s.high.drop 1,gives:=v,fin:=1}:=by simp[AT,h]
theorem N8(f g:Fr)(r:List Fr)(s:Mc)(v:V)(st:List V)(h:f.stk=v::st):AT f (g::r) s={s with fr:={g with stk:=v::g.stk}::r,high:=s.high.drop 1}:=by simp[AT,h]
theorem PX(w:World)(B rb:Nat)(A:Ad)(s:Mc)(f:Fr)(rest:List Fr)(v:V)(st:List V)(b0:Bool)(hs':List Bool)(hL:Al w B rb A s)(hs:s.fr=f::rest)(hst:f.stk=v::st)(hh:s.high=b0::hs')(hlen:hs'.length=rest.length)(hB:B<=w.heap.size)(hn:st.length<=60)(hr:rest.length<=60)(hg:∀ g,g∈rest->g.stk.length<=60) :
  Calls prog 100 #[.pointer (some ⟨rb,0,none⟩)] w fun e w'=>e=.returned (.tuple #[])/\Bo w w' B rb A (AT f rest s):=by
 have hcon:=C4 w B rb A s f rest v st hL hs hst hB (by omega) (by omega);have HC:=Aa hcon;clear hcon;go_enter func100,ntmps100
 go_wp2_with fail
 refine HC.out.mono ?_;rintro e w1 ⟨rfl,A1,h1,p1,f1,_,_,_,ch1⟩;have hfr:=Ag.fr h1;have hhi:=Ag.hi h1;obtain⟨fb,fcap,hfv,hfb,hfz,hft,hfc⟩:=hfr.form (by simp);obtain⟨hb,hcap,hhv,hhb,hhz,hht,hhc⟩:=hhi.form (by show 1<=s.high.length;rw[hh];simp);have hfv':A1.fv=.slice (some ⟨fb,0,none⟩) (rest.length+1) fcap:=by rw[hfv];simp
 have hhv':A1.hv=.slice (some ⟨hb,0,none⟩) (rest.length+1) hcap:=by
  rw[hhv];show Value.slice _ s.high.length _=_;rw[hh,Tn,hlen]
 have hcut:=Al.cut h1 rfl hh hlen hfv' hhv';have HCut:=Aa hcut;have HP1:=Aa (Tc p1 (ch1.mono BY));have HS:=Aa hst;have HB:=Aa (boxed (A:={A with fv:=.slice (some ⟨fb,0,none⟩) rest.length fcap}) v hcut.1 p1 rfl ((ch1.mono BY).trans (hcut.2.mono (fun c hc=>by intro h;omega))));have r1:w1.cell? ⟨rb,1,none⟩=some (.slice (some ⟨fb,0,none⟩) (rest.length+1) fcap):=by rw[Ag.cell h1 1];show some A1.fv=_;rw[hfv']
 have r8:w1.cell? ⟨rb,8,none⟩=some (.slice (some ⟨hb,0,none⟩) (rest.length+1) hcap):=by rw[Ag.cell h1 8];show some A1.hv=_;rw[hhv']
 have r4:w1.cell? ⟨rb,4,none⟩=some (.int .i64 s.gives.k):=Ag.cell h1 4;have r5:w1.cell? ⟨rb,5,none⟩=some (.int .i64 s.gives.n):=Ag.cell h1 5;have r7:w1.cell? ⟨rb,7,none⟩=some (.int .i64 s.fin):=Ag.cell h1 7;have z1:=Ag.frozen h1 1;have z8:=Ag.frozen h1 8;have z4:=Ag.frozen h1 4;have z5:=Ag.frozen h1 5;have z7:=Ag.frozen h1 7;have hrbz:rb<w1.heap.size:=Ag.lt h1;have hbr:¬w1.heap.size=rb:=by omega
 have hbr':¬rb=w1.heap.size:=by omega
 have hfcap:rest.length+1<=fcap:=by simpa using hfc
 have hhcap:rest.length+1<=hcap:=by
  have:s.high.length<=hcap:=hhc;rw[hh,Tn,hlen] at this;exact this
 clear hfr hhi hfv hhv hcut hfc hhc hL hst h1 p1 f1 ch1 HC;generalize hk:rest.length=k at *;have Hk:=Aa hk;clear hk;by_cases hk0:k=0
 ·have hrest:rest=[]:=List.eq_nil_of_length_eq_zero (Hk.out.trans hk0);have hfin:Hid (Bo w ((((((w1.setCell ⟨rb,1,none⟩ (.slice (some ⟨fb,0,none⟩) k fcap)).setCell ⟨rb,8,none⟩ (.slice (some ⟨hb,0,none⟩) k hcap)).setCell ⟨rb,4,none⟩ (.int .i64 v.k)).setCell ⟨rb,5,none⟩ (.int .i64 v.n)).setCell ⟨rb,7,none⟩ (.int .i64 1)).alloc (.cells #[.int .i64 v.k,.int .i64 v.n] 43)) B rb A (AT f rest s)):=by
   rw[hrest,QE f s v st HS.out,hh];have g1:=HCut.out.1.ownset 4 (.int .i64 v.k) (s':={s with fr:=rest,high:=hs',gives:=⟨v.k,s.gives.n⟩}) rfl rfl rfl rfl rfl;have g2:=g1.1.ownset 5 (.int .i64 v.n) (s':={s with fr:=rest,high:=hs',gives:=v}) rfl rfl rfl rfl rfl;have g3:=g2.1.ownset 7 (.int .i64 1) (s':={s with fr:=rest,high:=hs',gives:=v,fin:=1}) rfl rfl rfl rfl rfl;have g4:=Al.below g3.1 ((Tu _ _).alloc (Te _) (.cells #[.int .i64 v.k,.int .i64 v.n] 43));refine⟨{A1 with fv:=.slice (some ⟨fb,0,none⟩) k fcap,hv:=.slice (some ⟨hb,0,none⟩) k hcap},?_,HP1.out.1,(HP1.out.2.trans ((((HCut.out.2.trans g1.2).trans g2.2).trans g3.2).mono (fun c hc=>by intro h;omega))).alloc _⟩;rw[hrest] at g4;exact g4
  clear HCut HB hh hs hg;have hkb:((k:Int)==0)=true:=by simp[hk0]
  clear hrest hk0;go_wp2_with fail
  refine bodyPost_ret (results_none rfl _ _ _) rfl ?_;exact⟨rfl,hfin.out⟩
 ·have hkb:((k:Int)==0)=false:=by simpa using hk0
  obtain⟨g,r,hrest⟩:∃ g r,rest=g::r:=by
   cases hr':rest with
   |nil=>exact absurd (by rw[<-Hk.out,hr'];rfl) hk0
   |cons g r=>exact⟨g,r,rfl⟩
  have hgl:g.stk.length<=60:=hg g (by rw[hrest];simp);have hrl:r.length<=60:=by have:=Hk.out;rw[hrest,Tn] at this;omega
  go_wp2_with fail
  refine(Ea _ B rb _ {s with fr:=rest,high:=hs'} g r v HB.out.lay hrest ?_ (by omega) (by omega)).mono ?_
  ·have h1:B<=w1.heap.size:=by have:=HP1.out.2.size;omega
   simp[World.setCell];omega
  rintro e w7 ⟨rfl,A7,g1,g2,g3,g4,g5,g6,g7⟩;have hfin:Hid (Bo w w7 B rb A (AT f rest s)):=by
   unfold Hid;rw[hrest,N8 f g r s v st HS.out,hh];exact⟨A7,g1,g2.trans HB.out.pv,HB.out.ch.trans (g7.mono BY)⟩
  clear g1 g7;go_wp2_with fail
  go_end0;exact⟨rfl,hfin.out⟩
def CP(f:PF)(i k:Nat):Bool:=(f.op k==10 || f.op k==11)&&f.ar k==(i:Int)
theorem NB{f:PF}{i k:Nat}(h1:i<=k)(h2:k<f.cn)(h3:CP f i k=true):CB f i=true:=by
 unfold CB;rw[List.any_eq_true];refine⟨k,by simpa using h2,?_⟩;simp[CP] at h3;simp[h1,h3]
theorem Oh{f:PF}{i:Nat}(h:∀ k,i<=k->k<f.cn->CP f i k=false):CB f i=false:=by
 unfold CB;rw[List.any_eq_false];intro k hk;simp only[List.mem_range] at hk;intro hd;simp only[decide_eq_true_eq] at hd;have h4:=h k hd.1 hk;have h5:CP f i k=true:=by unfold CP;rcases hd.2.1 with e|e<;>simp[e,hd.2.2]
 rw[h5] at h4;cases h4
theorem LC(w:World)(cb co cc:Nat)(f:PF)(i:Nat)(hc:BB w cb co f.cn f.op f.ar)(hi:i<f.cn)(hn:f.cn<=64) :
  Calls prog 79 #[.slice (some ⟨cb,co,none⟩) f.cn cc,.int .i64 i] w fun e w'=>e=.returned (.bool (CB f i))/\w'=w:=by
 go_enter func79,ntmps79
 go_wp2;go_loop [5] (fun v=>∃ k:Nat,i<=k/\k<=f.cn/\v=.int .i64 k/\∀ j,i<=j->j<k->CP f i j=false) (fun v=>f.cn-(intOf v).toNat)
 case atStart=>exact⟨i,Te _,Nat.le_of_lt hi,rfl,fun j h1 h2=>absurd h2 (by omega)⟩
 case round =>
  obtain⟨k,hik,hk,rfl,hno⟩:=hrel;by_cases hlt:k<f.cn
  ·obtain⟨c0,c1⟩:=hc k hlt;have HN:=Aa hno;clear hno;have HJ:Hid (CP f i k=((f.op k==10 || f.op k==11)&&f.ar k==(i:Int))):=Aa rfl;generalize f.op k=op at *;generalize f.ar k=ar at *;have hnext:Hid (CP f i k=false->∃ k1:Nat,i<=k1/\k1<=f.cn/\Value.int IntKind.i64 ((k:Int)+1)=.int .i64 k1/\∀ j,i<=j->j<k1->CP f i j=false):=fun hf=>⟨k+1,by omega,by omega,by simp,fun j h1 h2=>by
    by_cases e:j=k
    ·rw[e];exact hf
    ·exact HN.out j h1 (by omega)⟩
   have hyes:Hid (CP f i k=true->CB f i=true):=fun h=>NB hik hlt h
   cases h10:(op==10:Bool)<;>cases h11:(op==11:Bool)<;>cases hA:(ar==(i:Int):Bool)<;>rw[h10,h11,hA] at HJ
   all_goals go_wp2
   all_goals
    first
    |(go_ret;exact⟨by rw[hyes.out HJ.out];rfl,rfl⟩)
    |exact⟨hnext.out HJ.out,by simp[intOf];omega⟩
  ·obtain rfl:k=f.cn:=by omega
   have HN:=Aa (Oh (f:=f) (i:=i) (fun j h1 h2=>hno j h1 h2));clear hno;go_wp2;go_ret;exact⟨by rw[HN.out];rfl,rfl⟩
def BC(f:PF)(k:Nat):List Nat:=(List.range k).filter (CB f)
theorem He(f:PF)(k:Nat):BC f (k+1)=BC f k++(if CB f k=true then [k] else []):=by
 unfold BC;rw[List.range_succ,List.filter_append];cases h:CB f k<;>simp[h]
theorem In(f:PF)(k:Nat):(BC f k).length<=k:=by
 unfold BC;have h:=List.length_filter_le (CB f) (List.range k);simpa using h
theorem Ae.untag{w:World}{B:Nat}{tag:Nat->Nat}{c:Nat}{e:TypeId}{sz:Nat}{v:Value}{n:Nat}{f:Nat->Value}(h:Ae w B tag c e sz v n f):Ae w B (fun _=>0) 0 e sz v n f:=by
 rcases h with h|⟨b,cap,cur,hv,hb,ht,hh,hc⟩
 ·exact Or.inl h
 ·exact Or.inr ⟨b,cap,cur,hv,hb,rfl,hh,hc⟩
def Dm(l:List Nat):Nat->Value:=fun i=>.int .i64 ((l.getD i 0:Nat):Int)
theorem MF(l:List Nat)(j i:Nat)(hi:i<l.length+1):(if i<l.length * 1 then Dm l i else [Value.int .i64 (j:Int)].getD (i-l.length * 1) (.bool false))=Dm (l++[j]) i:=by
 unfold Dm;by_cases h:i<l.length
 ·rw[if_pos (by omega),Tj,Tj,Tq h]
 ·obtain rfl:i=l.length:=by omega
  rw[if_neg (by omega)];simp[List.getD_eq_getElem?_getD]
theorem Tryz.infoInt:(prog.info? 3).map (fun i=>(i.zero,i.size,i.bytes))=some (some (.int .i64 0),1,8):=by kernel_rfl
theorem OC(w:World)(pb po pc m k:Nat)(f:PF)(ca:Option Addr)(cc:Nat)(hf:ED w pb po k f ca cc)(hpb:pb<w.heap.size)(hk:k<m)(_hm:m<=8)(hn:f.cn<=64) :
  Calls prog 54 #[.slice (some ⟨pb,po,none⟩) m pc,.int .i64 k] w fun e w'=>∃ v,e=.returned v/\Ae w' w.heap.size (fun _=>0) 0 3 1 v (BC f f.cn).length (Dm (BC f f.cn))/\Below w.heap.size w w':=by
 obtain⟨c0,c1,c2,hcode⟩:=hf;have HCd:=Aa hcode;clear hcode;go_enter func54,ntmps54
 have hk1:(k:Int)<m:=by omega
 have e1:decide ((k:Int)<0)=false:=by simp
 have e2:decide (m<=k)=false:=by simp;omega
 go_wp2;try simp only[e1,e2,Bool.or_false]
 go_loopw [5,6] (fun o v wr=>∃ j:Nat,j<=f.cn/\v=.int .i64 j/\Below w.heap.size w wr/\Ae wr w.heap.size (fun _=>0) 0 3 1 o (BC f j).length (Dm (BC f j))) (fun _ v _=>f.cn-(intOf v).toNat)
 case atStart=>exact⟨0,Tt _,rfl,Tu _ _,Ae.nil _ _ _ _ _ _ _⟩
 case round =>
  obtain⟨j,hj,rfl,hB,hR⟩:=hrel;have d2:=(hB.cell (p:=⟨pb,po+k * 3+2,none⟩) hpb).trans c2;have HR:=Aa hR;have HBB:=Aa hB;clear hR hB;by_cases hlt:j<f.cn
  ·obtain⟨cb,co,rfl,hcb,hcd⟩:=HCd.out (by omega);have hhead:=LC wr cb co cc f j (hcd.below HBB.out hcb) hlt hn;have HH:=Aa hhead;clear hhead hcd;go_wp2_with fail
   refine HH.out.mono ?_;rintro e w2 ⟨rfl,rfl⟩;cases hd:CB f j with
   |true =>
    have hsucc:Hid (BC f (j+1)=BC f j++[j]):=by unfold Hid;rw[He,hd];rfl
    clear hd;obtain⟨inf,hi,hz0,hz1,hz2⟩:∃ i,prog.info? 3=some i/\i.zero=some (.int .i64 0)/\i.size=1/\i.bytes=8:=by
     obtain⟨i,hi,hzz⟩:=Tp.1 Tryz.infoInt;simp only[Prod.mk.injEq] at hzz;exact⟨i,hi,hzz.1,hzz.2.1,hzz.2.2⟩
    have hl:=In f j;have hwb:w.heap.size<=w2.heap.size:=HBB.out.size;go_wp2_with (at_builtin;refine wpList_append_lies _ rfl _ _ _ rfl w.heap.size 3 inf _ 1 8 underlying66 hi hz0 hz1 hz2 rfl (by decide) _ (BC f j).length _ rfl (HR.out.owns.alloc _) ⟨w2.heap.size,0,none⟩ 1 1 [.int .i64 j] rfl rfl (World.news_of_block (Tv w2 _)) (by intro u hu;simp at hu;subst hu;rfl) (by omega) (by unfold maxLen;omega) (by omega) (by simp;omega) (w2.heap.size+1) (by simp) ?_;intro g cap w3 hown hgrow hat hlt3)
    have hX:Ch w.heap.size (fun _=>False) (fun _=>0) (fun _=>0) w2 (w2.alloc (.cells #[.int .i64 j] 3)):=Ch.of_below ((Tu _ _).alloc (Te _) _);obtain⟨tag',hst,hgc⟩:=(HR.out.keep hX (fun h=>h)).grew hown hgrow (by rcases hat with h|h;exact Or.inl h;right;rw[h];simp) rfl;have HN:Hid (Ae w3 w.heap.size (fun _=>0) 0 3 1 (.slice (some ⟨g,0,none⟩) ((BC f j).length+1) cap) ((BC f j).length+1) (Dm (BC f j++[j]))):=hst.untag.congr (fun i hi=>MF _ _ i (by omega));have HB3:Hid (Below w.heap.size w w3):=(HBB.out.alloc hwb _).trans (hgc.below (by simp;omega));clear hX hst hgc hown hgrow;go_roundw
    case rel=>exact⟨j+1,by omega,by go_num,HB3.out,by rw[hsucc.out,List.length_append];exact HN.out⟩
    case measure=>simp[intOf];omega
   |false =>
    have hsucc:Hid (BC f (j+1)=BC f j):=by unfold Hid;rw[He,hd];simp
    go_wp2;go_roundw
    case rel=>exact⟨j+1,by omega,by go_num,HBB.out,by rw[hsucc.out];exact HR.out⟩
    case measure=>simp[intOf];omega
  ·obtain rfl:j=f.cn:=by omega
   go_wp2;go_ret;exact⟨_,rfl,HR.out,HBB.out⟩
theorem Ae.grewN{w w':World}{B:Nat}{tag:Nat->Nat}{c:Nat}{e:TypeId}{sz:Nat}{v:Value}{n k:Nat}{f:Nat->Value}(h:Ae w B tag c e sz v n f){g cap:Nat}{news:List Value}
  (hown:w'.ownsRow B e sz (.slice (some ⟨g,0,none⟩) (n+k) cap) (n+k) ((List.range (n * sz)).map f++news)) (hgrow:w.grownBy w' v.ownBlock) (hat:v.ownBlock=some g\/g=w.heap.size) (hnl:news.length=k * sz) :
  Ae w' B (fun b=>if b<w.heap.size then tag b else c) c e sz (.slice (some ⟨g,0,none⟩) (n+k) cap) (n+k) (fun i=>if i<n * sz then f i else news.getD (i-n * sz) (.bool false))/\Ch B (·=c) tag (fun b=>if b<w.heap.size then tag b else c) w w':=by
 refine⟨Ae.of_owns hown ?_ (fun i hi=>?_),hgrow.os,hgrow.tape,hgrow.output,hgrow.size,fun b hb hl=>hgrow.block b hb ?_,fun b hb=>by show (if b<w.heap.size then tag b else c)=tag b;rw[if_pos hb]⟩
 ·show (if g<w.heap.size then tag g else c)=c;by_cases hg:g<w.heap.size
  ·rw[if_pos hg];rcases hat with hat|hat
   ·rcases h with⟨h,_⟩|⟨b,cap',cur,hv,hb,ht,_⟩
    ·rw[h] at hat;simp[Value.ownBlock] at hat
    ·rw[hv] at hat;have:b=g:=by simpa [Value.ownBlock] using hat
     rw[<-this];exact ht
   ·omega
  ·rw[if_neg hg]
 ·by_cases hlt:i<n * sz
  ·rw[if_pos hlt,Tq (by simpa using hlt)];simp[hlt]
  ·have hi2:i-n * sz<news.length:=by rw[hnl];rw[Nat.add_mul] at hi;omega
   rw[if_neg hlt,List.getElem?_append_right (by simp;omega)];simp[List.getD_eq_getElem?_getD,hi2]
 ·intro e2;rcases h with⟨h,_⟩|⟨b',cap',cur,hv,hb',ht,_⟩
  ·rw[h] at e2;simp[Value.ownBlock] at e2
  ·rw[hv] at e2;have:b=b':=by simpa [Value.ownBlock] using e2
   subst this;rcases hl with hl|hl
   ·omega
   ·exact hl ht
theorem Nw{P:Program}{w:World}{B:Nat}{tag:Nat->Nat}{c:Nat}{e:TypeId}{sz:Nat}{v:Value}{n:Nat}{f:Nat->Value}(hrow:Ae w B tag c e sz v n f)(hB:B<=w.heap.size)
  (t ty:TypeId) (i:TypeInfo) (z:Value) (bytes:Nat) (ht:P.underlying t=some (.slice e)) (hi:P.info? e=some i) (hz:i.zero=some z) (hsize:i.size=sz) (hby:i.bytes=bytes) (hzs:z.cells.size=sz) (Av:0<sz)
  (ad:Addr) (k cc:Nat) (news:List Value) (hl:news.length=k * sz) (hnews:∀ j u,news[j]?=some u->w.cell? (ad.add j)=some u) (h1:∀ u∈news,u.oneCell'=true) (hk:0<k) (h63:n+k<=maxLen) (hbytes:(n+k) * bytes<=140737488355328) :
  ∃ g cap w',(Builtin.append_ #[t,t] ty #[v,.slice (some ad) k cc]).run P w=.ok (.slice (some ⟨g,0,none⟩) (n+k) cap) w'/\g<w'.heap.size /\
   Ae w' B (fun b=>if b<w.heap.size then tag b else c) c e sz (.slice (some ⟨g,0,none⟩) (n+k) cap) (n+k) (fun i=>if i<n * sz then f i else news.getD (i-n * sz) (.bool false)) /\
   Ae w' B (fun b=>if b<w.heap.size then tag b else c) c e sz v n f/\Ch B (·=c) tag (fun b=>if b<w.heap.size then tag b else c) w w' /\
   (∀ b j u,b<w.heap.size->w.cell? ⟨b,j,none⟩=some u->w'.cell? ⟨b,j,none⟩=some u\/(tag b=c/\n * sz<=j/\j-n * sz<k * sz/\w'.cell? ⟨b,j,none⟩=news[j-n * sz]?)):=by
 obtain⟨g,cap,w',hr,hown,hgrow,hat,hlt⟩:=run_append_lies (P:=P) w t ty B e i z sz bytes ht hi hz hsize hby hzs Av v n _ hrow.owns ad k cc news hl hnews h1 hk h63 hbytes hB w.heap.size rfl;obtain⟨hnew,hch⟩:=hrow.grewN hown hgrow hat hl;refine⟨g,cap,w',hr,hlt,hnew,?_,hch,?_⟩
 ·rcases hrow with h|⟨b,bcap,cur,rfl,hb,htb,hh,hc,hm,hs,hf⟩
  ·exact Or.inl h
  have hbz:=(Array.getElem?_eq_some_iff.1 hh).1;have htb':(fun b=>if b<w.heap.size then tag b else c) b=c:=by show (if b<w.heap.size then tag b else c)=c;rw[if_pos hbz];exact htb
  by_cases hroom:n+k<=bcap
  ·have hfit:n * i.size+news.length<=cur.size:=by rw[hl,hs,hsize,<-Nat.add_mul];exact Nat.mul_le_mul_right _ hroom
   have hr2:=run_append_room (P:=P) w t ty e i ht hi b n bcap cur hh ad k cc news (by rw[hsize];exact hl) hnews h1 hroom hfit;rw[hr] at hr2;injection hr2 with _ e2;refine Or.inr ⟨b,bcap,_,rfl,hb,htb',by rw[e2];exact setRow_heap w b cur _ e _ hh,hc,hm,?_,fun j hj=>?_⟩
   ·simp only[List.size_toArray,List.length_append,List.length_take,List.length_drop,Array.length_toList];omega
   ·rw[hsize];rw[List.getElem?_toArray,Tq (by simp only[List.length_append,List.length_take,Array.length_toList];rw[hsize] at hfit;omega),Tq (by simp only[List.length_take,Array.length_toList];rw[hsize] at hfit;omega),List.getElem?_take_of_lt hj,Array.getElem?_toList];exact hf j hj
  ·have hr2:=run_append_grow (P:=P) w t ty e i z ht hi hz ⟨b,0,none⟩ n bcap ((List.range (n * sz)).map f) (by simp[hsize]) (fun j u hu=>by
    have hj:j<n * sz:=by have:=(List.getElem?_eq_some_iff.1 hu).1;simpa using this
    have hu':f j=u:=by simpa [hj] using hu
    rw[Addr.add_lit,Nat.zero_add,<-hu'];exact(cell_of_row w b j cur e (0,0) hh).trans (hf j hj)) ad k cc news (by rw[hsize];exact hl) hnews (by omega) (by simp only[maxLen] at h63;omega) (by rw[hby];exact growslice_fits (by omega) hbytes)
   rw[hr] at hr2;injection hr2 with _ e2;refine Or.inr ⟨b,bcap,cur,rfl,hb,htb',?_,hc,hm,hs,hf⟩;rw[e2];exact(Ty w.drew _ b hbz).trans hh
 ·intro b j u hb hu;by_cases htb:tag b=c/\B<=b
  ·rcases hrow with⟨rfl,rfl⟩|⟨b',bcap,cur,rfl,hb',htb',hh,hc,hm,hs,hf⟩
   ·left;rw[Tw (hgrow.block b hb (by simp[Value.ownBlock]))];exact hu
   ·by_cases hbb:b=b'
    ·subst hbb;by_cases hroom:n+k<=bcap
     ·have hfit:n * i.size+news.length<=cur.size:=by rw[hl,hs,hsize,<-Nat.add_mul];exact Nat.mul_le_mul_right _ hroom
      have hr2:=run_append_room (P:=P) w t ty e i ht hi b n bcap cur hh ad k cc news (by rw[hsize];exact hl) hnews h1 hroom hfit;rw[hr] at hr2;injection hr2 with _ e2;have hh2:w'.heap[b]?=some (.cells (cur.toList.take (n * i.size)++news++cur.toList.drop (n * i.size+news.length)).toArray e (0,0)):=by rw[e2];exact setRow_heap w b cur _ e _ hh
      have hcu:cur[j]?=some u:=by rw[<-cell_of_row w b j cur e (0,0) hh];exact hu
      have hju:j<cur.size:=(Array.getElem?_eq_some_iff.1 hcu).1;have hcw:=cell_of_row w' b j _ e (0,0) hh2;rw[hsize] at hcw hfit;by_cases q1:j<n * sz
      ·left;rw[hcw,List.getElem?_toArray,Tq (by simp only[List.length_append,List.length_take,Array.length_toList];omega),Tq (by simp only[List.length_take,Array.length_toList];omega),List.getElem?_take_of_lt q1,Array.getElem?_toList];exact hcu
      ·by_cases q2:j-n * sz<k * sz
       ·right;refine⟨htb.1,by omega,q2,?_⟩;rw[hcw,List.getElem?_toArray,Tq (by simp only[List.length_append,List.length_take,Array.length_toList];omega),List.getElem?_append_right (by simp only[List.length_take,Array.length_toList];omega)];simp only[List.length_take,Array.length_toList];congr 1;omega
       ·left;rw[hcw,List.getElem?_toArray,List.getElem?_append_right (by simp only[List.length_append,List.length_take,Array.length_toList];omega),List.getElem?_drop,Array.getElem?_toList];simp only[List.length_append,List.length_take,Array.length_toList];rw[show n * sz+news.length+(j-(min (n * sz) cur.size+news.length))=j by omega];exact hcu
     ·left;have hr2:=run_append_grow (P:=P) w t ty e i z ht hi hz ⟨b,0,none⟩ n bcap ((List.range (n * sz)).map f) (by simp[hsize]) (fun j u hu=>by
       have hj:j<n * sz:=by have:=(List.getElem?_eq_some_iff.1 hu).1;simpa using this
       have hu':f j=u:=by simpa [hj] using hu
       rw[Addr.add_lit,Nat.zero_add,<-hu'];exact(cell_of_row w b j cur e (0,0) hh).trans (hf j hj)) ad k cc news (by rw[hsize];exact hl) hnews (by omega) (by simp only[maxLen] at h63;omega) (by rw[hby];exact growslice_fits (by omega) hbytes)
      rw[hr] at hr2;injection hr2 with _ e2;rw[Tw (show w'.heap[b]?=w.heap[b]? by rw[e2];exact Ty w.drew _ b hb)];exact hu
    ·left;rw[Tw (hgrow.block b hb (by simp[Value.ownBlock];exact fun h=>hbb h))];exact hu
  ·left;rw[Tw (hch.block b hb (by by_cases q:tag b=c;exact Or.inl (by have:¬(B<=b):=fun h=>htb ⟨q,h⟩;omega);exact Or.inr q))];exact hu
def Ck(w:World)(B:Nat)(tag:Nat->Nat)(Kd:Nat->Prop)(sz:Nat)(v:Value)(g:Nat->Value):Prop :=
 ∃ p n cap,v=.slice p n cap/\n<=200003/\(0<n->∃ b,p=some ⟨b,0,none⟩/\B<=b/\Kd (tag b)/\b<w.heap.size/\∀ j,j<n * sz->w.cell? ⟨b,j,none⟩=some (g (j % sz)))
section
variable {w w':World}{B sz wb:Nat}{Kd Kd':Nat->Prop}{tag' tag n:Nat->Nat}{v:Value}{g:Nat->Value}
theorem Ck.keep{p:Nat->Prop}(h:Ck w B tag Kd sz v g)(k:Ch B p tag tag' w w')(hp:∀ d,Kd d->¬p d)(hk:∀ d,Kd d->Kd' d):Ck w' B tag' Kd' sz v g:=by
 obtain⟨q,n,cap,hv,hn,hb⟩:=h;refine⟨q,n,cap,hv,hn,fun h0=>?_⟩;obtain⟨b,e,hB,ht,hz,hc⟩:=hb h0;have htb:=k.tags b hz;exact⟨b,e,hB,by rw[htb];exact hk _ ht,Ts hz k.size,fun j hj=>(k.cell (a:=⟨b,j,none⟩) hz (hp _ ht)).trans (hc j hj)⟩
theorem Ck.retag(h:Ck w B tag Kd sz v g)(hk:∀ b,b<w.heap.size->Kd (tag b)->Kd' (tag' b)):Ck w B tag' Kd' sz v g:=by
 obtain⟨q,n,cap,hv,hn,hb⟩:=h;refine⟨q,n,cap,hv,hn,fun h0=>?_⟩;obtain⟨b,e,hB,ht,hz,hc⟩:=hb h0;exact⟨b,e,hB,hk b hz ht,hz,hc⟩
theorem Ae.full{c:Nat}{e:TypeId}{n:Nat}{f:Nat->Value}(h:Ae w B tag c e sz v n f)(hn:n<=200003)(hk:Kd c)(hf:∀ j,j<n * sz->f j=g (j % sz)):Ck w B tag Kd sz v g:=by
 rcases h with⟨h1,h2⟩|⟨b,cap,cur,hv,hb,ht,hh,hc,hm,hs,hcur⟩
 ·exact⟨none,0,0,h1,by omega,fun h=>by omega⟩
 ·refine⟨_,n,cap,hv,hn,fun _=>⟨b,rfl,hb,by rw[ht];exact hk,(Array.getElem?_eq_some_iff.1 hh).1,fun j hj=>?_⟩⟩;rw[cell_of_row w b j cur e (0,0) hh,hcur j hj,hf j hj]
def Cs(q:Nat):Int:=-1000-(q:Int)
def DB(q:Nat):Nat->Value:=fun i=>if i=0 then .int .i64 (Cs q) else .int .i64 0
def CI(q:Nat):Nat->Value:=fun i=>if i=0 then .int .i64 (Cs q) else if i=1 then .int .i64 0 else .slice none 0 0
def Fp(q:Nat):Nat->Value:=fun _=>.int .i64 (Cs q)
def hT:Nat->TypeId
 |0=>44
 |1=>50
 |2=>51
 |_=>66
def Av:Nat->Nat
 |0=>2
 |1=>4
 |_=>1
def Dz(XB:Nat->Nat):Nat->Nat->Nat->Value
 |0,q=>DB q
 |1,q=>CI q
 |2,q=>fun _=>.slice (some ⟨XB q,0,none⟩) 1 1
 |_,q=>Fp q
structure AN where
 tag:Nat->Nat
 cv:Value
 pv:Value
 hv:Nat->Value
 HV:Nat->Nat->Value
 XB:Nat->Nat
def Ep(A:AN):Array Value:=#[A.cv,A.pv,A.hv 0,A.hv 1,A.hv 2,A.hv 3]
def Wt(d:Nat):Prop:=d=0\/d=3\/d=4\/d=5\/d=6\/d=7\/d=8
structure AZ (w:World) (B wb:Nat) (A:AN) (Kd:Nat->Prop) (n:Nat->Nat):Prop where
 blk:w.heap[wb]?=some (.cells (Ep A) 96 (0,0))
 own:B<=wb/\A.tag wb=0
 le:B<=w.heap.size
 kd:∀ d,Kd d->¬Wt d
 row:∀ k,k<4->Ae w B A.tag (5+k) (hT k) 1 (A.hv k) (n k) (A.HV k)
 ent:∀ k,k<4->∀ i,i<n k->Ck w B A.tag Kd (Av k) (A.HV k i) (Dz A.XB k (i / 4))
 ex:∀ i,i<n 2->A.XB (i / 4)<w.heap.size/\B<=A.XB (i / 4)/\Kd (A.tag (A.XB (i / 4)))/\w.cell? ⟨A.XB (i / 4),0,none⟩=some (.int .i64 (Cs (i / 4)))/\w.cell? ⟨A.XB (i / 4),1,none⟩=some (.int .i64 0)
theorem AZ.keep{A:AN}{p:Nat->Prop}(h:AZ w B wb A Kd n)(k:Ch B p A.tag tag' w w')(hp:∀ d,Kd d\/Wt d->¬p d):AZ w' B wb {A with tag:=tag'} Kd n:=by
 have hlt:=(Array.getElem?_eq_some_iff.1 h.blk).1;have hw:∀ d,Wt d->¬p d:=fun d hd=>hp d (Or.inr hd)
 have hk:∀ d,Kd d->¬p d:=fun d hd=>hp d (Or.inl hd)
 refine⟨(k.block wb hlt (Or.inr (by rw[h.own.2];exact hw 0 (Or.inl rfl)))).trans h.blk,⟨h.own.1,(k.tags wb hlt).trans h.own.2⟩,Nat.le_trans h.le k.size,h.kd,fun q hq=>(h.row q hq).keep k (hw _ (by unfold Wt;omega)),fun q hq i hi=>(h.ent q hq i hi).keep k hk (fun _ h=>h),fun i hi=>?_⟩;obtain⟨h1,h2,h3,h4,h5⟩:=h.ex i hi;have ht:=k.tags _ h1;exact⟨Ts h1 k.size,h2,by show Kd (tag' _);rw[ht];exact h3,(k.cell (a:=⟨A.XB (i / 4),0,none⟩) h1 (hk _ h3)).trans h4,(k.cell (a:=⟨A.XB (i / 4),1,none⟩) h1 (hk _ h3)).trans h5⟩
theorem AZ.below{A:AN}(h:AZ w B wb A Kd n)(k:Below w.heap.size w w'):AZ w' B wb A Kd n:=h.keep (Ch.of_below (p:=fun _=>False) k) (fun _ _ h=>h)
theorem AZ.retag{A:AN}(h:AZ w B wb A Kd n)(hw:∀ b,b<w.heap.size->Wt (A.tag b)->tag' b=A.tag b)(hk:∀ b,b<w.heap.size->Kd (A.tag b)->Kd' (tag' b))(hd:∀ d,Kd' d->¬Wt d):AZ w B wb {A with tag:=tag'} Kd' n:=by
 have hlt:=(Array.getElem?_eq_some_iff.1 h.blk).1;have hrow:∀ {c:Nat} {e:TypeId} {sz:Nat} {v:Value} {n:Nat} {f:Nat->Value},Wt c->Ae w B A.tag c e sz v n f->Ae w B tag' c e sz v n f:=by
  intro c e sz v n f hc hr;rcases hr with hr|⟨b,cap,cur,hv,hb,ht,hh,hr⟩
  ·exact Or.inl hr
  ·exact Or.inr ⟨b,cap,cur,hv,hb,(hw b (Array.getElem?_eq_some_iff.1 hh).1 (by rw[ht];exact hc)).trans ht,hh,hr⟩
 refine⟨h.blk,⟨h.own.1,(hw wb hlt (by rw[h.own.2];exact Or.inl rfl)).trans h.own.2⟩,h.le,hd,fun q hq=>hrow (by unfold Wt;omega) (h.row q hq),fun q hq i hi=>(h.ent q hq i hi).retag hk,fun i hi=>?_⟩;obtain⟨h1,h2,h3,h4,h5⟩:=h.ex i hi;exact⟨h1,h2,hk _ h1 h3,h4,h5⟩
theorem QA(A:AN)(k:Nat)(hk:k<4)(v:Value):(Ep A).setIfInBounds (2+k) v=Ep {A with hv:=Ac A.hv k v}:=by
 have:k=0\/k=1\/k=2\/k=3:=by omega
 rcases this with rfl|rfl|rfl|rfl<;>rfl
theorem AZ.add{V w1:World}{A:AN}(h:AZ w B wb A Kd n)(k:Nat)(hk:k<4)(x:Value)(hx:Ck w B A.tag Kd (Av k) x (Dz A.XB k (n k / 4)))
  (hX:k=2->A.XB (n 2 / 4)<w.heap.size/\B<=A.XB (n 2 / 4)/\Kd (A.tag (A.XB (n 2 / 4)))/\w.cell? ⟨A.XB (n 2 / 4),0,none⟩=some (.int .i64 (Cs (n 2 / 4)))/\w.cell? ⟨A.XB (n 2 / 4),1,none⟩=some (.int .i64 0))
  (hV:Below w.heap.size w V) {g cap:Nat} (hown:w1.ownsRow B (hT k) 1 (.slice (some ⟨g,0,none⟩) (n k+1) cap) (n k+1) ((List.range (n k * 1)).map (A.HV k)++[x])) (hgrow:V.grownBy w1 (A.hv k).ownBlock) (hat:(A.hv k).ownBlock=some g\/g=V.heap.size) :
  ∃ tag',AZ (w1.setCell ⟨wb,2+k,none⟩ (.slice (some ⟨g,0,none⟩) (n k+1) cap)) B wb {A with tag:=tag',hv:=Ac A.hv k (.slice (some ⟨g,0,none⟩) (n k+1) cap),HV:=Ac A.HV k (Ac (A.HV k) (n k) x)} Kd (Ac n k (n k+1)) /\
   Ch B (fun d=>d=0\/d=5+k) A.tag tag' w (w1.setCell ⟨wb,2+k,none⟩ (.slice (some ⟨g,0,none⟩) (n k+1) cap)):=by
 have c1:Ch B (fun _=>False) A.tag A.tag w V:=Ch.of_below hV;have hlt:=(Array.getElem?_eq_some_iff.1 h.blk).1;have hltV:wb<V.heap.size:=Ts hlt hV.size;obtain⟨hr,c2⟩:=((h.row k hk).keep c1 (fun h=>h)).grewN (k:=1) hown hgrow hat rfl;generalize (fun b=>if b<V.heap.size then A.tag b else 5+k)=t2 at hr c2;have ht0:t2 wb=0:=(c2.tags wb hltV).trans h.own.2;have hb1:w1.heap[wb]?=some (.cells (Ep A) 96 (0,0)):=(c2.block wb hltV (Or.inr (by rw[h.own.2];omega))).trans ((hV.block wb hlt).trans h.blk);have c3:Ch B (fun d=>d=0) t2 t2 w1 (w1.setCell ⟨wb,2+k,none⟩ (.slice (some ⟨g,0,none⟩) (n k+1) cap)):=Ch.set w1 _ _ _ h.own.1 ht0;have call:Ch B (fun d=>d=0\/d=5+k) A.tag t2 w (w1.setCell ⟨wb,2+k,none⟩ (.slice (some ⟨g,0,none⟩) (n k+1) cap)):=((c1.mono (fun _ h=>h.elim)).trans (c2.mono (fun d hd=>Or.inr hd))).trans (c3.mono (fun d hd=>Or.inl hd));have hkd:∀ d,Kd d->¬(d=0\/d=5+k):=fun d hd hp=>h.kd d hd (by unfold Wt;omega)
 refine⟨t2,⟨?_,⟨h.own.1,ht0⟩,Nat.le_trans h.le call.size,h.kd,fun q hq=>?_,fun q hq i hi=>?_,fun i hi=>?_⟩,call⟩
 ·rw[CD hb1 _,QA A k hk];rfl
 ·by_cases e:q=k
  ·subst e;show Ae _ B t2 (5+q) (hT q) 1 (Ac A.hv q _ q) (Ac n q (n q+1) q) (Ac A.HV q _ q);rw[Au,Au,Au];refine(hr.keep c3 (by omega)).congr (fun i hi=>?_);by_cases e:i=n q
   ·subst e;rw[if_neg (by omega),Au];simp
   ·rw[if_pos (by omega),Ao _ _ _ _ e]
  ·show Ae _ B t2 (5+q) (hT q) 1 (Ac A.hv k _ q) (Ac n k (n k+1) q) (Ac A.HV k _ q);rw[Ao _ _ _ _ e,Ao _ _ _ _ e,Ao _ _ _ _ e];exact(h.row q hq).keep call (by omega)
 ·by_cases e:q=k
  ·subst e;have hi':i<n q+1:=by have:i<Ac n q (n q+1) q:=hi;rw[Au] at this;exact this
   show Ck _ B t2 Kd (Av q) (Ac A.HV q (Ac (A.HV q) (n q) x) q i) _;rw[Au];by_cases e:i=n q
   ·subst e;rw[Au];exact hx.keep call hkd (fun _ h=>h)
   ·rw[Ao _ _ _ _ e];exact(h.ent q hq i (by omega)).keep call hkd (fun _ h=>h)
  ·have hi':i<n q:=by have:i<Ac n k (n k+1) q:=hi;rw[Ao _ _ _ _ e] at this;exact this
   show Ck _ B t2 Kd (Av q) (Ac A.HV k _ q i) _;rw[Ao _ _ _ _ e];exact(h.ent q hq i hi').keep call hkd (fun _ h=>h)
 ·have hcase:(A.XB (i / 4)<w.heap.size/\B<=A.XB (i / 4)/\Kd (A.tag (A.XB (i / 4)))/\w.cell? ⟨A.XB (i / 4),0,none⟩=some (.int .i64 (Cs (i / 4)))/\w.cell? ⟨A.XB (i / 4),1,none⟩=some (.int .i64 0)):=by
   by_cases e:k=2
   ·subst e;have hi':i<n 2+1:=by have:i<Ac n 2 (n 2+1) 2:=hi;rw[Au] at this;exact this
    by_cases e:i=n 2
    ·rw[e];exact hX rfl
    ·exact h.ex i (by omega)
   ·have hi':i<n 2:=by have:i<Ac n k (n k+1) 2:=hi;rw[Ao _ _ _ _ (fun h=>e h.symm)] at this;exact this
    exact h.ex i hi'
  obtain⟨h1,h2,h3,h4,h5⟩:=hcase;have ht:=call.tags _ h1;exact⟨Ts h1 call.size,h2,by show Kd (t2 _);rw[ht];exact h3,(call.cell (a:=⟨A.XB (i / 4),0,none⟩) h1 (hkd _ h3)).trans h4,(call.cell (a:=⟨A.XB (i / 4),1,none⟩) h1 (hkd _ h3)).trans h5⟩
theorem Ck.grown{n k:Nat}{c:Nat}{news:List Value}(h:Ck w B tag Kd sz v g)(hz:w.heap.size<=w'.heap.size)(ht:∀ b,b<w.heap.size->tag' b=tag b)
  (hst:∀ b j u,b<w.heap.size->w.cell? ⟨b,j,none⟩=some u->w'.cell? ⟨b,j,none⟩=some u\/(tag b=c/\n * sz<=j/\j-n * sz<k * sz/\w'.cell? ⟨b,j,none⟩=news[j-n * sz]?)) (hnews:∀ r,r<k * sz->news[r]?=some (g (r % sz))) (_hsz:0<sz):Ck w' B tag' Kd sz v g:=by
 obtain⟨q,m,cap,hv,hn,hb⟩:=h;refine⟨q,m,cap,hv,hn,fun h0=>?_⟩;obtain⟨b,e,hB,htb,hzb,hc⟩:=hb h0;refine⟨b,e,hB,by rw[ht b hzb];exact htb,by omega,fun j hj=>?_⟩;rcases hst b j _ hzb (hc j hj) with h1|⟨_,h2,h3,h4⟩
 ·exact h1
 ·rw[h4,hnews _ h3];have:(j-n * sz) % sz=j % sz:=by
   rw[<-Nat.add_mul_mod_self_right (j-n * sz) n sz];congr 1;omega
  rw[this]
end
end Go.Proofs.YtkafkipjedpohaaGreatDoor

import Derived.Test.YtkafkipjedpohaaGreatDoorB2
namespace Go.Proofs.YtkafkipjedpohaaGreatDoor
set_option maxRecDepth 100000
set_option maxHeartbeats 16000000
open Go.RowKit _root_.Go.Proofs.Tryz
def DV(n:Nat)(op ar:Nat->Int):List Value:=(List.range (n * 2)).map fun j=>if j % 2=0 then .int .i64 (op (j / 2)) else .int .i64 (ar (j / 2))
theorem Fi(n:Nat)(op ar:Nat->Int):(DV n op ar).length=n * 2:=by simp[DV]
theorem N3(n:Nat)(op ar:Nat->Int)(j:Nat)(u:Value)(h:(DV n op ar)[j]?=some u):j<n * 2/\u=if j % 2=0 then .int .i64 (op (j / 2)) else .int .i64 (ar (j / 2)):=by
 have hj:j<n * 2:=by
  have:=(List.getElem?_eq_some_iff.1 h).1;rwa [Fi] at this
 refine⟨hj,?_⟩;simp[DV,hj] at h;exact h.symm
theorem JC(n:Nat)(op ar:Nat->Int)(j:Nat)(hj:j<n * 2):(DV n op ar)[j]?=some (if j % 2=0 then .int .i64 (op (j / 2)) else .int .i64 (ar (j / 2))):=by
 simp[DV,hj]
theorem Mg(n:Nat)(op ar:Nat->Int):∀ u∈DV n op ar,u.oneCell'=true:=by
 intro u hu;simp only[DV,List.mem_map] at hu;obtain⟨j,_,rfl⟩:=hu;split<;>rfl
section
variable {w:World}{g m:Nat}{F:Nat->PF}
theorem Qk{n:Nat}{op ar:Nat->Int}(h:∀ j u,(DV n op ar)[j]?=some u->w.cell? ⟨g,j,none⟩=some u):BB w g 0 n op ar:=by
 intro i hi;have h0:=h (i * 2) _ (JC n op ar (i * 2) (by omega));have h1:=h (i * 2+1) _ (JC n op ar (i * 2+1) (by omega));rw[if_pos (by omega),show i * 2 / 2=i by omega] at h0;rw[if_neg (by omega),show (i * 2+1) / 2=i by omega] at h1;simp only[Nat.zero_add];exact⟨h0,h1⟩
theorem Le{b off n:Nat}{op ar:Nat->Int}(h:BB w b off n op ar):∀ j u,(DV n op ar)[j]?=some u->w.cell? ⟨b,off+j,none⟩=some u:=by
 intro j u hu;obtain⟨hj,rfl⟩:=N3 n op ar j u hu;obtain⟨h0,h1⟩:=h (j / 2) (by omega);by_cases e:j % 2=0
 ·rw[if_pos e,show off+j=off+j / 2 * 2 by omega];exact h0
 ·rw[if_neg e,show off+j=off+j / 2 * 2+1 by omega];exact h1
def F8(F:Nat->PF)(CA:Nat->Option Addr)(CC:Nat->Nat)(j:Nat):Value :=
 if j % 3=0 then .int .i64 (F (j / 3)).args else if j % 3=1 then .int .i64 (F (j / 3)).locals else .slice (CA (j / 3)) (F (j / 3)).cn (CC (j / 3))
def EU(m:Nat)(F:Nat->PF)(CA:Nat->Option Addr)(CC:Nat->Nat):List Value:=(List.range (m * 3)).map (F8 F CA CC)
theorem MG(m:Nat)(F:Nat->PF)(CA:Nat->Option Addr)(CC:Nat->Nat):(EU m F CA CC).length=m * 3:=by simp[EU]
theorem G6(m:Nat)(F:Nat->PF)(CA:Nat->Option Addr)(CC:Nat->Nat)(j:Nat)(hj:j<m * 3):(EU m F CA CC)[j]?=some (F8 F CA CC j):=by
 simp[EU,hj]
theorem Sg(m:Nat)(F:Nat->PF)(CA:Nat->Option Addr)(CC:Nat->Nat):∀ u∈EU m F CA CC,u.oneCell'=true:=by
 intro u hu;simp only[EU,List.mem_map] at hu;obtain⟨j,_,rfl⟩:=hu;unfold F8;split
 ·rfl
 ·split<;>rfl
theorem Oi{pb po:Nat}{CA:Nat->Option Addr}{CC:Nat->Nat}(h:BD w pb po m F CA CC):∀ j u,(EU m F CA CC)[j]?=some u->w.cell? ⟨pb,po+j,none⟩=some u:=by
 intro j u hu;have hj:j<m * 3:=by
  have:=(List.getElem?_eq_some_iff.1 hu).1;rwa [MG] at this
 rw[G6 m F CA CC j hj] at hu;obtain rfl:=Option.some.inj hu;obtain⟨h0,h1,h2,_⟩:=h.fn (j / 3) (by omega);unfold F8;by_cases e0:j % 3=0
 ·rw[if_pos e0,show po+j=po+j / 3 * 3 by omega];exact h0
 ·by_cases e1:j % 3=1
  ·rw[if_neg e0,if_pos e1,show po+j=po+j / 3 * 3+1 by omega];exact h1
  ·rw[if_neg e0,if_neg e1,show po+j=po+j / 3 * 3+2 by omega];exact h2
theorem Sy{CA:Nat->Option Addr}{CC:Nat->Nat}(h:∀ j u,(EU m F CA CC)[j]?=some u->w.cell? ⟨g,j,none⟩=some u)(k:Nat)(hk:k<m) :
  w.cell? ⟨g,0+k * 3,none⟩=some (.int .i64 (F k).args)/\w.cell? ⟨g,0+k * 3+1,none⟩=some (.int .i64 (F k).locals)/\w.cell? ⟨g,0+k * 3+2,none⟩=some (.slice (CA k) (F k).cn (CC k)):=by
 have h0:=h (k * 3) _ (G6 m F CA CC (k * 3) (by omega));have h1:=h (k * 3+1) _ (G6 m F CA CC (k * 3+1) (by omega));have h2:=h (k * 3+2) _ (G6 m F CA CC (k * 3+2) (by omega));unfold F8 at h0 h1 h2;rw[if_pos (by omega),show k * 3 / 3=k by omega] at h0;rw[if_neg (by omega),if_pos (by omega),show (k * 3+1) / 3=k by omega] at h1;rw[if_neg (by omega),if_neg (by omega),show (k * 3+2) / 3=k by omega] at h2;simp only[Nat.zero_add];exact⟨h0,h1,h2⟩
theorem RF(cb co cc n:Nat)(op ar:Nat->Int)(w:World)(hn:1<=n)(hn64:n<=64)(hcb:cb<w.heap.size)(hc:BB w cb co n op ar) :
  Calls prog 51 #[.slice (some ⟨cb,co,none⟩) n cc] w fun e w'=>∃ g cap,e=.returned (.slice (some ⟨g,0,none⟩) n cap)/\Below w.heap.size w w'/\w.heap.size<=g/\g<w'.heap.size/\BB w' g 0 n op ar/\n<=cap:=by
 have hnil:=fun wx=>Lib.run_eql_slice_nil (P:=prog) wx 29 33 (some ⟨cb,co,none⟩) n cc 0 0 underlying29
 obtain⟨cap,w2,hrun,hB,hz,hcells,hfz,hcap⟩:=MN (P:=prog) 29 33 _ 2 16 underlying29 Tryz.info33 (some ⟨w.heap.size,0,none⟩) ⟨cb,co,none⟩ n cc (DV n op ar) (Fi _ _ _) (Mg _ _ _) hn (by omega) (by omega) (w.alloc (.cells #[] 33))
  (fun j u hu=>by rw[Addr.add_lit];exact((Below.cell ((Tu w.heap.size w).alloc (Te _) (.cells #[] 33)) (p:=⟨cb,co+j,none⟩) hcb)).trans (Le hc j u hu))
 rw[World.size_alloc] at hrun hB hz hcells hfz;have HX:=Aa (Tc hB (Tc hz (Tc (Qk hcells) hcap)));have HR:=Aa hrun;clear hB hz hcells hfz hrun hc hcap;go_enter func51,ntmps51
 go_wp2_with (at_builtin;refine BV _ rfl _ _ 29 rfl _ _ _ _ rfl rfl HR.out ?_)
 go_ret;obtain⟨hB,hz,hcells,hcap⟩:=HX.out;exact⟨_,_,rfl,((Tu _ _).alloc (Te _) _).trans (hB.mono (by omega)),by omega,by omega,hcells,hcap⟩
def Cp(w wr:World)(g k m:Nat)(F:Nat->PF):Prop :=
 ∃ (CA:Nat->Option Addr) (CC:Nat->Nat),∀ j,j<m->ED wr g 0 j (F j) (CA j) (CC j)/\∃ cb co,CA j=some ⟨cb,co,none⟩/\cb≠g/\(j<k->w.heap.size<=cb/\(F j).cn<=CC j)
theorem Cp.step{wr w2:World}{k h cap:Nat}(hc:Cp w wr g k m F)(hk:k<m)(hB:Below wr.heap.size wr w2)(hg:g<wr.heap.size)(hh:wr.heap.size<=h)(hh2:h<w2.heap.size)(hw:w.heap.size<=wr.heap.size)(hcode:BB w2 h 0 (F k).cn (F k).op (F k).ar)(hcap:(F k).cn<=cap) :
  Cp w (w2.setCell ⟨g,k * 3+2,none⟩ (.slice (some ⟨h,0,none⟩) (F k).cn cap)) g (k+1) m F:=by
 obtain⟨CA,CC,hj⟩:=hc;have hset:∀ (b o:Nat),¬(b=g/\o=k * 3+2)->(w2.setCell ⟨g,k * 3+2,none⟩ (.slice (some ⟨h,0,none⟩) (F k).cn cap)).cell? ⟨b,o,none⟩=w2.cell? ⟨b,o,none⟩:=by
  intro b o hne;refine World.cell?_setCell_other _ _ _ _ ?_;intro e;injection e with e1 e2;exact hne ⟨e1.symm,e2.symm⟩
 have Av:(w2.setCell ⟨g,k * 3+2,none⟩ (.slice (some ⟨h,0,none⟩) (F k).cn cap)).heap.size=w2.heap.size:=by simp[World.setCell]
 have hs2:=hB.size;refine⟨Ac CA k (some ⟨h,0,none⟩),Ac CC k cap,fun j hjm=>?_⟩;by_cases e:j=k
 ·subst e;rw[Au,Au];obtain⟨⟨h0,h1,h2,_⟩,_⟩:=hj j hjm;refine⟨⟨?_,?_,?_,fun _=>⟨h,0,rfl,by rw[Av];exact hh2,fun i hi=>?_⟩⟩,h,0,rfl,by omega,fun _=>⟨by omega,hcap⟩⟩
  ·rw[hset _ _ (by omega)];exact(hB.cell (p:=⟨g,_,none⟩) hg).trans h0
  ·rw[hset _ _ (by omega)];exact(hB.cell (p:=⟨g,_,none⟩) hg).trans h1
  ·have hx:=(hB.cell (p:=⟨g,0+j * 3+2,none⟩) hg).trans h2;rw[Nat.zero_add] at hx ⊢;exact World.cell?_setCell_same _ _ _ hx
  ·rw[hset _ _ (by omega),hset _ _ (by omega)];exact hcode i hi
 ·rw[Ao _ _ _ _ e,Ao _ _ _ _ e];obtain⟨⟨h0,h1,h2,h3⟩,cb,co,ec,hne,hold⟩:=hj j hjm;have H3:=Aa h3;clear h3 hj;refine⟨⟨?_,?_,?_,fun hn=>?_⟩,cb,co,ec,hne,fun hlt=>hold (by omega)⟩
  ·rw[hset _ _ (by omega)];exact(hB.cell (p:=⟨g,_,none⟩) hg).trans h0
  ·rw[hset _ _ (by omega)];exact(hB.cell (p:=⟨g,_,none⟩) hg).trans h1
  ·rw[hset _ _ (by omega)];exact(hB.cell (p:=⟨g,_,none⟩) hg).trans h2
  ·obtain⟨cb',co',ec',hl,hcc⟩:=H3.out hn;rw[ec] at ec';injection ec' with ec';injection ec' with e1 e2;subst e1;subst e2;refine⟨cb,co,ec,by rw[Av];omega,fun i hi=>?_⟩;rw[hset _ _ (by omega),hset _ _ (by omega)];exact(hcc.below hB hl) i hi
theorem OR(pb po pc m:Nat)(F:Nat->PF)(CA:Nat->Option Addr)(CC:Nat->Nat)(w:World)(hP:BD w pb po m F CA CC)(hm:1<=m)(hm8:m<=8)(hcn:∀ k,k<m->1<=(F k).cn/\(F k).cn<=64) :
  Calls prog 35 #[.slice (some ⟨pb,po,none⟩) m pc] w fun e w'=>∃ g cap,e=.returned (.slice (some ⟨g,0,none⟩) m cap)/\Below w.heap.size w w'/\w.heap.size<=g/\g<w'.heap.size/\Cp w w' g m m F:=by
 have hcl:=Qz pb po pc m (EU m F CA CC) w hm hm8 (MG _ _ _ _) (Sg _ _ _ _) hP.lt (Oi hP);have HC:=Aa hcl;have HP:=Aa hP;have HN:=Aa hcn;clear hcl hP hcn;go_enter func35,ntmps35
 go_wp2_with fail
 refine HC.out.mono ?_;rintro e w2 ⟨g,cap,rfl,hB,hg1,hg2,hcells,hfz⟩;have hcp:Cp w w2 g 0 m F:=by
  refine⟨CA,CC,fun j hj=>?_⟩;obtain⟨a0,a1,a2⟩:=Sy hcells j hj;have hf:=(HP.out.below hB (Te _)).fn j hj;obtain⟨cb,co,ec,hl,hcc⟩:=(HP.out.fn j hj).code (HN.out j hj).1;exact⟨⟨a0,a1,a2,hf.code⟩,cb,co,ec,by omega,fun h=>by omega⟩
 have HS:=Aa (Tc hB (Tc hcp hfz));clear hB hcells hfz hcp HC HP;go_wp2;go_loopw [9] (fun v wr=>∃ k:Nat,k<=m/\v=.int .i64 k/\Below w.heap.size w wr/\Cp w wr g k m F/\(∀ j,wr.frozen? ⟨g,j,none⟩=false)/\g<wr.heap.size) (fun v _=>m-(intOf v).toNat)
 case atStart=>exact⟨0,Tt _,rfl,HS.out.1,HS.out.2.1,HS.out.2.2,hg2⟩
 case round =>
  clear HS;obtain⟨k,hk,rfl,hB,hC,hfz,hgr⟩:=hrel;by_cases hlt:k<m
  ·have hC':=hC;obtain⟨CA',CC',hj⟩:=hC';obtain⟨⟨h0,h1,h2,h3⟩,_⟩:=hj k hlt;obtain⟨cb,co,ec,hl,hcc⟩:=h3 (HN.out k hlt).1;rw[ec,Nat.zero_add] at h2;have hcon:=RF cb co (CC' k) (F k).cn (F k).op (F k).ar wr (HN.out k hlt).1 (HN.out k hlt).2 hl hcc;have HC:=Aa hcon;have HK:=Aa (Tc hB hC);have hwr:w.heap.size<=wr.heap.size:=hB.size;clear hcon hB hC hj h0 h1 h3 hcc;have hstep:=fun w3 h cap=>HK.out.2.step (w2:=w3) (h:=h) (cap:=cap) hlt
   have HT:=Aa hstep;clear hstep;generalize (F k).cn=cn at *;go_wp2_with fail
   refine HC.out.mono ?_;rintro e w3 ⟨h,cap',rfl,hB3,hh1,hh2,hc3,hcap3⟩;have g2:w3.cell? ⟨g,k * 3+2,none⟩=some (.slice (some ⟨cb,co,none⟩) cn (CC' k)):=(hB3.cell (p:=⟨g,_,none⟩) hgr).trans h2;have f2:w3.frozen? ⟨g,k * 3+2,none⟩=false:=(hB3.frozen (p:=⟨g,_,none⟩) hgr).trans (hfz _);have hg3:g<w3.heap.size:=by have:=hB3.size;omega
   have HZ:Hid (Below w.heap.size w (w3.setCell ⟨g,k * 3+2,none⟩ (.slice (some ⟨h,0,none⟩) cn cap'))/\Cp w (w3.setCell ⟨g,k * 3+2,none⟩ (.slice (some ⟨h,0,none⟩) cn cap')) g (k+1) m F/\(∀ j,(w3.setCell ⟨g,k * 3+2,none⟩ (.slice (some ⟨h,0,none⟩) cn cap')).frozen? ⟨g,j,none⟩=false)/\g<(w3.setCell ⟨g,k * 3+2,none⟩ (.slice (some ⟨h,0,none⟩) cn cap')).heap.size):=by
    refine⟨(HK.out.1.trans (hB3.mono hwr)).setCell hg1 _,HT.out w3 h cap' hB3 hgr hh1 hh2 hwr hc3 hcap3,fun j=>?_,by simpa [World.setCell] using hg3⟩;rw[World.frozen?_setCell];exact(hB3.frozen (p:=⟨g,_,none⟩) hgr).trans (hfz _)
   clear hB3 hc3 HC h2 hfz hcap3;go_wp2;go_roundw
   case rel=>exact⟨k+1,by omega,by go_num,HZ.out⟩
   case measure=>simp[intOf];omega
  ·obtain rfl:k=m:=by omega
   have HZ:=Aa (Tc hB hC);clear hB hC hfz;go_wp2;go_ret;exact⟨g,cap,rfl,HZ.out.1,hg1,hgr,HZ.out.2⟩
end
theorem JO{m:Nat}{F:Nat->PF}(h:(AW m F).1=0):1<=m/\m<=8/\AW m F=(0,0,0)/\∀ k,k<m->1<=(F k).cn/\(F k).cn<=64:=by
 by_cases hm:m<1\/8<m
 ·rw[Ix hm] at h;simp at h
 ·rcases FR (B8 m F) m with⟨h1,h2,h3⟩|⟨h1,h2⟩
  ·have hne:(BW m (Bi (B8 m F) m) (F (Bi (B8 m F) m))).1≠0:=by simpa [B8] using h2
   rw[Gj hm h1 hne h3] at h;exact absurd h hne
  ·refine⟨by omega,by omega,Ji hm h2,fun k hk=>?_⟩;have hf:(BW m k (F k)).1=0:=by
    have:=h2 k hk;simpa [B8] using this
   cases hs:B6 (F k)
   ·rw[GG (Or.inl hs)] at hf;simp at hf
   ·unfold B6 at hs;simp only[Bool.and_eq_true,decide_eq_true_eq] at hs;exact hs.2
def Eh(w w':World)(v:Value)(m:Nat)(F:Nat->PF):Prop :=
 ∃ b g cap,v=.pointer (some ⟨b,0,none⟩)/\w.heap.size<=b/\b<w'.heap.size/\w'.cell? ⟨b,0,none⟩=some (.slice (some ⟨g,0,none⟩) m cap)/\w.heap.size<=g/\g<w'.heap.size/\b≠g/\Cp w w' g m m F
theorem Se(p:Option Addr)(pc m:Nat)(F:Nat->PF)(w:World)(hne:(AW m F).1≠0)
  (hcon:Calls prog 34 #[.slice p m pc] w fun e w'=>e=.returned (.tuple #[.int .i64 (AW m F).1,.int .i64 (AW m F).2.1,.int .i64 (AW m F).2.2])/\Below w.heap.size w w') :
  Calls prog 17 #[.slice p m pc] w fun e w' =>
   e=.returned (.tuple #[.pointer none,.int .i64 (AW m F).1,.int .i64 (AW m F).2.1,.int .i64 (AW m F).2.2])/\Below w.heap.size w w':=by
 have HC:=Aa hcon;clear hcon;have hb:((AW m F).1 != 0)=true:=by simpa using hne
 clear hne;generalize AW m F=R at *;go_enter func17,ntmps17
 go_wp2_with fail
 refine HC.out.mono ?_;rintro e w2 ⟨rfl,hB⟩;have HB:=Aa hB;clear hB HC;go_wp2;exact bodyPost_ret (v:=.tuple #[.pointer none,.int .i64 R.1,.int .i64 R.2.1,.int .i64 R.2.2]) (by simp[results,Tryz.results17,go_sem]) rfl ⟨rfl,HB.out⟩
theorem M6(pb po pc m:Nat)(F:Nat->PF)(CA:Nat->Option Addr)(CC:Nat->Nat)(w:World)(hP:BD w pb po m F CA CC)(ht:Cb w)(h0:(AW m F).1=0) :
  Calls prog 17 #[.slice (some ⟨pb,po,none⟩) m pc] w fun e w' =>
   ∃ v,e=.returned (.tuple #[v,.int .i64 0,.int .i64 0,.int .i64 0])/\Below w.heap.size w w'/\Eh w w' v m F:=by
 obtain⟨hm,hm8,hR,hcn⟩:=JO h0;have hcon:=KD pb po pc m F CA CC w hP (by omega) ht;rw[hR] at hcon;have HC:=Aa hcon;have HP:=Aa hP;have HN:=Aa hcn;clear hcon hP hcn h0 hR ht;go_enter func17,ntmps17
 go_wp2_with fail
 refine HC.out.mono ?_;rintro e w2 ⟨rfl,hB⟩;have hcop:=OR pb po pc m F CA CC w2 (HP.out.below hB (Te _)) hm hm8 HN.out;have HC2:=Aa hcop;have HB:=Aa hB;clear hB HC hcop;go_wp2_with fail
 refine HC2.out.mono ?_;rintro e w3 ⟨g,cap,rfl,hB3,hg1,hg2,hcp⟩;have HX:=Aa (Tc hB3 hcp);clear hB3 hcp HC2;go_wp2;refine bodyPost_ret (v:=.tuple #[.pointer (some ⟨w3.heap.size,0,none⟩),.int .i64 0,.int .i64 0,.int .i64 0]) (by simp[results,Tryz.results17,go_sem]) rfl ⟨_,rfl,?_,?_⟩
 ·exact(HB.out.trans (HX.out.1.mono HB.out.size)).alloc (by have:=HB.out.size;have:=HX.out.1.size;omega) _
 ·have e1:=HB.out.size;have e2:=HX.out.1.size;refine⟨w3.heap.size,g,cap,rfl,by omega,by simp,BP _ _ _ _ _ rfl,by omega,by simp;omega,by omega,?_⟩;obtain⟨CA',CC',hj⟩:=HX.out.2;refine⟨CA',CC',fun j hjm=>?_⟩;obtain⟨hf,cb,co,ec,hne,hold⟩:=hj j hjm;exact⟨hf.below ((Tu w3.heap.size w3).alloc (Te _) _) (Te _) hg2,cb,co,ec,hne,fun hl=>by have:=hold hl;omega⟩
theorem RL(p:Option Addr)(pc m:Nat)(F:Nat->PF)(w:World)(h:m<1\/8<m) :
  Calls prog 75 #[.slice p m pc] w fun e w' =>
   e=.returned (.tuple #[.int .i64 (AW m F).1,.int .i64 (AW m F).2.1,.int .i64 (AW m F).2.2])/\Below w.heap.size w w':=by
 rw[Ix h];by_cases h0:m=0
 ·have hb:((m:Int)==0)=true:=by simpa using h0
  clear h h0;go_enter func75,ntmps75
  go_wp2;go_ret3
  exact⟨rfl,Tu _ _⟩
 ·have hb:((m:Int)==0)=false:=by simp;omega
  have h8:8<m:=by omega
  clear h h0;go_enter func75,ntmps75
  go_wp2;go_ret3
  exact⟨rfl,Tu _ _⟩
theorem O8(pb po pc m:Nat)(F:Nat->PF)(CA:Nat->Option Addr)(CC:Nat->Nat)(w:World)(hP:BD w pb po m F CA CC)(h:¬(m<1\/8<m)) :
  Calls prog 75 #[.slice (some ⟨pb,po,none⟩) m pc] w fun e w' =>
   e=.returned (.tuple #[.int .i64 (AW m F).1,.int .i64 (AW m F).2.1,.int .i64 (AW m F).2.2])/\Below w.heap.size w w':=by
 have hb:((m:Int)==0)=false:=by simp;omega
 have h8:m<=8:=by omega
 have HX:Hid (BD w pb po m F CA CC/\¬(m<1\/8<m)):=⟨hP,h⟩
 have hpw:pb<w.heap.size:=hP.lt;clear h hP;generalize hR:AW m F=R;have HR:=Aa hR;clear hR;go_enter func75,ntmps75
 go_wp2;go_loopw [5] (fun v wr=>∃ k:Nat,k<=m/\v=.int .i64 k/\(∀ i,i<k->B8 m F i=false)/\Below w.heap.size w wr) (fun v _=>m-(intOf v).toNat)
 case atStart=>exact⟨0,Tt _,rfl,fun i hi=>by omega,Tu _ _⟩
 case round =>
  obtain⟨k,hk,rfl,hno,hB⟩:=hrel;by_cases hlt:k<m
  ·obtain⟨c0,c1,c2,hcode⟩:=((HX.out.1).below hB (Te _)).fn k hlt;have Av:=hB.size;have HN:Hid ((∀ i,i<k->B8 m F i=false)/\Below w.heap.size w wr/\(1<=(F k).cn->∃ cb co,CA k=some ⟨cb,co,none⟩/\cb<wr.heap.size/\BB wr cb co (F k).cn (F k).op (F k).ar)):=⟨hno,hB,hcode⟩
   clear hno hB hcode;by_cases hbad:B6 (F k)=false\/(k=0/\(F k).args≠0)
   ·have HY:Hid (R=(1,(k:Int),0)):=by
     unfold Hid;rw[<-HR.out,Gj HX.out.2 hlt (by rw[GG hbad];simp) HN.out.1,GG hbad]
    have hcases:(F k).locals<0\/(¬(F k).locals<0/\8<(F k).locals)\/(¬(F k).locals<0/\¬8<(F k).locals/\(F k).args<0)\/(¬(F k).locals<0/\¬8<(F k).locals/\¬(F k).args<0/\(F k).locals<(F k).args)\/(¬(F k).locals<0/\¬8<(F k).locals/\¬(F k).args<0/\¬(F k).locals<(F k).args/\(F k).cn=0)\/(¬(F k).locals<0/\¬8<(F k).locals/\¬(F k).args<0/\¬(F k).locals<(F k).args/\¬(F k).cn=0/\64<(F k).cn)\/(¬(F k).locals<0/\¬8<(F k).locals/\¬(F k).args<0/\¬(F k).locals<(F k).args/\¬(F k).cn=0/\¬64<(F k).cn/\k=0/\(F k).args≠0):=by
     rcases hbad with hs|hs
     ·unfold B6 at hs;simp only[Bool.and_eq_false_iff,decide_eq_false_iff_not] at hs;omega
     ·omega
    clear hbad;generalize (F k).args=ag at *;generalize (F k).locals=lc at *;generalize (F k).cn=cn at *;generalize CA k=ca at *;rcases hcases with a1|⟨a1,a2⟩|⟨a1,a2,a3⟩|⟨a1,a2,a3,a4⟩|⟨a1,a2,a3,a4,a5⟩|⟨a1,a2,a3,a4,a5,a6⟩|⟨a1,a2,a3,a4,a5,a6,a7,a8⟩
    ·go_wp2;go_ret3
     rw[HY.out];exact⟨rfl,HN.out.2.1.alloc (by omega) _⟩
    ·have b1:decide (lc<0)=false:=by simpa using a1
     go_wp2;go_ret3
     rw[HY.out];exact⟨rfl,HN.out.2.1.alloc (by omega) _⟩
    ·have b1:decide (lc<0)=false:=by simpa using a1
     have b2:decide (8<lc)=false:=by simpa using a2
     go_wp2;go_ret3
     rw[HY.out];exact⟨rfl,HN.out.2.1.alloc (by omega) _⟩
    ·have b1:decide (lc<0)=false:=by simpa using a1
     have b2:decide (8<lc)=false:=by simpa using a2
     have b3:decide (ag<0)=false:=by simpa using a3
     go_wp2;go_ret3
     rw[HY.out];exact⟨rfl,HN.out.2.1.alloc (by omega) _⟩
    ·have b1:decide (lc<0)=false:=by simpa using a1
     have b2:decide (8<lc)=false:=by simpa using a2
     have b3:decide (ag<0)=false:=by simpa using a3
     have b4:decide (lc<ag)=false:=by simpa using a4
     have b5:((cn:Int)==0)=true:=by simpa using a5
     clear a5;go_wp2;go_ret3
     rw[HY.out];exact⟨rfl,HN.out.2.1.alloc (by omega) _⟩
    ·have b1:decide (lc<0)=false:=by simpa using a1
     have b2:decide (8<lc)=false:=by simpa using a2
     have b3:decide (ag<0)=false:=by simpa using a3
     have b4:decide (lc<ag)=false:=by simpa using a4
     have b5:((cn:Int)==0)=false:=by simpa using a5
     clear a5;go_wp2;go_ret3
     rw[HY.out];exact⟨rfl,HN.out.2.1.alloc (by omega) _⟩
    ·have b1:decide (lc<0)=false:=by simpa using a1
     have b2:decide (8<lc)=false:=by simpa using a2
     have b3:decide (ag<0)=false:=by simpa using a3
     have b4:decide (lc<ag)=false:=by simpa using a4
     have b5:((cn:Int)==0)=false:=by simpa using a5
     have b6:decide ((64:Int)<(cn:Int))=false:=by simp;omega
     have b7:((k:Int)==0)=true:=by simpa using a7
     have b8:(ag != 0)=true:=by simpa using a8
     clear a5 a7 a8;go_wp2;go_ret3
     rw[HY.out];exact⟨rfl,HN.out.2.1.alloc (by omega) _⟩
   ·have hs:B6 (F k)=true:=by
     cases h:B6 (F k)
     ·exact absurd (Or.inl h) hbad
     ·rfl
    unfold B6 at hs;simp only[Bool.and_eq_true,decide_eq_true_eq] at hs;obtain⟨⟨⟨hl0,hl8⟩,ha0,hal⟩,hn1,hn⟩:=hs;obtain⟨cb,co,hca,hcb,hc⟩:=HN.out.2.2 hn1;rw[hca] at c2;have hg:((k:Int)==0)=false\/(((k:Int)==0)=true/\((F k).args != 0)=false):=by
     by_cases e:k=0
     ·right;have:(F k).args=0:=by
       by_cases e2:(F k).args=0
       ·exact e2
       ·exact absurd (Or.inr ⟨e,e2⟩) hbad
      simp[e];rw[e] at this;exact this
     ·left;simp;omega
    have HZ:Hid (¬(B6 (F k)=false\/(k=0/\(F k).args≠0))/\BB wr cb co (F k).cn (F k).op (F k).ar):=⟨hbad,hc⟩
    clear hbad hc hca;have HBx:Hid (Below w.heap.size w wr):=HN.out.2.1;have HNo:Hid (∀ i,i<k->B8 m F i=false):=HN.out.1;clear HN;generalize hag:(F k).args=ag at *;generalize hlc:(F k).locals=lc at *;generalize hcn:(F k).cn=cn at *;have HE:Hid ((F k).args=ag/\(F k).locals=lc/\(F k).cn=cn):=⟨hag,hlc,hcn⟩
    clear hag hlc hcn;have b1:decide (lc<0)=false:=by simpa using hl0
    have b2:decide (8<lc)=false:=by simpa using hl8
    have b3:decide (ag<0)=false:=by simpa using ha0
    have b4:decide (lc<ag)=false:=by simpa using hal
    have b5:((cn:Int)==0)=false:=by simp;omega
    have b6:decide ((64:Int)<(cn:Int))=false:=by simp;omega
    rcases hg with hg|⟨hg,hg'⟩
    all_goals
     have hBW:Below w.heap.size w (wr.alloc (.cells #[.int .i64 ag,.int .i64 lc,.slice (some ⟨cb,co,none⟩) cn (CC k)] 31)):=HBx.out.alloc Av _;have hCW:BB (wr.alloc (.cells #[.int .i64 ag,.int .i64 lc,.slice (some ⟨cb,co,none⟩) cn (CC k)] 31)) cb co cn (F k).op (F k).ar:=HZ.out.2.below ((Tu wr.heap.size wr).alloc (Te _) _) hcb;have d0:(wr.alloc (.cells #[.int .i64 ag,.int .i64 lc,.slice (some ⟨cb,co,none⟩) cn (CC k)] 31)).cell? ⟨wr.heap.size,0,none⟩=some (.int .i64 ag):=BP _ _ _ _ _ rfl;have d1:(wr.alloc (.cells #[.int .i64 ag,.int .i64 lc,.slice (some ⟨cb,co,none⟩) cn (CC k)] 31)).cell? ⟨wr.heap.size,1,none⟩=some (.int .i64 lc):=BP _ _ _ _ _ rfl;have d2:(wr.alloc (.cells #[.int .i64 ag,.int .i64 lc,.slice (some ⟨cb,co,none⟩) cn (CC k)] 31)).cell? ⟨wr.heap.size,2,none⟩=some (.slice (some ⟨cb,co,none⟩) cn (CC k)):=BP _ _ _ _ _ rfl;have hzW:wr.heap.size<(wr.alloc (.cells #[.int .i64 ag,.int .i64 lc,.slice (some ⟨cb,co,none⟩) cn (CC k)] 31)).heap.size:=by simp
     have HW:Hid (Below w.heap.size w (wr.alloc (.cells #[.int .i64 ag,.int .i64 lc,.slice (some ⟨cb,co,none⟩) cn (CC k)] 31))/\BB (wr.alloc (.cells #[.int .i64 ag,.int .i64 lc,.slice (some ⟨cb,co,none⟩) cn (CC k)] 31)) cb co cn (F k).op (F k).ar/\(wr.alloc (.cells #[.int .i64 ag,.int .i64 lc,.slice (some ⟨cb,co,none⟩) cn (CC k)] 31)).cell? ⟨wr.heap.size,0,none⟩=some (.int .i64 ag)/\(wr.alloc (.cells #[.int .i64 ag,.int .i64 lc,.slice (some ⟨cb,co,none⟩) cn (CC k)] 31)).cell? ⟨wr.heap.size,1,none⟩=some (.int .i64 lc)/\(wr.alloc (.cells #[.int .i64 ag,.int .i64 lc,.slice (some ⟨cb,co,none⟩) cn (CC k)] 31)).cell? ⟨wr.heap.size,2,none⟩=some (.slice (some ⟨cb,co,none⟩) cn (CC k))/\wr.heap.size<(wr.alloc (.cells #[.int .i64 ag,.int .i64 lc,.slice (some ⟨cb,co,none⟩) cn (CC k)] 31)).heap.size):=⟨hBW,hCW,d0,d1,d2,hzW⟩
     clear hBW hCW d0 d1 d2 hzW;go_wp2;clear c0 c1 c2 b1 b2 b3 b4 b5 b6;have HZ1:Hid (¬(B6 (F k)=false\/(k=0/\ag≠0))):=HZ.out.1;clear HZ HBx;generalize wr.alloc (.cells #[.int .i64 ag,.int .i64 lc,.slice (some ⟨cb,co,none⟩) cn (CC k)] 31)=W at *;generalize wr.heap.size=bo at *;go_loopw [8] (fun v wz=>∃ j:Nat,j<=cn/\v=.int .i64 j/\(∀ i,i<j->CF m (F k) i=false)/\Below w.heap.size w wz/\BB wz cb co cn (F k).op (F k).ar/\wz.cell? ⟨bo,0,none⟩=some (.int .i64 ag)/\wz.cell? ⟨bo,1,none⟩=some (.int .i64 lc)/\wz.cell? ⟨bo,2,none⟩=some (.slice (some ⟨cb,co,none⟩) cn (CC k))/\bo<wz.heap.size) (fun v _=>cn-(intOf v).toNat)
     case atStart=>exact⟨0,Tt _,rfl,fun i hi=>by omega,HW.out⟩
     case round =>
      clear HW;obtain⟨j,hj,rfl,hnb,hB,hC,e0,e1,e2,hzo⟩:=hrel;by_cases hlj:j<cn
      ·have x0:=(hC j hlj).1;have x1:=(hC j hlj).2;have hcz:cb<wr.heap.size:=by omega
       have hbad:CF m (F k) j=!Bz ((F k).op j) ((F k).ar j) lc cn m:=by unfold CF;rw[HE.out.2.1,HE.out.2.2]
       have HN:Hid ((∀ i,i<j->CF m (F k) i=false)/\Below w.heap.size w wr/\BB wr cb co cn (F k).op (F k).ar/\CF m (F k) j=!Bz ((F k).op j) ((F k).ar j) lc cn m):=⟨hnb,hB,hC,hbad⟩
       clear hnb hB hC hbad;have j0:(0:Int)<=(j:Int):=by omega
       have j1:(j:Int)<(cn:Int):=by omega
       generalize hoj:(F k).op j=oj at *;generalize haj:(F k).ar j=aj at *;clear hoj haj;go_wp2;go_region_held3 (fun w'=>w'.cell? ⟨bo,0,none⟩=some (.int .i64 ag)/\w'.cell? ⟨bo,1,none⟩=some (.int .i64 lc)/\w'.cell? ⟨bo,2,none⟩=some (.slice (some ⟨cb,co,none⟩) cn (CC k))/\w'.cell? ⟨cb,co+j * 2,none⟩=some (.int .i64 oj)/\w'.cell? ⟨cb,co+j * 2+1,none⟩=some (.int .i64 aj)) (go_keep)
        (first|(go_at_call 96;refine(Qw _ _ _ _ _ _ _ _ _).mono ?_;rintro e w2 ⟨rfl,hB2⟩;have q0:=(hB2.cell (p:=⟨bo,0,none⟩) hzo).trans e0;have q1:=(hB2.cell (p:=⟨bo,1,none⟩) hzo).trans e1;have q2:=(hB2.cell (p:=⟨bo,2,none⟩) hzo).trans e2;have q3:=(hB2.cell (p:=⟨cb,co+j * 2,none⟩) hcz).trans x0;have q4:=(hB2.cell (p:=⟨cb,co+j * 2+1,none⟩) hcz).trans x1))
       rename_i hheld;have hB3:Below w.heap.size w w2:=HN.out.2.1.drew.trans (hB2.mono (by show _<=wr.heap.size;omega));have hC3:BB w2 cb co cn (F k).op (F k).ar:=BB.below (w:=wr.drew) HN.out.2.2.1 hB2 hcz;have hz3:bo<w2.heap.size:=by have:wr.heap.size<=w2.heap.size:=hB2.size;omega
       have HB3:Hid (Below w.heap.size w w2/\BB w2 cb co cn (F k).op (F k).ar):=⟨hB3,hC3⟩
       clear hheld hB2 hB3 hC3 q3 q4 x0 x1 e0 e1 e2;cases hleg:Bz oj aj lc cn m
       ·have hbd:=HN.out.2.2.2;rw[hleg] at hbd;have hfp:=IU (m:=m) (k:=k) (f:=F k) (by rw[HE.out.1];exact HZ1.out) (by rw[HE.out.2.2];exact hlj) hbd HN.out.1;have HY:Hid (R=(2,(k:Int),(j:Int))):=by
         unfold Hid;rw[<-HR.out,Gj HX.out.2 hlt (by rw[hfp];simp) HNo.out,hfp]
        clear hbd hfp hleg;go_wp2;go_ret3
        rw[HY.out];exact⟨rfl,HB3.out.1⟩
       ·have hbd:=HN.out.2.2.2;rw[hleg] at hbd;have HD:Hid (∀ i,i<j+1->CF m (F k) i=false):=fun i hi=>by
         by_cases e:i=j
         ·rw[e];exact hbd
         ·exact HN.out.1 i (by omega)
        clear hbd hleg;go_wp2;go_roundw
        case rel=>exact⟨j+1,by omega,by go_num,HD.out,HB3.out.1,HB3.out.2,q0,q1,q2,hz3⟩
        case measure=>simp[intOf];omega
      ·obtain rfl:j=cn:=by omega
       have hfp:BW m k (F k)=Cl j (F k).op (F k).ar (j+1) s0:=by
        rw[MO (by rw[HE.out.1];exact HZ1.out) (by rw[HE.out.2.2];exact hnb),HE.out.2.2]
       have hcon:=QF cb co (CC k) j (F k).op (F k).ar wr hC (by omega) hn1 hn lc m (fun i hi=>by
        have:=Lh (hnb i hi);rw[HE.out.2.1,HE.out.2.2] at this;exact this)
       have hbadk:=fun h1=>Gj (m:=m) (F:=F) HX.out.2 hlt h1 HNo.out
       rw[<-hfp] at hcon;rcases hff:BW m k (F k) with⟨er,at'⟩
       rw[hff] at hcon hbadk;simp only at hcon hbadk;have HC:=Aa hcon;have HM:Hid (BW m k (F k)=(er,at')/\(er≠0->AW m F=(er,(k:Int),at'))/\Below w.heap.size w wr):=⟨hff,hbadk,hB⟩
       have hzz:w.heap.size<=wr.heap.size:=hB.size;clear hcon hbadk hff hfp hnb hB hC;go_wp2_with fail
       refine HC.out.mono ?_;rintro e w2 ⟨rfl,hB2⟩;have HB2:Hid (Below w.heap.size w w2):=HM.out.2.2.trans (hB2.mono hzz);clear hB2 HC e0 e1 e2;by_cases her:er=0
       ·subst her;have HY:Hid (∀ i,i<k+1->B8 m F i=false):=fun i hi=>by
         by_cases e:i=k
         ·subst e;unfold B8;rw[HM.out.1];simp
         ·exact HNo.out i (by omega)
        go_wp2;go_roundw
        case rel=>exact⟨k+1,by omega,by go_num,HY.out,HB2.out⟩
        case measure=>simp[intOf];omega
       ·have hb:(er != 0)=true:=by simpa using her
        have HY:Hid (R=(er,(k:Int),at')):=by unfold Hid;rw[<-HR.out];exact HM.out.2.1 her
        clear her;go_wp2;go_ret3
        rw[HY.out];exact⟨rfl,HB2.out⟩
  ·obtain rfl:k=m:=by omega
   have HY:Hid (R=(0,0,0)):=by unfold Hid;rw[<-HR.out];exact Ji HX.out.2 hno
   have HB2:=Aa hB;clear hno hB;go_wp2;go_ret3
   rw[HY.out];exact⟨rfl,HB2.out⟩
end Go.Proofs.YtkafkipjedpohaaGreatDoor

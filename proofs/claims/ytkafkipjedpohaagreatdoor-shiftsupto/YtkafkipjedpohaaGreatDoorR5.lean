import Derived.Test.YtkafkipjedpohaaGreatDoorR2
namespace Go.Proofs.YtkafkipjedpohaaGreatDoor
set_option maxRecDepth 100000
set_option maxHeartbeats 16000000
open Go.RowKit _root_.Go.Proofs.Tryz
theorem Ae.any{w:World}{B:Nat}{tag:Nat->Nat}{c:Nat}{e:TypeId}{sz:Nat}{v:Value}{n:Nat}{f:Nat->Value}(h:Ae w B tag c e sz v n f):∃ p cap,v=.slice p n cap/\n<=cap:=by
 rcases h with⟨h,h2⟩|⟨b,cap,cur,hv,hb,ht,hh,hc,_⟩
 ·exact⟨none,0,by rw[h,h2],by omega⟩
 ·exact⟨_,cap,hv,hc⟩
theorem J6(w:World)(B rb:Nat)(tag:Nat->Nat)(pv fv av ov hv:Value)(LV SV AV:Nat->Value)(s:Mc)(a i:V)(hL:Ag w B rb tag pv fv av ov hv LV SV AV s)(ha:a.k=2->0<=a.n/\a.n<s.arr.length)(hm:s.arr.length<=200000) :
  Calls prog 124 #[.pointer (some ⟨rb,0,none⟩),.agg #[.int .i64 a.k,.int .i64 a.n],.agg #[.int .i64 i.k,.int .i64 i.n]] w fun e w'=>e=.returned (.int .i64 (AS s.arr a i))/\Below w.heap.size w w':=by
 have hrb:=hL.lt;by_cases h1:a.k=2
 ·have e1:(a.k != 2)=false:=by simpa using h1
  by_cases h2:i.k=1
  ·have e2:(i.k != 1)=false:=by simpa using h2
   obtain⟨a0,a1⟩:=ha h1;obtain⟨j,hj⟩:=Int.eq_ofNat_of_zero_le a0;rw[hj] at a1;have har:=hL.ar;obtain⟨ab,acap,rfl,hab,habz,_,hac⟩:=har.form (by omega);have r2:w.cell? ⟨rb,2,none⟩=some (.slice (some ⟨ab,0,none⟩) s.arr.length acap):=hL.cell 2;have c0:=har.cell (i:=j) (by omega);obtain⟨p,cp,hv,hcp⟩:=(hL.arr j (by omega)).any;rw[hv] at c0;have hw:AS s.arr a i=if i.n<0\/((s.arr.getD j []).length:Int)<=i.n then 5 else 0:=by
    unfold AS;rw[if_neg (by omega),hj,Int.toNat_natCast]
   have HW:=Aa hw;have j1:(j:Int)<(s.arr.length:Int):=by omega
   rw[hj];clear hL har hw ha h1 h2 hj a0 hv;generalize s.arr.length=na at *;generalize (s.arr.getD j []).length=ln at *;by_cases h3:i.n<0
   ·rw[if_pos (Or.inl h3)] at HW;go_enter func124,ntmps124
    go_wp2;go_quiet (fail)
    go_wp2;go_ret;rw[HW.out];exact⟨rfl,below_drewN (((Tu _ _).alloc (Te _) _).alloc (by simp) _) _⟩
   ·have e3:decide (i.n<0)=false:=by simpa using h3
    by_cases h4:(ln:Int)<=i.n
    ·rw[if_pos (Or.inr h4)] at HW;go_enter func124,ntmps124
     go_wp2;go_quiet (fail)
     go_wp2;go_ret;rw[HW.out];exact⟨rfl,below_drewN (((Tu _ _).alloc (Te _) _).alloc (by simp) _) _⟩
    ·rw[if_neg (by omega)] at HW;go_enter func124,ntmps124
     go_wp2;go_quiet (fail)
     go_wp2;go_ret;rw[HW.out];exact⟨rfl,below_drewN (((Tu _ _).alloc (Te _) _).alloc (by simp) _) _⟩
  ·have e2:(i.k != 1)=true:=by simpa using h2
   have hw:AS s.arr a i=3:=by unfold AS;rw[if_pos (Or.inr h2)]
   have HW:=Aa hw;clear hL hw ha h1 h2;go_enter func124,ntmps124
   go_wp2;go_ret;rw[HW.out];exact⟨rfl,((Tu _ _).alloc (Te _) _).alloc (by simp) _⟩
 ·have e1:(a.k != 2)=true:=by simpa using h1
  have hw:AS s.arr a i=3:=by unfold AS;rw[if_pos (Or.inl h1)]
  have HW:=Aa hw;clear hL hw ha h1;go_enter func124,ntmps124
  go_wp2;go_ret;rw[HW.out];exact⟨rfl,((Tu _ _).alloc (Te _) _).alloc (by simp) _⟩
theorem PZ(arr:List (List V))(k:Nat)(hk:k<arr.length):AL (arr.take (k+1))=AL (arr.take k)+(arr.getD k []).length:=by
 rw[List.take_succ_eq_append_getElem hk,JD,Tj,List.getElem?_eq_getElem hk];rfl
theorem Ik(arr:List (List V)):0<=AL arr:=by
 induction arr with
 |nil=>simp[AL]
 |cons a r ih=>simp only[AL,List.map_cons,List.sum_cons] at ih ⊢;omega
theorem N7(arr:List (List V))(k:Nat):AL (arr.take k)<=AL arr:=by
 have h:AL arr=AL (arr.take k)+AL (arr.drop k):=by
  unfold AL;rw[<-List.sum_append,<-List.map_append,List.take_append_drop]
 have:=Ik (arr.drop k);omega
theorem PT(w:World)(B rb:Nat)(tag:Nat->Nat)(pv fv av ov hv:Value)(LV SV AV:Nat->Value)(s:Mc)(hL:Ag w B rb tag pv fv av ov hv LV SV AV s)(hc:AL s.arr<=200)(hm:s.arr.length<=200000) :
  Calls prog 123 #[.pointer (some ⟨rb,0,none⟩)] w fun e w'=>e=.returned (.int .i64 (AL s.arr))/\w'=w:=by
 have har:=hL.ar;obtain⟨pa,acap,rfl,_⟩:=har.any;have r2:w.cell? ⟨rb,2,none⟩=some (.slice pa s.arr.length acap):=hL.cell 2;have HL:=Aa (Tc hL har);clear hL har;go_enter func123,ntmps123
 go_wp2;go_loop [3,4] (fun t i=>∃ k:Nat,k<=s.arr.length/\i=.int .i64 k/\t=.int .i64 (AL (s.arr.take k))) (fun _ i=>s.arr.length-(intOf i).toNat)
 case atStart=>exact⟨0,Tt _,rfl,by simp[AL]⟩
 case round =>
  obtain⟨k,hk,rfl,rfl⟩:=hrel;by_cases hlt:k<s.arr.length
  ·obtain⟨ab,acap',hav,_,_,_,_⟩:=HL.out.2.form (by omega);injection hav with e1 e2 e3;subst e1;subst e3;have c0:=HL.out.2.cell (i:=k) (by omega);obtain⟨p,cp,hv,hcp⟩:=(HL.out.1.arr k hlt).any;rw[hv] at c0;have h1:=PZ s.arr k hlt;have h2:=N7 s.arr (k+1);have h3:=Ik (s.arr.take k);have HT:=Aa h1;have hb:AL (s.arr.take k)+(s.arr.getD k []).length<=200:=by omega
   clear h1 h2 hv e2;generalize (s.arr.getD k []).length=ln at *;go_wp2;go_round
   case rel=>exact⟨k+1,by omega,by go_num,by rw[HT.out]⟩
   case measure=>simp[intOf];omega
  ·obtain rfl:k=s.arr.length:=by omega
   go_wp2;go_ret;exact⟨rfl,rfl⟩
structure Ad where
 tag:Nat->Nat
 pv:Value
 fv:Value
 av:Value
 ov:Value
 hv:Value
 LV:Nat->Value
 SV:Nat->Value
 AV:Nat->Value
def Al(w:World)(B rb:Nat)(A:Ad)(s:Mc):Prop:=Ag w B rb A.tag A.pv A.fv A.av A.ov A.hv A.LV A.SV A.AV s
section
variable {w:World}{B rb:Nat}{s:Mc}
theorem Ae.below{w':World}{tag:Nat->Nat}{c:Nat}{e:TypeId}{sz:Nat}{v:Value}{n:Nat}{f:Nat->Value}(h:Ae w B tag c e sz v n f)(k:Below w.heap.size w w'):Ae w' B tag c e sz v n f :=
 h.keep (Ch.of_below (p:=fun _=>False) k) (fun h=>h)
theorem Ae.retag{tag tag':Nat->Nat}{c:Nat}{e:TypeId}{sz:Nat}{v:Value}{n:Nat}{f:Nat->Value}(h:Ae w B tag c e sz v n f)(k:∀ b,b<w.heap.size->tag' b=tag b):Ae w B tag' c e sz v n f:=by
 rcases h with h|⟨b,cap,cur,hv,hb,ht,hh,hc⟩
 ·exact Or.inl h
 ·exact Or.inr ⟨b,cap,cur,hv,hb,(k b (Array.getElem?_eq_some_iff.1 hh).1).trans ht,hh,hc⟩
theorem Al.below{w':World}{A:Ad}(h:Al w B rb A s)(k:Below w.heap.size w w'):Al w' B rb A s :=
 ⟨(k.block rb (Ag.lt h)).trans h.run,h.own,h.fr.below k,h.ar.below k,h.out.below k,h.hi.below k,fun i hi=>(h.loc i hi).below k,fun i hi=>(h.stk i hi).below k,fun j hj=>(h.arr j hj).below k⟩
theorem Al.retag{A:Ad}(h:Al w B rb A s){tag':Nat->Nat}(k:∀ b,b<w.heap.size->tag' b=A.tag b):Al w B rb {A with tag:=tag'} s :=
 ⟨h.run,⟨h.own.1,(k rb (Ag.lt h)).trans h.own.2⟩,h.fr.retag k,h.ar.retag k,h.out.retag k,h.hi.retag k,fun i hi=>(h.loc i hi).retag k,fun i hi=>(h.stk i hi).retag k,fun j hj=>(h.arr j hj).retag k⟩
theorem Al.box{A:Ad}(h:Al w B rb A s)(o:Obj):Al (w.alloc o) B rb {A with tag:=Ac A.tag w.heap.size 5} s :=
 (h.retag (tag':=Ac A.tag w.heap.size 5) (fun b hb=>Ao _ _ _ _ (by omega))).below ((Tu _ _).alloc (Te _) o)
def Be:Nat->Prop:=fun c=>c≠5
theorem Ch.cell{p:Nat->Prop}{t1 t2:Nat->Nat}{u:World}(h:Ch B p t1 t2 u w){a:Addr}(ha:a.block<u.heap.size)(hp:¬p (t1 a.block)):w.cell? a=u.cell? a:=Tw (h.block a.block ha (Or.inr hp))
theorem Ch.of_tags{p:Nat->Prop}{t1 t2:Nat->Nat}{u:World}(h:Below u.heap.size u w)(ht:∀ b,b<u.heap.size->t2 b=t1 b):Ch B p t1 t2 u w :=
 ⟨h.os,h.tape,h.output,h.size,fun b hb _=>h.block b hb,ht⟩
theorem Ea(w:World)(B rb:Nat)(A:Ad)(s:Mc)(f:Fr)(rest:List Fr)(v:V)(hL:Al w B rb A s)(hs:s.fr=f::rest)(hB:B<=w.heap.size)(hn:f.stk.length<=64)(hr:rest.length<=64) :
  Calls prog 111 #[.pointer (some ⟨rb,0,none⟩),.agg #[.int .i64 v.k,.int .i64 v.n]] w fun e w'=>e=.returned (.tuple #[]) /\
   ∃ A',Al w' B rb A' {s with fr:={f with stk:=v::f.stk}::rest}/\A'.pv=A.pv/\A'.fv=A.fv/\A'.av=A.av/\A'.AV=A.AV/\A'.LV=A.LV/\Ch B (fun c=>c=1\/c=11+3 * rest.length) A.tag A'.tag w w':=by
 refine(Nz w B rb A.tag A.pv A.fv A.av A.ov A.hv A.LV A.SV A.AV s f rest v hL hs hB hn hr).mono ?_;rintro e w' ⟨rfl,tag',sv,h1,h2⟩;exact⟨rfl,{A with tag:=tag',SV:=Ac A.SV rest.length sv},h1,rfl,rfl,rfl,rfl,rfl,h2⟩
theorem C4(w:World)(B rb:Nat)(A:Ad)(s:Mc)(f:Fr)(rest:List Fr)(v:V)(st:List V)(hL:Al w B rb A s)(hs:s.fr=f::rest)(hst:f.stk=v::st)(hB:B<=w.heap.size)(hn:st.length<=64)(hr:rest.length<=64) :
  Calls prog 98 #[.pointer (some ⟨rb,0,none⟩)] w fun e w'=>e=.returned (.agg #[.int .i64 v.k,.int .i64 v.n]) /\
   ∃ A',Al w' B rb A' {s with fr:={f with stk:=st}::rest}/\A'.pv=A.pv/\A'.fv=A.fv/\A'.av=A.av/\A'.AV=A.AV/\A'.LV=A.LV/\Ch B (fun c=>c=1\/c=11+3 * rest.length) A.tag A'.tag w w':=by
 refine(O5 w B rb A.tag A.pv A.fv A.av A.ov A.hv A.LV A.SV A.AV s f rest v st hL hs hst hB hn hr).mono ?_;rintro e w' ⟨rfl,tag',sv,h1,h2⟩;exact⟨rfl,{A with tag:=tag',SV:=Ac A.SV rest.length sv},h1,rfl,rfl,rfl,rfl,rfl,h2⟩
theorem BY{k:Nat}:∀ c,(c=1\/c=11+3 * k)->Be c:=by
 intro c h e;omega
def Br(w w':World)(B rb:Nat)(A:Ad)(s':Mc):Prop:=∃ A',Al w' B rb A' s'/\A'.pv=A.pv/\A'.fv=A.fv/\Ch B Be A.tag A'.tag w w'
theorem Ps(w:World)(B rb:Nat)(A:Ad)(s:Mc)(f:Fr)(rest:List Fr)(x:V)(st:List V)(hL:Al w B rb A s)(hs:s.fr=f::rest)(hst:f.stk=x::st)(hx:x.k=2->0<=x.n/\x.n<s.arr.length)(hB:B<=w.heap.size)(hn:st.length<=60)(hr:rest.length<=60)(hm:s.arr.length<=200000) :
  Calls prog 113 #[.pointer (some ⟨rb,0,none⟩),.int .i64 18] w fun e w' =>
   (x.k≠2->e=.returned (.int .i64 3)/\Br w w' B rb A {s with fr:={f with stk:=st}::rest}) /\
   (x.k=2->e=.returned (.int .i64 0)/\Br w w' B rb A {s with fr:={f with stk:=Bn ((s.arr.getD x.n.toNat []).length:Int)::st}::rest}):=by
 have hcon:=C4 w B rb A s f rest x st hL hs hst hB (by omega) (by omega);have HC:=Aa hcon;clear hcon;go_enter func113,ntmps113
 go_wp2_with fail
 refine HC.out.mono ?_;rintro e w1 ⟨rfl,A1,h1,p1,f1,a1,v1,l1,ch1⟩;have hB1:B<=w1.heap.size:=by have:=ch1.size;omega
 by_cases hk:x.k=2
 ·have e1:(x.k != 2)=false:=by simpa using hk
  have HK:=Aa hk;obtain⟨x0,x1⟩:=hx hk;have hjl:x.n.toNat<s.arr.length:=by omega
  have h2:=Al.box h1 (.cells #[.int .i64 x.k,.int .i64 x.n] 43);have har:=h1.ar;obtain⟨ab,acap,hav,hab,habz,hatag,hac⟩:=har.form (by show 1<=s.arr.length;omega);rw[hav] at har;have c0:=har.cell (i:=x.n.toNat) (by show x.n.toNat<s.arr.length * 1;omega);obtain⟨p,cp,hvv,hcp⟩:=(h1.arr x.n.toNat hjl).any;rw[hvv] at c0;have r2:w1.cell? ⟨rb,2,none⟩=some (.slice (some ⟨ab,0,none⟩) s.arr.length acap):=by rw[Ag.cell h1 2];show some A1.av=_;rw[hav]
  have hrb:=Ag.lt h1;have hown:=h1.own.2;have hbb:Below w1.heap.size w1 (w1.alloc (.cells #[.int .i64 x.k,.int .i64 x.n] 43)):=(Tu _ _).alloc (Te _) _;have d0:=(hbb.cell (p:=⟨ab,x.n.toNat,none⟩) habz).trans c0;have d2:=(hbb.cell (p:=⟨rb,2,none⟩) hrb).trans r2;have b0:(w1.alloc (.cells #[.int .i64 x.k,.int .i64 x.n] 43)).cell? ⟨w1.heap.size,0,none⟩=some (.int .i64 x.k):=BP w1 _ _ _ _ rfl;have b1:(w1.alloc (.cells #[.int .i64 x.k,.int .i64 x.n] 43)).cell? ⟨w1.heap.size,1,none⟩=some (.int .i64 x.n):=BP w1 _ _ _ _ rfl;have hsz2:(w1.alloc (.cells #[.int .i64 x.k,.int .i64 x.n] 43)).heap.size=w1.heap.size+1:=by simp
  have hpush:∀ X,Below (w1.alloc (.cells #[.int .i64 x.k,.int .i64 x.n] 43)).heap.size (w1.alloc (.cells #[.int .i64 x.k,.int .i64 x.n] 43)) X ->
    Calls prog 111 #[.pointer (some ⟨rb,0,none⟩),.agg #[.int .i64 1,.int .i64 ((s.arr.getD x.n.toNat []).length:Int)]] X fun e w'=>e=.returned (.tuple #[]) /\
     ∃ A',Al w' B rb A' {s with fr:={f with stk:=Bn ((s.arr.getD x.n.toNat []).length:Int)::st}::rest}/\A'.pv=A1.pv/\A'.fv=A1.fv/\A'.av=A1.av/\A'.AV=A1.AV/\A'.LV=A1.LV/\Ch B (fun c=>c=1\/c=11+3 * rest.length) (Ac A1.tag w1.heap.size 5) A'.tag (w1.alloc (.cells #[.int .i64 x.k,.int .i64 x.n] 43)) w' :=
   fun X hX=>by
    refine(Ea X B rb {A1 with tag:=Ac A1.tag w1.heap.size 5} {s with fr:={f with stk:=st}::rest} {f with stk:=st} rest (Bn ((s.arr.getD x.n.toNat []).length:Int)) (Al.below h2 hX) rfl (by have:=hX.size;omega) (by show st.length<=64;omega) (by omega)).mono ?_;rintro e w' ⟨rfl,A',g1,g2,g3,g4,g5,g6,g7⟩;exact⟨rfl,A',g1,g2,g3,g4,g5,g6,(Ch.of_below hX).trans g7⟩
  have HP:=Aa hpush;have HS:=Aa hsz2;have hchA:Ch B Be A.tag (Ac A1.tag w1.heap.size 5) w (w1.alloc (.cells #[.int .i64 x.k,.int .i64 x.n] 43)) :=
   (ch1.mono BY).trans (Ch.of_tags hbb (fun b hb=>Ao _ _ _ _ (by omega)))
  have HA:=Aa (Tc hchA (Tc p1 f1));have t1:Ac A1.tag w1.heap.size 5 ab=2:=by rw[Ao _ _ _ _ (by omega)];exact hatag
  have t2:Ac A1.tag w1.heap.size 5 rb=0:=by rw[Ao _ _ _ _ (by omega)];exact hown
  have t3:Ac A1.tag w1.heap.size 5 w1.heap.size=5:=Au _ _ _;have HT:=Aa (Tc t1 (Tc t2 t3));have hj1:x.n<(s.arr.length:Int):=by omega
  clear h1 h2 har hpush hsz2 hchA hav hvv c0 r2 ch1 HC hL hst hs hx hbb x1 hk t1 t2 t3 hown hatag;have hab2:ab<(w1.alloc (.cells #[.int .i64 x.k,.int .i64 x.n] 43)).heap.size:=by rw[HS.out];omega
  have hrb2:rb<(w1.alloc (.cells #[.int .i64 x.k,.int .i64 x.n] 43)).heap.size:=by rw[HS.out];omega
  have hbx2:w1.heap.size<(w1.alloc (.cells #[.int .i64 x.k,.int .i64 x.n] 43)).heap.size:=by rw[HS.out];omega
  generalize hln:(s.arr.getD x.n.toNat []).length=ln at *;have Hln:=Aa hln;clear hln;generalize s.arr.length=na at *;go_wp2;generalize w1.alloc (.cells #[.int .i64 x.k,.int .i64 x.n] 43)=W at *;generalize hbx:w1.heap.size=bx at *;clear hbx;go_region_held3 (fun w'=>w'.cell? ⟨rb,2,none⟩=some (.slice (some ⟨ab,0,none⟩) na acap)/\w'.cell? ⟨ab,x.n.toNat,none⟩=some (.slice p ln cp)/\w'.cell? ⟨bx,0,none⟩=some (.int .i64 x.k)/\w'.cell? ⟨bx,1,none⟩=some (.int .i64 x.n)) (go_keep)
   (first|(go_at_call 112;refine(Do _ _).mono ?_;rintro e w' ⟨rfl,rfl⟩)|(go_at_call 111;refine(HP.out _ ?_).mono ?_;exact(by repeat (first|exact Tu _ _|refine Below.drew ?_|refine Below.alloc ?_ (by first|omega|(simp;done)|(simp;omega)) _));rintro e w5 ⟨rfl,A5,h5,p5,f5,a5,v5,l5,ch5⟩;have q0:=(ch5.cell (a:=⟨rb,2,none⟩) hrb2 (by show ¬(_\/_);rw[HT.out.2.1];omega)).trans d2;have q1:=(ch5.cell (a:=⟨ab,x.n.toNat,none⟩) hab2 (by show ¬(_\/_);rw[HT.out.1];omega)).trans d0;have q2:=(ch5.cell (a:=⟨bx,0,none⟩) hbx2 (by show ¬(_\/_);rw[HT.out.2.2];omega)).trans b0;have q3:=(ch5.cell (a:=⟨bx,1,none⟩) hbx2 (by show ¬(_\/_);rw[HT.out.2.2];omega)).trans b1))
  rename_i hheld;have hfin:Br w w5 B rb A {s with fr:={f with stk:=Bn (ln:Int)::st}::rest} :=
   ⟨A5,h5,p5.trans HA.out.2.1,f5.trans HA.out.2.2,HA.out.1.trans (ch5.mono BY)⟩
  have HQ:=Aa hfin;clear hheld hfin q0 q1 q2 q3 ch5 h5;go_wp2;go_ret;refine⟨fun h=>absurd HK.out h,fun _=>⟨rfl,?_⟩⟩;rw[Hln.out];exact HQ.out
 ·have e1:(x.k != 2)=true:=by simpa using hk
  have HQ:Hid (Br w (w1.alloc (.cells #[.int .i64 x.k,.int .i64 x.n] 43)) B rb A {s with fr:={f with stk:=st}::rest}) :=
   ⟨A1,Al.below h1 ((Tu _ _).alloc (Te _) _),p1,f1,(ch1.mono BY).alloc _⟩
  have HK:=Aa hk;clear hk h1 ch1 HC hL hst hs hx;go_wp2;go_ret;exact⟨fun _=>⟨rfl,HQ.out⟩,fun h=>absurd h HK.out⟩
end
structure Nb (w W:World) (B rb bx:Nat) (A A':Ad) (s:Mc) (x:V):Prop where
 lay:Al W B rb A' s
 pv:A'.pv=A.pv
 fv:A'.fv=A.fv
 ch:Ch B Be A.tag A'.tag w W
 box0:W.cell? ⟨bx,0,none⟩=some (.int .i64 x.k)
 box1:W.cell? ⟨bx,1,none⟩=some (.int .i64 x.n)
 tag:A'.tag bx=5
 lt:bx<W.heap.size
 old:w.heap.size<=bx
theorem boxed{w w1:World}{B rb:Nat}{A A1:Ad}{s:Mc}(x:V)(h:Al w1 B rb A1 s)(hp:A1.pv=A.pv)(hf:A1.fv=A.fv)(hc:Ch B Be A.tag A1.tag w w1) :
  Nb w (w1.alloc (.cells #[.int .i64 x.k,.int .i64 x.n] 43)) B rb w1.heap.size A {A1 with tag:=Ac A1.tag w1.heap.size 5} s x :=
 ⟨Al.box h _,hp,hf,hc.trans (Ch.of_tags ((Tu _ _).alloc (Te _) _) (fun b hb=>Ao _ _ _ _ (by omega))),BP w1 _ _ _ _ rfl,BP w1 _ _ _ _ rfl,Au _ _ _,by simp,hc.size⟩
theorem Ch.box{B:Nat}{p:Nat->Prop}{t1 t2:Nat->Nat}{u w:World}(h:Ch B p t1 t2 u w)(hp:¬p 5){bx:Nat}(hb:bx<u.heap.size)(ht:t1 bx=5)(i:Nat):w.cell? ⟨bx,i,none⟩=u.cell? ⟨bx,i,none⟩ :=
 h.cell (a:=⟨bx,i,none⟩) hb (by show ¬p (t1 bx);rw[ht];exact hp)
theorem CU{k:Nat}:¬(fun c:Nat=>c=1\/c=11+3 * k) 5:=by intro h;rcases h with h|h<;>omega
theorem Mn{w:World}{B rb:Nat}{A:Ad}{s:Mc}(h:Al w B rb A s){j:Nat}(hj:j<s.arr.length) :
  ∃ ab acap p cp,w.cell? ⟨rb,2,none⟩=some (.slice (some ⟨ab,0,none⟩) s.arr.length acap)/\w.cell? ⟨ab,j,none⟩=some (.slice p (s.arr.getD j []).length cp)/\A.AV j=.slice p (s.arr.getD j []).length cp/\ab<w.heap.size/\A.tag ab=2/\B<=ab:=by
 have har:=h.ar;obtain⟨ab,acap,hav,hab,habz,hatag,hac⟩:=har.form (by omega);rw[hav] at har;have c0:=har.cell (i:=j) (by omega);obtain⟨p,cp,hvv,hcp⟩:=(h.arr j hj).any;rw[hvv] at c0;have r2:w.cell? ⟨rb,2,none⟩=some (.slice (some ⟨ab,0,none⟩) s.arr.length acap):=by rw[Ag.cell h 2];show some A.av=_;rw[hav]
 exact⟨ab,acap,p,cp,r2,c0,hvv,habz,hatag,hab⟩
theorem RR(w:World)(B rb:Nat)(A:Ad)(s:Mc)(f:Fr)(rest:List Fr)(i a:V)(st:List V)(hL:Al w B rb A s)(hs:s.fr=f::rest)(hst:f.stk=i::a::st)(ha:a.k=2->0<=a.n/\a.n<s.arr.length)(hB:B<=w.heap.size)(hn:st.length<=60)(hr:rest.length<=60)(hm:s.arr.length<=200000)(_hl:∀ j,(s.arr.getD j []).length<=200) :
  Calls prog 113 #[.pointer (some ⟨rb,0,none⟩),.int .i64 16] w fun e w' =>
   (AS s.arr a i≠0->e=.returned (.int .i64 (AS s.arr a i))/\Br w w' B rb A {s with fr:={f with stk:=st}::rest}) /\
   (AS s.arr a i=0->e=.returned (.int .i64 0)/\Br w w' B rb A {s with fr:={f with stk:=(s.arr.getD a.n.toNat []).getD i.n.toNat As::st}::rest}):=by
 have hcon:=C4 w B rb A s f rest i (a::st) hL hs hst hB (by simp;omega) (by omega);have HC:=Aa hcon;clear hcon;go_enter func113,ntmps113
 go_wp2_with fail
 refine HC.out.mono ?_;rintro e w1 ⟨rfl,A1,h1,p1,f1,_,_,_,ch1⟩;have hb1:=boxed i h1 p1 f1 (ch1.mono BY);have HB1:=Aa hb1;have hsz1:(w1.alloc (.cells #[.int .i64 i.k,.int .i64 i.n] 43)).heap.size=w1.heap.size+1:=by simp
 have HS1:=Aa hsz1;clear h1 p1 f1 ch1 hb1 hsz1 HC;go_wp2_with fail
 generalize w1.alloc (.cells #[.int .i64 i.k,.int .i64 i.n] 43)=W1 at *;generalize {A1 with tag:=Ac A1.tag w1.heap.size 5}=A1' at *;generalize w1.heap.size=bx1 at *;have hB1:B<=W1.heap.size:=by have:=HB1.out.ch.size;omega
 refine(C4 W1 B rb A1' {s with fr:={f with stk:=a::st}::rest} {f with stk:=a::st} rest a st HB1.out.lay rfl rfl hB1 (by omega) (by omega)).mono ?_;rintro e w2 ⟨rfl,A2,h2,p2,f2,_,_,_,ch2⟩;have hb2:=boxed a h2 (p2.trans HB1.out.pv) (f2.trans HB1.out.fv) (HB1.out.ch.trans (ch2.mono BY));have k0:=(ch2.box CU HB1.out.lt HB1.out.tag 0).trans HB1.out.box0;have k1:=(ch2.box CU HB1.out.lt HB1.out.tag 1).trans HB1.out.box1;have hbx1:bx1<w2.heap.size:=by have:=ch2.size;have:=HB1.out.lt;omega
 have hbb:Below w2.heap.size w2 (w2.alloc (.cells #[.int .i64 a.k,.int .i64 a.n] 43)):=(Tu _ _).alloc (Te _) _;have m0:=(hbb.cell (p:=⟨bx1,0,none⟩) hbx1).trans k0;have m1:=(hbb.cell (p:=⟨bx1,1,none⟩) hbx1).trans k1;have t1:Ac A2.tag w2.heap.size 5 bx1=5:=by rw[Ao _ _ _ _ (by omega)];exact(ch2.tags bx1 HB1.out.lt).trans HB1.out.tag
 have HB2:=Aa hb2;have HM:=Aa (Tc m0 (Tc m1 t1));have hsz2:(w2.alloc (.cells #[.int .i64 a.k,.int .i64 a.n] 43)).heap.size=w2.heap.size+1:=by simp
 have HS2:=Aa hsz2;have hB2:B<=w2.heap.size:=by have:=ch2.size;omega
 clear h2 p2 f2 ch2 hb2 hbb m0 m1 t1 HB1 HS1 hsz2;go_wp2_with fail
 generalize w2.alloc (.cells #[.int .i64 a.k,.int .i64 a.n] 43)=W at *;generalize hA2:({A2 with tag:=Ac A2.tag w2.heap.size 5}:Ad)=A2' at HB2;have HA2:Hid (Ac A2.tag w2.heap.size 5=A2'.tag):=by unfold Hid;rw[<-hA2]
 clear hA2;generalize hbx:w2.heap.size=bx2 at *;clear hbx;refine(J6 W B rb A2'.tag A2'.pv A2'.fv A2'.av A2'.ov A2'.hv A2'.LV A2'.SV A2'.AV {s with fr:={f with stk:=st}::rest} a i HB2.out.lay ha hm).mono ?_;rintro e w3 ⟨rfl,hB3⟩;have HL3:=Aa (Al.below HB2.out.lay hB3);have hch3:Ch B Be A.tag A2'.tag w w3:=HB2.out.ch.trans' hB3;have HC3:=Aa hch3;by_cases hw:AS s.arr a i=0
 ·rw[hw];obtain⟨wk,wi,i0,i1⟩:=GS hw;obtain⟨a0,a1⟩:=ha wk;obtain⟨ab,acap,p,cp,r2,c0,hAV,habz,habt,hab⟩:=Mn HL3.out (j:=a.n.toNat) (by show a.n.toNat<s.arr.length;omega);have hrow:=Ag.arr HL3.out a.n.toNat (by show a.n.toNat<s.arr.length;omega);rw[hAV] at hrow;obtain⟨xb,xcap,hxv,hxB,hxz,hxt,hxc⟩:=hrow.form (by show 1<=(s.arr.getD a.n.toNat []).length;omega);injection hxv with hx1 hx2 hx3;subst hx1;subst hx3;have y0:=hrow.cell (i:=i.n.toNat * 2) (by show i.n.toNat * 2<(s.arr.getD a.n.toNat []).length * 2;omega);have y1:=hrow.cell (i:=i.n.toNat * 2+1) (by show i.n.toNat * 2+1<(s.arr.getD a.n.toNat []).length * 2;omega);have g0:Ar (s.arr.getD a.n.toNat []) (i.n.toNat * 2)=.int .i64 ((s.arr.getD a.n.toNat []).getD i.n.toNat As).k:=by
   unfold Ar;rw[if_pos (by omega),show i.n.toNat * 2 / 2=i.n.toNat by omega]
  have g1:Ar (s.arr.getD a.n.toNat []) (i.n.toNat * 2+1)=.int .i64 ((s.arr.getD a.n.toNat []).getD i.n.toNat As).n:=by
   unfold Ar;rw[if_neg (by omega),show (i.n.toNat * 2+1) / 2=i.n.toNat by omega]
  have y0':w3.cell? ⟨xb,i.n.toNat * 2,none⟩=some (.int .i64 ((s.arr.getD a.n.toNat []).getD i.n.toNat As).k):=y0.trans (congrArg some g0);have y1':w3.cell? ⟨xb,i.n.toNat * 2+1,none⟩=some (.int .i64 ((s.arr.getD a.n.toNat []).getD i.n.toNat As).n):=y1.trans (congrArg some g1);have hbW:bx1<W.heap.size:=by rw[HS2.out];omega
  have n0:=(hB3.cell (p:=⟨bx1,0,none⟩) hbW).trans HM.out.1;have n1:=(hB3.cell (p:=⟨bx1,1,none⟩) hbW).trans HM.out.2.1;have n2:=(hB3.cell (p:=⟨bx2,0,none⟩) HB2.out.lt).trans HB2.out.box0;have n3:=(hB3.cell (p:=⟨bx2,1,none⟩) HB2.out.lt).trans HB2.out.box1;have hs3:=hB3.size;have hz1:bx1<w3.heap.size:=by omega
  have hz2:bx2<w3.heap.size:=by have:=HB2.out.lt;omega
  have hrbz:rb<w3.heap.size:=Ag.lt HL3.out;have hB3':B<=w3.heap.size:=by have:=hch3.size;omega
  have hpush:∀ X,Below w3.heap.size w3 X ->
    Calls prog 111 #[.pointer (some ⟨rb,0,none⟩),.agg #[.int .i64 ((s.arr.getD a.n.toNat []).getD i.n.toNat As).k,.int .i64 ((s.arr.getD a.n.toNat []).getD i.n.toNat As).n]] X fun e w'=>e=.returned (.tuple #[]) /\
     Br w w' B rb A {s with fr:={f with stk:=(s.arr.getD a.n.toNat []).getD i.n.toNat As::st}::rest}/\∃ t',Ch B (fun c=>c=1\/c=11+3 * rest.length) A2'.tag t' w3 w' :=
   fun X hX=>by
    refine(Ea X B rb A2' {s with fr:={f with stk:=st}::rest} {f with stk:=st} rest ((s.arr.getD a.n.toNat []).getD i.n.toNat As) (Al.below HL3.out hX) rfl (by have:=hX.size;omega) (by show st.length<=64;omega) (by omega)).mono ?_;rintro e w' ⟨rfl,A',q1,q2,q3,_,_,_,q7⟩;have q8:=(Ch.of_below (B:=B) (p:=fun c=>c=1\/c=11+3 * rest.length) (tag:=A2'.tag) hX).trans q7;exact⟨rfl,⟨A',q1,q2.trans HB2.out.pv,q3.trans HB2.out.fv,HC3.out.trans (q8.mono BY)⟩,A'.tag,q8⟩
  have HP:=Aa hpush;have HT:Hid (A2'.tag ab=2/\A2'.tag rb=0/\A2'.tag bx1=5/\A2'.tag bx2=5/\A2'.tag xb=12+3 * a.n.toNat):=⟨habt,(Ag.own HL3.out).2,HA2.out ▸ HM.out.2.2,HB2.out.tag,hxt⟩
  have HW:=Aa hw;have u0:a.n<(s.arr.length:Int):=a1;clear hpush hrow y0 y1 g0 g1 hw HL3 HC3 hch3 hB3 hAV hL hst hs ha HM HB2 HS2 wk wi habt hxt;have hll:i.n<((s.arr.getD a.n.toNat []).length:Int):=i1;generalize hvv:(s.arr.getD a.n.toNat []).getD i.n.toNat As=vv at *;have Hvv:=Aa hvv;clear hvv;generalize (s.arr.getD a.n.toNat []).length=ln at *;generalize s.arr.length=na at *;go_wp2;go_region_held3 (fun w'=>w'.cell? ⟨rb,2,none⟩=some (.slice (some ⟨ab,0,none⟩) na acap)/\w'.cell? ⟨ab,a.n.toNat,none⟩=some (.slice (some ⟨xb,0,none⟩) ln cp)/\w'.cell? ⟨bx2,1,none⟩=some (.int .i64 a.n)/\w'.cell? ⟨bx1,1,none⟩=some (.int .i64 i.n)/\w'.cell? ⟨xb,i.n.toNat * 2,none⟩=some (.int .i64 vv.k)/\w'.cell? ⟨xb,i.n.toNat * 2+1,none⟩=some (.int .i64 vv.n)) (go_keep)
   (first|(go_at_call 111;refine(HP.out _ ?_).mono ?_;exact(by repeat (first|exact Tu _ _|refine Below.drew ?_|refine Below.alloc ?_ (by first|omega|(simp;done)|(simp;omega)) _));rintro e w5 ⟨rfl,hA5,t5,ch5⟩;have q0:=(ch5.cell (a:=⟨rb,2,none⟩) hrbz (by show ¬(_\/_);rw[HT.out.2.1];omega)).trans r2;have q1:=(ch5.cell (a:=⟨ab,a.n.toNat,none⟩) habz (by show ¬(_\/_);rw[HT.out.1];omega)).trans c0;have q2:=(ch5.cell (a:=⟨bx2,1,none⟩) hz2 (by show ¬(_\/_);rw[HT.out.2.2.2.1];omega)).trans n3;have q3:=(ch5.cell (a:=⟨bx1,1,none⟩) hz1 (by show ¬(_\/_);rw[HT.out.2.2.1];omega)).trans n1;have q4:=(ch5.cell (a:=⟨xb,i.n.toNat * 2,none⟩) hxz (by show ¬(_\/_);rw[HT.out.2.2.2.2];omega)).trans y0';have q5:=(ch5.cell (a:=⟨xb,i.n.toNat * 2+1,none⟩) hxz (by show ¬(_\/_);rw[HT.out.2.2.2.2];omega)).trans y1'))
  rename_i hheld;have HQ:=Aa hA5;clear hheld hA5 q0 q1 q2 q3 q4 q5 ch5;go_wp2;go_ret;exact⟨fun h=>absurd HW.out h,fun _=>⟨rfl,by rw[Hvv.out];exact HQ.out⟩⟩
 ·have hne:(AS s.arr a i != 0)=true:=by simpa using hw
  have HW:=Aa hw;have HQ:Hid (Br w w3 B rb A {s with fr:={f with stk:=st}::rest}):=⟨A2',HL3.out,HB2.out.pv,HB2.out.fv,HC3.out⟩
  clear hw hch3 hB3;go_wp2;go_ret;exact⟨fun _=>⟨rfl,HQ.out⟩,fun h=>absurd h HW.out⟩
end Go.Proofs.YtkafkipjedpohaaGreatDoor

/- Part of the proof. -/
import Derived.Test.YtgdpbnfgcabneaaGreatDoorQSPlain2
import Derived.Test.YtgdpbnfgcabneaaGreatDoorQSNew
set_option maxRecDepth 100000
set_option maxHeartbeats 40000000
namespace Go.Proofs.YtgdpbnfgcabneaaGreatDoor
namespace Sw
open Go.RowKit
def rUp:Nat→List F→List UInt8→Option (List F)
 | 0,L,_=>some L
 | n+1,L,d=>if d=[46] then some L else match Sp.get L d with
  | some g=>if g.d=false then none else rUp n L (dirL d)
  | none=>rUp n (Sp.ins L (dirF d)) (dirL d)
def zej:List F→List F→Option (List F)
 | L,[]=>some L
 | L,f :: r=>match rUp (f.p.length+1) L (dirL f.p) with
  | none=>none
  | some M=>zej M r
def rNew (l:List F):St×Int :=
 if (zbd ⟨[],0⟩ l).2≠0 then (⟨[],0⟩,(zbd ⟨[],0⟩ l).2) else match zej (zbd ⟨[],0⟩ l).1.L l with
  | none=>(⟨[],0⟩,4)
  | some M=>if 4096<M.length then (⟨[],0⟩,12) else (⟨M,(zbd ⟨[],0⟩ l).1.c⟩,0)
theorem zhp:∀ (l:List F) (s:St),Sp.Sorted s.L→(zbd s l).2=0→Sp.Sorted (zbd s l).1.L∧(∀ g,g∈(zbd s l).1.L↔g∈s.L∨g∈l)∧∀ f∈l,badA f=0
 | [],s,hs,_=>⟨hs,fun g=>by simp[zbd],fun _ h=>(List.not_mem_nil h).elim⟩
 | f :: r,s,hs,h=>by
  rw[zdb] at h ⊢
  by_cases h1:(addA s f).2≠0
  ·rw[if_pos h1] at h;exact absurd h h1
  ·rw[if_neg h1] at h ⊢
   have h1:(addA s f).2=0:=by simpa using h1
   have hb:badA f=0∧Sp.get s.L f.p=none∧(addA s f).1.L=Sp.ins s.L f:=by
    unfold addA at h1 ⊢
    by_cases b:badA f≠0
    ·rw[if_pos b] at h1;exact absurd h1 b
    ·rw[if_neg b] at h1 ⊢
     by_cases b2:(Sp.get s.L f.p).isSome=true
     ·rw[if_pos b2] at h1;cases h1
     ·rw[if_neg b2]
      refine⟨by simpa using b,?_,rfl⟩
      cases e:Sp.get s.L f.p with
      | none=>rfl
      | some _=>rw[e] at b2;exact absurd rfl b2
   obtain⟨b1,b2,b3⟩:=hb
   obtain⟨i1,i2,i3⟩:=zhp r (addA s f).1 (by rw[b3];exact Sp.zby hs) h
   refine⟨i1,fun g=>?_,fun k hk=>?_⟩
   ·rw[i2,b3,Sp.zcn hs,List.mem_cons]
    have hn:=Sp.zgg.1 b2
    constructor
    ·rintro ((rfl | ⟨h,_⟩) | h)
     ·exact .inr (.inl rfl)
     ·exact .inl h
     ·exact .inr (.inr h)
    ·rintro (h | rfl | h)
     ·exact .inl (.inr ⟨h,hn g h⟩)
     ·exact .inl (.inl rfl)
     ·exact .inr h
   ·rcases List.mem_cons.1 hk with rfl | hk
    ·exact b1
    ·exact i3 k hk
def Anc (l:List F) (d:List UInt8):Prop:=∃ f∈l,∃ P Q,AllGood (P++Q)∧P≠[]∧Q≠[]∧f.p=Pt.text (P++Q)∧d=Pt.text P
structure Inv (l L0 L:List F):Prop where
 sorted:Sp.Sorted L
 sub:∀ g∈L0,g∈L
 new_:∀ g∈L,g∈L0∨(g=dirF g.p∧Anc l g.p)
theorem Inv.ins {l L0 L:List F} (h:Inv l L0 L) {d:List UInt8} (hn:Sp.get L d=none) (ha:Anc l d):Inv l L0 (Sp.ins L (dirF d)):=by
 have hk:=Sp.zgg.1 hn
 refine⟨Sp.zby h.sorted,fun g hg=>(Sp.zcn h.sorted g).2 (.inr ⟨h.sub g hg,hk g (h.sub g hg)⟩),fun g hg=>?_⟩
 rcases (Sp.zcn h.sorted g).1 hg with rfl | ⟨hg,_⟩
 ·exact .inr ⟨rfl,ha⟩
 ·exact h.new_ g hg
theorem zpy {L:List F} (hs:Sp.Sorted L) {d:List UInt8} (hn:Sp.get L d=none) {g:F} (hg:g∈L):g∈Sp.ins L (dirF d) :=
 (Sp.zcn hs g).2 (.inr ⟨hg,Sp.zgg.1 hn g hg⟩)
theorem znf {L:List F} (hs:Sp.Sorted L) (d:List UInt8):dirF d∈Sp.ins L (dirF d):=(Sp.zcn hs _).2 (.inl rfl)
def Bar (L0:List F) (P:List (List UInt8)):Prop:=∃ R,R <+: P∧R≠[]∧∃ g∈L0,g.p=Pt.text R∧g.d=false
theorem zgq {α:Type} {R Q:List α} {x:α} (h:R <+: Q++[x]):R <+: Q∨R=Q++[x]:=by
 obtain⟨t,ht⟩:=h
 rcases List.eq_nil_or_concat t with rfl | ⟨t',y,rfl⟩
 ·right;simpa using ht
 ·left
  rw[List.concat_eq_append,←List.append_assoc] at ht
  obtain⟨e1,_⟩:=List.append_inj' ht rfl
  exact⟨t',e1⟩
theorem zrw {l L0:List F} (h0:Sp.Sorted L0):∀ (n:Nat) {L:List F} {P:List (List UInt8)},P.length<n→AllGood P→Inv l L0 L→(∀ R,R <+: P→R≠[]→Anc l (Pt.text R)) →
  (Bar L0 P→rUp n L (Pt.text P)=none)∧(rUp n L (Pt.text P)=none→Bar L0 P)∧∀ M,rUp n L (Pt.text P)=some M→Inv l L0 M∧(∀ g∈L,g∈M)∧∀ R,R <+: P→R≠[]→∃ g∈M,g.p=Pt.text R
 | 0,_,_,h,_,_,_=>absurd h (Nat.not_lt_zero _)
 | n+1,L,P,hn,hg,hi,ha=>by
  rw[rUp]
  rcases Classical.em (P=[]) with rfl | hne
  ·rw[if_pos zmg]
   refine⟨?_,(fun h=>by cases h),fun M h=>?_⟩
   ·rintro ⟨R,h1,h2,_⟩
    exact absurd (List.prefix_nil.1 h1) h2
   ·obtain rfl:=Option.some.inj h
    exact⟨hi,fun g hg=>hg,fun R h1 h2=>absurd (List.prefix_nil.1 h1) h2⟩
  ·obtain⟨Q,x,rfl⟩:=zgp hne
   have hne2:Pt.text (Q++[x])≠[46]:=fun e=>hne ((zhf hg).1 e)
   have haQ:∀ R,R <+: Q→R≠[]→Anc l (Pt.text R):=fun R h1 h2=>ha R (h1.trans (List.prefix_append _ _)) h2
   have hnQ:Q.length<n:=by simp at hn;omega
   rw[if_neg hne2,zeu hg]
   cases hget:Sp.get L (Pt.text (Q++[x])) with
   | some g =>
    obtain⟨g1,g2⟩:=(Sp.zgm hi.sorted).1 hget
    dsimp only
    by_cases hd:g.d=false
    ·rw[if_pos hd]
     refine⟨fun _=>rfl,fun _=>?_,(fun M h=>by cases h)⟩
     rcases hi.new_ g g1 with h | ⟨h,_⟩
     ·exact⟨_,List.prefix_refl _,hne,g,h,g2,hd⟩
     ·rw[h] at hd;cases hd
    ·rw[if_neg hd]
     obtain⟨i1,i2,i3⟩:=zrw h0 n hnQ hg.cut hi haQ
     refine⟨?_,?_,?_⟩
     ·rintro ⟨R,h1,h2,k,k1,k2,k3⟩
      rcases zgq h1 with h | rfl
      ·exact i1 ⟨R,h,h2,k,k1,k2,k3⟩
      ·have:k=g:=Sp.zep hi.sorted (hi.sub k k1) g1 (by rw[k2,g2])
       rw[this] at k3;exact absurd k3 hd
     ·intro h
      obtain⟨R,h1,h2,k⟩:=i2 h
      exact⟨R,h1.trans (List.prefix_append _ _),h2,k⟩
     ·intro M hM
      obtain⟨j1,j2,j3⟩:=i3 M hM
      refine⟨j1,j2,fun R h1 h2=>?_⟩
      rcases zgq h1 with h | rfl
      ·exact j3 R h h2
      ·exact⟨g,j2 g g1,g2⟩
   | none =>
    dsimp only
    have hi2:=hi.ins hget (ha _ (List.prefix_refl _) hne)
    obtain⟨i1,i2,i3⟩:=zrw h0 n hnQ hg.cut hi2 haQ
    refine⟨?_,?_,?_⟩
    ·rintro ⟨R,h1,h2,k,k1,k2,k3⟩
     rcases zgq h1 with h | rfl
     ·exact i1 ⟨R,h,h2,k,k1,k2,k3⟩
     ·exact absurd k2 (Sp.zgg.1 hget k (hi.sub k k1))
    ·intro h
     obtain⟨R,h1,h2,k⟩:=i2 h
     exact⟨R,h1.trans (List.prefix_append _ _),h2,k⟩
    ·intro M hM
     obtain⟨j1,j2,j3⟩:=i3 M hM
     refine⟨j1,fun g hg=>j2 g (zpy hi.sorted hget hg),fun R h1 h2=>?_⟩
     rcases zgq h1 with h | rfl
     ·exact j3 R h h2
     ·exact⟨_,j2 _ (znf hi.sorted _),rfl⟩
def BarAll (L0 r:List F):Prop:=∃ f∈r,∃ P Q,AllGood (P++Q)∧P≠[]∧Q≠[]∧f.p=Pt.text (P++Q)∧∃ g∈L0,g.p=Pt.text P∧g.d=false
theorem pre_ne {P R:List (List UInt8)} {x:List UInt8} (h:R <+: P):∃ Q,Q≠[]∧P++[x]=R++Q:=by
 obtain⟨t,rfl⟩:=h
 exact⟨t++[x],by simp,by simp⟩
theorem zmu {l L0:List F} (h0:Sp.Sorted L0):∀ (r:List F) {L:List F},(∀ f∈r,f∈l)→(∀ f∈r,badA f=0)→Inv l L0 L →
  (BarAll L0 r→zej L r=none)∧(zej L r=none→BarAll L0 r)∧∀ M,zej L r=some M→Inv l L0 M∧(∀ g∈L,g∈M)∧∀ d,Anc r d→∃ g∈M,g.p=d
 | [],L,_,_,hi=>by
  refine⟨?_,(fun h=>by cases h),fun M h=>?_⟩
  ·rintro ⟨f,h,_⟩;cases h
  ·obtain rfl:=Option.some.inj h
   exact⟨hi,fun g hg=>hg,(fun d ⟨f,h,_⟩=>by cases h)⟩
 | f :: r,L,hl,hb,hi=>by
  obtain⟨c1,c2,_⟩:=zfn (hb f (by simp))
  obtain⟨P',hg,hp⟩:=zce.1 c1
  obtain⟨P,x,rfl⟩:=zgp (P:=P') (by rintro rfl;exact c2 hp)
  have hfl:=hl f (by simp)
  have hancP:∀ R,R <+: P→R≠[]→Anc l (Pt.text R):=fun R h1 h2=>by
   obtain⟨Q,q1,q2⟩:=pre_ne (x:=x) h1
   exact⟨f,hfl,R,Q,by rw[←q2];exact hg,h2,q1,by rw[←q2];exact hp,rfl⟩
  have hPn:P.length<f.p.length+1:=by have:=zsh hg;rw[←hp] at this;simp at this;omega
  rw[zej,hp,zeu hg,←hp]
  obtain⟨i1,i2,i3⟩:=zrw h0 (f.p.length+1) hPn hg.cut hi hancP
  have split:∀ {R Q:List (List UInt8)},AllGood (R++Q)→Q≠[]→f.p=Pt.text (R++Q)→R <+: P:=fun hRQ hQ he=>by
   have e:=zqq hg hRQ (hp.symm.trans he)
   obtain⟨Q',y,rfl⟩:=zgp hQ
   rw[←List.append_assoc] at e
   obtain⟨e1,_⟩:=List.append_inj' e rfl
   exact⟨Q',e1.symm⟩
  cases hr:rUp (f.p.length+1) L (Pt.text P) with
  | none =>
   dsimp only
   refine⟨fun _=>rfl,fun _=>?_,(fun M h=>by cases h)⟩
   obtain⟨R,h1,h2,k⟩:=i2 hr
   obtain⟨Q,q1,q2⟩:=pre_ne (x:=x) h1
   exact⟨f,by simp,R,Q,by rw[←q2];exact hg,h2,q1,by rw[←q2];exact hp,k⟩
  | some M1 =>
   dsimp only
   obtain⟨j1,j2,j3⟩:=i3 M1 hr
   obtain⟨k1,k2,k3⟩:=zmu h0 r (fun g hg=>hl g (by simp[hg])) (fun g hg=>hb g (by simp[hg])) j1
   refine⟨?_,?_,?_⟩
   ·rintro ⟨g,hgr,R,Q,h1,h2,h3,h4,h5⟩
    rcases List.mem_cons.1 hgr with rfl | hgr
    ·have:=i1 ⟨R,split h1 h3 h4,h2,h5⟩
     rw[this] at hr;cases hr
    ·exact k1 ⟨g,hgr,R,Q,h1,h2,h3,h4,h5⟩
   ·intro h
    obtain⟨g,hgr,rest⟩:=k2 h
    exact⟨g,by simp[hgr],rest⟩
   ·intro M hM
    obtain⟨m1,m2,m3⟩:=k3 M hM
    refine⟨m1,fun g hg=>m2 g (j2 g hg),?_⟩
    rintro d ⟨g,hgr,R,Q,h1,h2,h3,h4,h5⟩
    rcases List.mem_cons.1 hgr with rfl | hgr
    ·obtain⟨q,q1,q2⟩:=j3 R (split h1 h3 h4) h2
     exact⟨q,m2 q q1,by rw[q2,h5]⟩
    ·exact m3 d ⟨g,hgr,R,Q,h1,h2,h3,h4,h5⟩
def HasDir (N:List F) (p:List UInt8):Prop:=∃ Q x,AllGood (Q++[x])∧p=Pt.text (Q++[x])∧(Q=[]∨∃ k∈N,k.p=Pt.text Q)
theorem HasDir.mono {N M:List F} {p:List UInt8} (h:HasDir N p) (hs:∀ g∈N,g∈M):HasDir M p:=by
 obtain⟨Q,x,h1,h2,h3⟩:=h
 refine⟨Q,x,h1,h2,?_⟩
 rcases h3 with h3 | ⟨k,k1,k2⟩
 ·exact .inl h3
 ·exact .inr ⟨k,hs k k1,k2⟩
theorem zqc {l L0:List F}:∀ (n:Nat) {L:List F} {P:List (List UInt8)},P.length<n→AllGood P→Inv l L0 L→(∀ R,R <+: P→R≠[]→Anc l (Pt.text R)) →
  Inv l L0 (zfk n L (Pt.text P))∧(∀ g∈L,g∈zfk n L (Pt.text P))∧L.length≤(zfk n L (Pt.text P)).length ∧
  ((zfk n L (Pt.text P)).length≤4096→(P=[]∨∃ g∈zfk n L (Pt.text P),g.p=Pt.text P)∧∀ g∈zfk n L (Pt.text P),g∉L→HasDir (zfk n L (Pt.text P)) g.p)
 | 0,_,_,h,_,_,_=>absurd h (Nat.not_lt_zero _)
 | n+1,L,P,hn,hg,hi,ha=>by
  rw[zfk]
  by_cases hlim:4096<L.length
  ·rw[if_pos hlim]
   exact⟨hi,fun g hg=>hg,Nat.le_refl _,fun h=>by omega⟩
  ·rw[if_neg hlim]
   cases hget:getR L (Pt.text P) with
   | some g =>
    dsimp only
    refine⟨hi,fun g hg=>hg,Nat.le_refl _,fun _=>⟨?_,fun k h1 h2=>absurd h1 h2⟩⟩
    rcases Classical.em (P=[]) with e | e
    ·exact .inl e
    ·rw[zix (fun h=>e ((zhf hg).1 h))] at hget
     obtain⟨g1,g2⟩:=(Sp.zgm hi.sorted).1 hget
     exact .inr ⟨g,g1,g2⟩
   | none =>
    dsimp only
    obtain⟨Q,x,rfl⟩:=zgp (P:=P) (by rintro rfl;cases hget)
    have hne2:Pt.text (Q++[x])≠[46]:=fun e=>by have:=(zhf hg).1 e;simp at this
    rw[zix hne2] at hget
    rw[zeu hg]
    have hi2:=hi.ins hget (ha _ (List.prefix_refl _) (by simp))
    obtain⟨i1,i2,i3,i4⟩:=zqc n (by simp at hn;omega) hg.cut hi2 (fun R h1 h2=>ha R (h1.trans (List.prefix_append _ _)) h2)
    have hlen:=Sp.zia (f:=dirF (Pt.text (Q++[x]))) hi.sorted hget
    have hmem:=i2 _ (znf hi.sorted (Pt.text (Q++[x])))
    refine⟨i1,fun g hg=>i2 g (zpy hi.sorted hget hg),by omega,fun hN=>?_⟩
    obtain⟨q1,q2⟩:=i4 hN
    refine⟨.inr ⟨_,hmem,rfl⟩,fun k h1 h2=>?_⟩
    by_cases e:k∈Sp.ins L (dirF (Pt.text (Q++[x])))
    ·rcases (Sp.zcn hi.sorted k).1 e with rfl | ⟨h,_⟩
     ·exact⟨Q,x,hg,rfl,q1⟩
     ·exact absurd h h2
    ·exact q2 k h1 e
theorem mu_gt {P:List (List UInt8)} (hg:AllGood P):P.length<mu (Pt.text P)+1:=by
 unfold mu
 have:=zsh hg
 split
 ·rename_i e
  rw[(zhf hg).1 e];simp
 ·omega
theorem zfg {l L0:List F}:∀ (r:List F) {L:List F},(∀ f∈r,f∈l)→(∀ f∈r,badA f=0)→Inv l L0 L →
  Inv l L0 (zbr L r)∧(∀ g∈L,g∈zbr L r)∧L.length≤(zbr L r).length ∧
  ((zbr L r).length≤4096→(∀ f∈r,HasDir (zbr L r) f.p)∧∀ g∈zbr L r,g∉L→HasDir (zbr L r) g.p)
 | [],L,_,_,hi=>⟨hi,fun g hg=>hg,Nat.le_refl _,fun _=>⟨fun _ h=>(List.not_mem_nil h).elim,fun g h1 h2=>absurd h1 h2⟩⟩
 | f :: r,L,hl,hb,hi=>by
  obtain⟨c1,c2,_⟩:=zfn (hb f (by simp))
  obtain⟨P',hg,hp⟩:=zce.1 c1
  obtain⟨P,x,rfl⟩:=zgp (P:=P') (by rintro rfl;exact c2 hp)
  have hfl:=hl f (by simp)
  have hancP:∀ R,R <+: P→R≠[]→Anc l (Pt.text R):=fun R h1 h2=>by
   obtain⟨Q,q1,q2⟩:=pre_ne (x:=x) h1
   exact⟨f,hfl,R,Q,by rw[←q2];exact hg,h2,q1,by rw[←q2];exact hp,rfl⟩
  rw[zli]
  have hd:dirL f.p=Pt.text P:=by rw[hp,zeu hg]
  obtain⟨i1,i2,i3,i4⟩:=zqc (mu (Pt.text P)+1) (mu_gt hg.cut) hg.cut hi hancP
  have hS:zgl L (dirL f.p)=zfk (mu (Pt.text P)+1) L (Pt.text P):=by rw[hd];rfl
  rw[←hS] at i1 i2 i3 i4
  obtain⟨k1,k2,k3,k4⟩:=zfg r (fun g hg=>hl g (by simp[hg])) (fun g hg=>hb g (by simp[hg])) i1
  refine⟨k1,fun g hg=>k2 g (i2 g hg),by omega,fun hN=>?_⟩
  obtain⟨q1,q2⟩:=i4 (by omega)
  obtain⟨m1,m2⟩:=k4 hN
  refine⟨fun g hgr=>?_,fun g h1 h2=>?_⟩
  ·rcases List.mem_cons.1 hgr with rfl | hgr
   ·refine⟨P,x,hg,hp,?_⟩
    rcases q1 with e | ⟨k,e1,e2⟩
    ·exact .inl e
    ·exact .inr ⟨k,k2 k e1,e2⟩
   ·exact m1 g hgr
  ·by_cases e:g∈zgl L (dirL f.p)
   ·exact(q2 g e h2).mono k2
   ·exact m2 g h1 e
theorem all_up {N:List F} (h:∀ g∈N,HasDir N g.p):∀ (n:Nat) {P Q:List (List UInt8)},Q.length=n→AllGood (P++Q)→P≠[]→(∃ g∈N,g.p=Pt.text (P++Q))→∃ g∈N,g.p=Pt.text P
 | 0,P,Q,hn,_,_,hx=>by
  obtain rfl:=List.length_eq_zero_iff.1 hn
  simpa using hx
 | n+1,P,Q,hn,hg,hP,⟨g,g1,g2⟩=>by
  obtain⟨Q',x,rfl⟩:=zgp (P:=Q) (by rintro rfl;cases hn)
  rw[←List.append_assoc] at hg g2
  obtain⟨R,y,h1,h2,h3⟩:=h g g1
  obtain⟨e,_⟩:=List.append_inj' (zqq hg h1 (g2.symm.trans h2)) rfl
  rw[←e] at h3
  rcases h3 with h3 | h3
  ·exact absurd (List.append_eq_nil_iff.1 h3).1 hP
  ·exact all_up h n (by simp at hn;omega) hg.cut hP h3
theorem inv_sub {l L0 N M:List F} (hN:Inv l L0 N) (hM:Inv l L0 M) (hup:∀ d,Anc l d→∃ g∈M,g.p=d):∀ g∈N,g∈M:=fun g hg=>by
 rcases hN.new_ g hg with h | ⟨h,ha⟩
 ·exact hM.sub g h
 ·obtain⟨k,k1,k2⟩:=hup _ ha
  rcases hM.new_ k k1 with h2 | ⟨h2,_⟩
  ·have:k=g:=Sp.zep hN.sorted (hN.sub k h2) hg k2
   rw[←this];exact k1
  ·rw[h,←k2,←h2];exact k1
theorem zsn {P R:List (List UInt8)} (hP:AllGood P) (hPn:P≠[]) (hR:AllGood R):(Pt.text P++[47]).isPrefixOf (Pt.text R)=true↔∃ Q,Q≠[]∧R=P++Q:=by
 rw[List.isPrefixOf_iff_prefix]
 constructor
 ·rintro ⟨t,ht⟩
  have hin:inL (Pt.text R) (Pt.text P)=true:=by
   unfold inL
   rw[←ht]
   have e1:(Pt.text P).isPrefixOf (Pt.text P++[47]++t)=true:=by rw[List.isPrefixOf_iff_prefix,List.append_assoc];exact List.prefix_append _ _
   rw[e1]
   simp
  obtain⟨Q,hQ⟩:=(inL_iff hR hP).1 hin
  refine⟨Q,?_,hQ.symm⟩
  rintro rfl
  rw[List.append_nil] at hQ
  subst hQ
  have:=congrArg List.length ht
  simp at this
 ·rintro ⟨Q,hQ,rfl⟩
  rw[zlg hP hPn,zlg hR (by simp[hPn]),zeb P Q hPn hQ]
  exact⟨Pt.inter Q,by simp⟩
theorem zmz {l L0:List F} (hm:∀ g,g∈L0↔g∈l) (hb:∀ f∈l,badA f=0):zcw L0=true↔BarAll L0 l:=by
 have cl:∀ f∈L0,∃ P,AllGood P∧P≠[]∧f.p=Pt.text P:=fun f hf=>by
  obtain⟨c1,c2,_⟩:=zfn (hb f ((hm f).1 hf))
  obtain⟨P,hg,hp⟩:=zce.1 c1
  exact⟨P,hg,by rintro rfl;exact c2 hp,hp⟩
 unfold zcw child
 rw[List.any_eq_true]
 constructor
 ·rintro ⟨g,g1,g2⟩
  rw[Bool.and_eq_true,List.any_eq_true] at g2
  obtain⟨g2,h,h1,h2⟩:=g2
  obtain⟨P,p1,p2,p3⟩:=cl g g1
  obtain⟨R,r1,r2,r3⟩:=cl h h1
  rw[p3,r3] at h2
  obtain⟨Q,q1,rfl⟩:=(zsn p1 p2 r1).1 h2
  exact⟨h,(hm h).1 h1,P,Q,r1,p2,q1,r3,g,g1,p3,by simpa using g2⟩
 ·rintro ⟨h,h1,P,Q,hg,hP,hQ,hp,g,g1,g2,g3⟩
  refine⟨g,g1,?_⟩
  rw[Bool.and_eq_true,List.any_eq_true]
  refine⟨by rw[g3];rfl,h,(hm h).2 h1,?_⟩
  rw[g2,hp]
  exact(zsn hg.cut hP hg).2 ⟨Q,hQ,rfl⟩
theorem new_eq (l:List F):rNew l=newA l:=by
 unfold rNew newA
 by_cases h:(zbd ⟨[],0⟩ l).2≠0
 ·rw[if_pos h,if_pos h]
 ·rw[if_neg h,if_neg h]
  obtain⟨s1,s2,s3⟩:=zhp l ⟨[],0⟩ List.Pairwise.nil (by simpa using h)
  obtain⟨L0,hL0⟩:∃ L0,(zbd ⟨[],0⟩ l).1.L=L0:=⟨_,rfl⟩
  rw[hL0] at s1 s2 ⊢
  have hm:∀ g,g∈L0↔g∈l:=fun g=>by rw[s2];simp
  have hi:Inv l L0 L0:=⟨s1,fun g hg=>hg,fun g hg=>.inl hg⟩
  obtain⟨u1,u2,u3⟩:=zmu s1 l (fun f hf=>hf) s3 hi
  by_cases hbl:zcw L0=true
  ·rw[if_pos hbl,u1 ((zmz hm s3).1 hbl)]
  ·rw[if_neg hbl]
   cases hM:zej L0 l with
   | none=>exact absurd ((zmz hm s3).2 (u2 hM)) hbl
   | some M =>
    dsimp only
    obtain⟨m1,_,m3⟩:=u3 M hM
    obtain⟨n1,n2,_,n4⟩:=zfg l (fun f hf=>hf) s3 hi
    have sub:=inv_sub n1 m1 m3
    have hle:(zbr L0 l).length≤M.length:=by
     have pn:∀ {K:List F},Sp.Sorted K→(K.map (·.p)).Nodup:=fun h=>by
      unfold List.Nodup
      rw[List.pairwise_map]
      exact h.imp fun h=>Sp.zjs h
     have:=zty ((zbr L0 l).map (·.p)) (M.map (·.p)) (pn n1.sorted) fun x hx=>by
      obtain⟨g,hg,rfl⟩:=List.mem_map.1 hx
      exact List.mem_map.2 ⟨g,sub g hg,rfl⟩
     simpa using this
    by_cases hlim:4096<(zbr L0 l).length
    ·rw[if_pos hlim,if_pos (by omega)]
    ·rw[if_neg hlim]
     obtain⟨q1,q2⟩:=n4 (by omega)
     have hall:∀ g∈zbr L0 l,HasDir (zbr L0 l) g.p:=fun g hg=>by
      by_cases e:g∈L0
      ·exact q1 g ((hm g).1 e)
      ·exact q2 g hg e
     have e:M=zbr L0 l:=Sp.zeo m1.sorted n1.sorted fun g=>⟨fun hg=>inv_sub m1 n1 (fun d hd=>by
      obtain⟨f,f1,P,Q,f2,f3,f4,f5,rfl⟩:=hd
      exact all_up hall Q.length rfl f2 f3 ⟨f,n2 f ((hm f).2 f1),f5⟩) g hg,fun hg=>sub g hg⟩
     rw[e,if_neg hlim]
open Go.Maps
theorem text_le2:∀ (n:Nat) {P Q:List (List UInt8)},Q.length=n→AllGood (P++Q)→(Pt.text P).length≤(Pt.text (P++Q)).length
 | 0,P,Q,hn,_=>by
  obtain rfl:=List.length_eq_zero_iff.1 hn
  rw[List.append_nil];exact Nat.le_refl _
 | n+1,P,Q,hn,hg=>by
  obtain⟨R,x,rfl⟩:=zgp (P:=Q) (by rintro rfl;simp at hn)
  rw[←List.append_assoc] at hg ⊢
  have h1:=text_le2 n (P:=P) (Q:=R) (by simpa using hn) hg.cut
  have hp:zaq (Pt.text (P++R++[x]))=true:=zce.2 ⟨_,hg,rfl⟩
  have h2:=zqr (Pt.text (P++R++[x])) (List.length_pos_iff.2 (znk hp))
  rw[zeu hg] at h2
  omega
theorem addAll_c:∀ (l:List F) (s:St),0≤s.c→s.c<4611686018427387904→(zbd s l).2=0→0≤(zbd s l).1.c∧(zbd s l).1.c<4611686018427387904
 | [],s,h0,h1,_=>⟨h0,h1⟩
 | f :: r,s,h0,h1,h=>by
  rw[zdb] at h ⊢
  by_cases h2:(addA s f).2≠0
  ·rw[if_pos h2] at h;exact absurd h h2
  ·rw[if_neg h2] at h ⊢
   have h2:(addA s f).2=0:=by simpa using h2
   have hc:0≤(addA s f).1.c∧(addA s f).1.c<4611686018427387904:=by
    unfold addA at h2 ⊢
    by_cases b:badA f≠0
    ·rw[if_pos b] at h2;exact absurd h2 b
    ·rw[if_neg b] at h2 ⊢
     obtain⟨_,_,_,c0,c1,_⟩:=zfn (f:=f) (by simpa using b)
     by_cases b2:(Sp.get s.L f.p).isSome=true
     ·rw[if_pos b2] at h2;cases h2
     ·rw[if_neg b2]
      show 0≤max s.c f.c∧max s.c f.c<_
      omega
   exact addAll_c r _ hc.1 hc.2 h
theorem new_fine (l:List F) (hs:∀ f∈l,f.p.length≤50000∧f.t.length≤50000) (h:(newA l).2=0):Fine (newA l).1:=by
 unfold newA at h ⊢
 by_cases h1:(zbd ⟨[],0⟩ l).2≠0
 ·rw[if_pos h1] at h;exact absurd h h1
 ·rw[if_neg h1] at h ⊢
  have h1:(zbd ⟨[],0⟩ l).2=0:=by simpa using h1
  by_cases hb:zcw (zbd ⟨[],0⟩ l).1.L=true
  ·rw[if_pos hb] at h;cases h
  ·rw[if_neg hb] at h ⊢
   by_cases hlim:4096<(zbr (zbd ⟨[],0⟩ l).1.L l).length
   ·rw[if_pos hlim] at h;cases h
   ·rw[if_neg hlim]
    obtain⟨s1,s2,s3⟩:=zhp l ⟨[],0⟩ List.Pairwise.nil h1
    obtain⟨c0,c1⟩:=addAll_c l ⟨[],0⟩ (by decide) (by decide) h1
    obtain⟨L0,hL0⟩:∃ L0,(zbd ⟨[],0⟩ l).1.L=L0:=⟨_,rfl⟩
    rw[hL0] at s1 s2 hlim ⊢
    have hm:∀ g,g∈L0↔g∈l:=fun g=>by rw[s2];simp
    have hi:Inv l L0 L0:=⟨s1,fun g hg=>hg,fun g hg=>.inl hg⟩
    obtain⟨n1,_,_,_⟩:=zfg l (fun f hf=>hf) s3 hi
    have hall:∀ g∈zbr L0 l,g.t.length≤1048576∧g.p.length≤100000:=fun g hg=>by
     rcases n1.new_ g hg with h | ⟨h,f,f1,P,Q,f2,f3,f4,f5,f6⟩
     ·have:=hs g ((hm g).1 h);omega
     ·have h7:=text_le2 Q.length rfl f2
      have h8:=(hs f f1).1
      rw[f5] at h8
      refine⟨by rw[h];show ([]:List UInt8).length≤_;simp,?_⟩
      rw[f6];omega
    exact⟨n1.sorted,c0,c1,by show (zbr L0 l).length≤4096;omega,fun g hg=>(hall g hg).1,fun g hg=>(hall g hg).2⟩
end Sw
namespace Dq
open Go.RowKit Go.Maps Sw
theorem zbq {w w':World} {v:Value} {l:List F} (h:Files w v l) (hB:Below w.heap.size w w'):Files w' v l:=by
 rcases h with h | ⟨b,o,c,rfl,hb,hc⟩
 ·exact .inl h
 ·refine .inr ⟨b,o,c,rfl,Nat.lt_of_lt_of_le hb hB.size,fun j hj=>?_⟩
  have e:=fun i=>hB.cell (p:=⟨b,i,none⟩) hb
  obtain⟨a0,a1,a2,a3⟩:=hc j hj
  exact⟨(e _).trans a0,(e _).trans a1,(e _).trans a2,(e _).trans a3⟩
theorem zqg {w:World} {a:Option Addr} {n c:Nat} {l:List F} (h:Files w (.slice a n c) l) {j:Nat} (hj:j<l.length):∃ b o,a=some ⟨b,o,none⟩∧b<w.heap.size∧w.cell? ⟨b,o+j * 4,none⟩=some (.string (str l[j].p))∧w.cell? ⟨b,o+j * 4+1,none⟩=some (.string (str l[j].t))∧w.cell? ⟨b,o+j * 4+2,none⟩=some (.int .i64 l[j].c)∧w.cell? ⟨b,o+j * 4+3,none⟩=some (.bool l[j].d):=by
 rcases h with ⟨rfl,_⟩ | ⟨b,o,c,hv,hb,hc⟩
 ·cases hj
 ·cases hv
  exact⟨b,o,rfl,hb,hc j hj⟩
def sumS (l:List F):Nat:=(l.map fun f=>10+f.p.length+f.t.length).sum
theorem sumS_take {l:List F} {k:Nat} (h:k<l.length):sumS (l.take (k+1))=sumS (l.take k)+(10+l[k].p.length+l[k].t.length):=by
 unfold sumS
 rw[List.take_succ_eq_append_getElem h,List.map_append,List.sum_append];rfl
theorem sumS_mem {l:List F}:∀ {f:F},f∈l→10+f.p.length+f.t.length≤sumS l:=by
 induction l with
 | nil=>intro f h;cases h
 | cons g r ih =>
  intro f h
  show _≤(10+g.p.length+g.t.length)+sumS r
  rcases List.mem_cons.1 h with rfl | h
  ·omega
  ·have:=ih h;omega
theorem sumS_len (l:List F):10 * l.length≤sumS l:=by
 induction l with
 | nil=>exact Nat.zero_le _
 | cons g r ih=>show 10 * (r.length+1)≤(10+g.p.length+g.t.length)+sumS r;omega
theorem sumS_bound (l:List F) (hl:∀ f∈l,f.p.length≤1048576∧f.t.length≤1048576):sumS l≤l.length * 2097162:=by
 induction l with
 | nil=>exact Nat.zero_le _
 | cons g r ih =>
  have h1:=ih fun f hf=>hl f (List.mem_cons_of_mem _ hf)
  have h2:=hl g (by simp)
  show (10+g.p.length+g.t.length)+sumS r≤(r.length+1) * 2097162
  omega
theorem New_of (w:World) (v:Value) (l:List F) (h:Files w v l) (hs:∀ f∈l,f.p.length≤100000∧f.t.length≤1000000000) (hl:l.length≤10000):Calls Tryz.prog 37 #[v] w (ziw w (newA l)):=by
 rcases h with ⟨rfl,a,c,rfl⟩ | ⟨b,o,c,rfl,hb,hc⟩
 ·exact New_none w a c
 ·exact New_some w b o c l ⟨hb,fun j f hf=>by
   obtain⟨hj,rfl⟩:=List.getElem?_eq_some_iff.1 hf
   exact hc j hj,hs,hl⟩
end Dq
end Go.Proofs.YtgdpbnfgcabneaaGreatDoor

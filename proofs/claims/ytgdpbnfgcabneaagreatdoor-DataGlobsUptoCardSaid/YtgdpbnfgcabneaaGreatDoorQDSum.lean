/- Part of the proof. -/
import Derived.Test.YtgdpbnfgcabneaaGreatDoorQDOf
import Derived.Test.YtgdpbnfgcabneaaGreatDoorQDQWildAll
import Derived.Test.YtgdpbnfgcabneaaGreatDoorQDFiles
set_option maxRecDepth 100000
set_option maxHeartbeats 40000000
namespace Go.Proofs.YtgdpbnfgcabneaaGreatDoor
namespace Dq
open Go.RowKit Go.Maps Ww Tw Dz
theorem b8s (l:Bs):by8 (str l)=l:=rfl
theorem jnA_is (l:List ByteArray):str (jnA l)=Ew.zbp l:=zar (by
 rw[b8s]
 show jnA l=Lib.join (l.map (·.data.toList)) [32]
 cases l with
 | nil=>rfl
 | cons x r =>
  rw[List.map_cons,Lib.join_cons]
  show by8 x++r.flatMap (fun y=>32 :: by8 y)=_
  congr 1
  unfold Lib.joinTail
  rw[List.map_map,List.flatMap_def]
  rfl)
theorem valS_is (p:ByteArray):Dw.valS p=str (zdf (by8 p)):=zar (by
 rw[b8s]
 unfold Dw.valS Dw.parS
 rw[zbc,zbc,zbc,Dw.zvp]
 rfl)
theorem lineS_is (p:ByteArray):Dw.zdu (Dw.valS p)=str (Mp.zdy (zdf (by8 p))):=zar (by
 unfold Dw.zdu
 rw[zbc,valS_is,b8s,b8s]
 rfl)
theorem pat_pw {p:ByteArray} (h:Dw.Pat p):∃ x,Pw (by8 p) x:=by
 have hw:=h.words
 unfold Ew.zbg at hw
 obtain⟨x,hx⟩:∃ x,Wp.items (by8 p)=[x]:=by
  have:=congrArg List.length hw
  rw[List.length_map] at this
  exact List.length_eq_one_iff.1 this
 rw[hx] at hw
 have hp:str (by8 p)=p:=zar (b8s _)
 refine⟨x,⟨fun e=>(h.no 36 e).1 rfl,h.word,?_,?_,hx,?_⟩⟩
 ·intro c hc
  unfold zeh at hc
  rcases List.mem_append.1 hc with hc | hc
  ·exact(by decide:∀ c∈Yw.kn 4,c≠40∧c≠123∧([41]:Bs).contains c=false) c hc
  ·rcases List.mem_cons.1 hc with rfl | hc
   ·decide
   ·have:=h.no c hc
    refine⟨this.2.2.1,this.2.2.2.2.1,?_⟩
    simp[this.2.2.2.1]
 ·have:=h.size;rw[zab];omega
 ·rw[hp];exact(List.cons.inj hw).1
theorem pat_vl {p:ByteArray} (h:Dw.Pat p) (h10:(10:UInt8)∉by8 p):Dw.Vl (Dw.valS p):=by
 rw[valS_is]
 refine⟨by rw[b8s];rfl,?_,?_,?_⟩
 ·rw[b8s]
  show ([36,40]++zeh (by8 p)++[41]).getLast?=some 41
  rw[List.getLast?_append];rfl
 ·rw[b8s]
  intro c hc
  simp only [zdf,zeh,Yw.kn,List.mem_cons,List.mem_append,List.not_mem_nil,or_false] at hc
  have hh:c∈by8 p→c≠10∧c≠35:=fun e=>⟨fun e'=>h10 (e'▸e),(h.no c e).2.1⟩
  rcases hc with rfl | rfl | (((rfl | rfl | rfl | rfl | rfl | rfl | rfl | rfl) | rfl | hc) | rfl)
  all_goals first | exact hh hc | decide
 ·have:=h.size
  show (zdf (by8 p)).toArray.size≤_
  rw[List.size_toArray]
  simp[zdf,zeh,Yw.kn,zab];omega
theorem way_is {p q:List UInt8} (hp:zaq p=true) (hq:zaq q=true):way p q=Dw.toA p q:=by
 have hg:∀ {s:List UInt8},zaq s=true→∃ o,(∀ x∈o,Pt.Good x)∧s=Pt.text o:=fun {s} h=>by
  obtain⟨o,_,h1,h2⟩:=Pt.ztv (of_decide_eq_true h)
  exact⟨o,h1,h2⟩
 obtain⟨P,hP,rfl⟩:=hg hp
 obtain⟨Q,hQ,rfl⟩:=hg hq
 unfold Dw.toA
 rw[zqw hP hQ,Pt.zbt hP,Pt.zbt hQ]
theorem glob_is {p:ByteArray} {q:List UInt8} {L:List Sw.F} (hq:zaq q=true) (hL:∀ f∈L,zaq f.p=true):Dg.zbm p q L=Dw.zbw p (Dw.zbh L q):=by
 unfold Dg.zbm Dw.zbw Dw.zbh
 congr 1
 exact List.map_congr_left fun f hf=>by rw[way_is (hL f hf) hq]
end Dq
namespace Dq
open Go.RowKit Go.Maps Sw
open Dz (jnA)
theorem znc {l:List F} (h:(newA l).2=0):(∀ f∈l,f∈(newA l).1.L)∧(∀ g∈(newA l).1.L,g∈l∨Anc l g.p)∧∀ f∈l,badA f=0:=by
 unfold newA at h ⊢
 by_cases h1:(zbd ⟨[],0⟩ l).2≠0
 ·rw[if_pos h1] at h;exact absurd h h1
 ·rw[if_neg h1] at h ⊢
  have h1:(zbd ⟨[],0⟩ l).2=0:=by simpa using h1
  by_cases hb:zcw (zbd ⟨[],0⟩ l).1.L=true
  ·rw[if_pos hb] at h;cases h
  ·rw[if_neg hb] at h ⊢
   by_cases hlim:4096<(zbr (zbd ⟨[],0⟩ l).1.L l).length
   ·rw[if_pos hlim] at h;cases h
   ·rw[if_neg hlim]
    obtain⟨s1,s2,s3⟩:=zhp l ⟨[],0⟩ List.Pairwise.nil h1
    have hm:∀ g,g∈(zbd ⟨[],0⟩ l).1.L↔g∈l:=fun g=>by rw[s2];simp
    have hi:Inv l (zbd ⟨[],0⟩ l).1.L (zbd ⟨[],0⟩ l).1.L:=⟨s1,fun g hg=>hg,fun g hg=>.inl hg⟩
    obtain⟨n1,n2,_,_⟩:=zfg l (fun f hf=>hf) s3 hi
    refine⟨fun f hf=>n2 f ((hm f).2 hf),fun g hg=>?_,s3⟩
    rcases n1.new_ g hg with h | ⟨_,h⟩
    ·exact .inl ((hm g).1 h)
    ·exact .inr h
theorem new_get {l:List F} (h:(newA l).2=0) (hs:Sp.Sorted (newA l).1.L) {f:F} (hf:f∈l):getR (newA l).1.L f.p=some f:=by
 obtain⟨h1,_,h3⟩:=znc h
 obtain⟨_,c2,_⟩:=zfn (h3 f hf)
 rw[zix c2]
 exact(Sp.zgm hs).2 ⟨h1 f hf,rfl⟩
theorem zly {l:List F} (h:(newA l).2=0) {g:F} (hg:g∈(newA l).1.L):∃ f∈l,∃ P Q,AllGood (P++Q)∧f.p=Pt.text (P++Q)∧g.p=Pt.text P:=by
 obtain⟨_,h2,h3⟩:=znc h
 rcases h2 g hg with h | ⟨f,f1,P,Q,f2,_,_,f5,f6⟩
 ·obtain⟨c1,_,_⟩:=zfn (h3 g h)
  obtain⟨P,hP,hp⟩:=zce.1 c1
  exact⟨g,h,P,[],by simpa using hP,by simpa using hp,hp⟩
 ·exact⟨f,f1,P,Q,f2,f5,f6⟩
theorem new_paths {l:List F} (h:(newA l).2=0):∀ g∈(newA l).1.L,zaq g.p=true:=fun g hg=>by
 obtain⟨f,_,P,Q,h1,_,h3⟩:=zly h hg
 exact zce.2 ⟨P,h1.cut,h3⟩
theorem zvf {α:Type} [DecidableEq α] (w:α→Nat) (x:α):∀ C:List α,x∈C→(C.map w).sum=w x+((C.erase x).map w).sum
 | [],h=>by cases h
 | y :: C,h=>by
  by_cases e:y=x
  ·subst e;simp
  ·have hx:x∈C:=by
    rcases List.mem_cons.1 h with h | h
    ·exact absurd h.symm e
    ·exact h
   have ih:=zvf w x C hx
   rw[List.erase_cons_tail (by simpa using e)]
   simp only [List.map_cons,List.sum_cons]
   omega
theorem sub_sum {α:Type} [DecidableEq α] (w:α→Nat):∀ (M C:List α),M.Nodup→(∀ x∈M,x∈C)→(M.map w).sum≤(C.map w).sum
 | [],C,_,_=>by simp
 | x :: M,C,hn,h=>by
  obtain⟨h1,h2⟩:=List.nodup_cons.1 hn
  have ih:=sub_sum w M (C.erase x) h2 fun y hy=>(List.mem_erase_of_ne (fun e=>h1 (by rw[←e];exact hy))).2 (h y (List.mem_cons_of_mem _ hy))
  have:=zvf w x C (h x (List.mem_cons_self ..))
  simp only [List.map_cons,List.sum_cons]
  omega
theorem up_no {n:Nat} {R:List (List UInt8)} (hR:∀ x∈R,47∉x):zaq (Pt.text (List.replicate (n+1) [46,46]++R))=false:=by
 have hno:∀ x∈(([46,46]:List UInt8) :: (List.replicate n [46,46]++R)),47∉x:=fun x hx=>by
  rcases List.mem_cons.1 hx with rfl | hx
  ·decide
  ·rcases List.mem_append.1 hx with hx | hx
   ·rw[(List.mem_replicate.1 hx).2];decide
   ·exact hR x hx
 have e:List.replicate (n+1) ([46,46]:List UInt8)++R=[46,46] :: (List.replicate n [46,46]++R):=rfl
 rw[e]
 have hp:=Pt.zec _ hno (by simp)
 have hne:Pt.inter (([46,46]:List UInt8) :: (List.replicate n [46,46]++R))≠[]:=fun h=>by rw[h] at hp;simp[Pt.pieces] at hp
 have ht:Pt.text (([46,46]:List UInt8) :: (List.replicate n [46,46]++R))=Pt.inter (([46,46]:List UInt8) :: (List.replicate n [46,46]++R)):=if_neg hne
 rw[ht]
 cases hq:zaq (Pt.inter (([46,46]:List UInt8) :: (List.replicate n [46,46]++R))) with
 | false=>rfl
 | true =>
  obtain⟨P,hP,e2⟩:=zce.1 hq
  have hps:Pt.parts (Pt.inter (([46,46]:List UInt8) :: (List.replicate n [46,46]++R)))=P:=by rw[e2];exact Pt.zbt hP
  have hin:([46,46]:List UInt8)∈Pt.parts (Pt.inter (([46,46]:List UInt8) :: (List.replicate n [46,46]++R))):=by
   unfold Pt.parts
   rw[hp]
   exact List.mem_filter.2 ⟨by simp,by decide⟩
  rw[hps] at hin
  exact absurd rfl (hP _ hin).2.2.1
def zwn (n:Nat) (f:F):List UInt8:=Pt.text ((Pt.parts f.p).take n)
theorem zpw {l:List F} {p q:List UInt8} (hq:zaq q=true) {g:F} (hg:∃ f∈l,∃ P Q,AllGood (P++Q)∧f.p=Pt.text (P++Q)∧g.p=Pt.text P) (hm:Gm.zef p (way g.p q)=true) :
  (g.p=q∨∃ f∈l,g.p=zwn ((Pt.parts q).length+(Pt.pieces p).length) f)∧(way g.p q).length≤g.p.length:=by
 obtain⟨D,hD,rfl⟩:=zce.1 hq
 obtain⟨f,hf,P,Q,hPQ,hfp,hgp⟩:=hg
 have hP:=hPQ.cut
 rw[hgp,zqw hP hD] at hm ⊢
 unfold Gm.zef at hm
 rw[Bool.and_eq_true,Bool.and_eq_true,decide_eq_true_eq] at hm
 obtain⟨⟨hi,hl⟩,_⟩:=hm
 have hcl:=zss P D
 have hc:D.length - common P D=0:=by
  cases hn:D.length - common P D with
  | zero=>rfl
  | succ n =>
   have:=up_no (n:=n) (R:=P.drop (common P D)) fun x hx=>(hP x (List.mem_of_mem_drop hx)).2.2.2
   unfold zaz at hi
   rw[hn,this] at hi;cases hi
 have hcd:common P D=D.length:=by omega
 have hD2:P.take D.length=D:=by
  have:=zns P D
  rw[hcd,List.take_length] at this
  exact this
 have hw:zaz P D=P.drop D.length:=by unfold zaz;rw[hcd];simp
 rw[hw] at hl ⊢
 obtain⟨R,hR⟩:∃ R,P.drop D.length=R:=⟨_,rfl⟩
 rw[hR] at hl ⊢
 have hPR:P=D++R:=by rw[←hR];conv=>{ lhs;rw[←List.take_append_drop D.length P] };rw[hD2]
 have hRg:AllGood R:=fun x hx=>hP x (by rw[hPR];exact List.mem_append_right _ hx)
 have hlen:(Pt.text R).length≤(Pt.text P).length:=by
  rcases Classical.em (R=[]) with rfl | hne
  ·rw[List.append_nil] at hPR
   show 1≤_
   have hne:Pt.text P≠[]:=fun e=>by
    have h1:zaq (Pt.text P)=true:=zce.2 ⟨P,hP,rfl⟩
    rw[e] at h1
    exact absurd h1 (by decide)
   exact List.length_pos_iff.2 hne
  ·have tx:∀ {S:List (List UInt8)},AllGood S→S≠[]→Pt.text S=Pt.inter S:=fun hS hn=>by
    unfold Pt.text;rw[if_neg fun e=>hn ((Pt.zcq hS).1 e)]
   rw[tx hRg hne,tx hP (by rw[hPR];simp[hne]),hPR]
   rcases Classical.em (D=[]) with rfl | hdn
   ·exact Nat.le_refl _
   ·rw[zeb D R hdn hne,List.length_append,List.length_cons]
    omega
 refine⟨?_,hlen⟩
 rcases Classical.em (R=[]) with rfl | hne
 ·left;rw[hPR,List.append_nil]
 ·right
  refine⟨f,hf,?_⟩
  have tx:Pt.text R=Pt.inter R:=by unfold Pt.text;rw[if_neg fun e=>hne ((Pt.zcq hRg).1 e)]
  rw[tx,Pt.zec R (fun x hx=>(hRg x hx).2.2.2) hne] at hl
  unfold zwn
  rw[hfp,Pt.zbt hPQ,Pt.zbt hD,hl,List.take_append_of_le_length (by rw[hPR];simp)]
  rw[List.take_of_length_le (by rw[hPR];simp)]
theorem cand_len {n:Nat} {f:F} (h:zaq f.p=true):(zwn n f).length≤f.p.length:=by
 obtain⟨P,hP,e⟩:=zce.1 h
 unfold zwn
 rw[e,Pt.zbt hP]
 rcases Classical.em (P.take n=[]) with h0 | h0
 ·rw[h0]
  show 1≤_
  have hne:Pt.text P≠[]:=fun e2=>by
   rw[e,e2] at h
   exact absurd h (by decide)
  exact List.length_pos_iff.2 hne
 ·have hn:P≠[]:=fun e2=>h0 (by rw[e2];simp)
  have hT:AllGood (P.take n):=hP.take n
  have tx:∀ {S:List (List UInt8)},AllGood S→S≠[]→Pt.text S=Pt.inter S:=fun hS hn=>by
   unfold Pt.text;rw[if_neg fun e=>hn ((Pt.zcq hS).1 e)]
  rw[tx hT h0,tx hP hn]
  rcases Classical.em (P.drop n=[]) with h1 | h1
  ·have:P.take n=P:=by have:=List.take_append_drop n P;rw[h1,List.append_nil] at this;exact this
   rw[this];exact Nat.le_refl _
  ·have:=zeb (P.take n) (P.drop n) h0 h1
   rw[List.take_append_drop] at this
   rw[this,List.length_append];omega
theorem jnA_len (l:List ByteArray):(jnA l).length≤(l.map fun s=>s.size+1).sum:=by
 have h:∀ r:List ByteArray,(r.flatMap fun y=>32 :: Ww.by8 y).length≤(r.map fun s=>s.size+1).sum:=fun r=>by
  induction r with
  | nil=>exact Nat.zero_le _
  | cons y r ih =>
   simp only [List.flatMap_cons,List.length_append,List.length_cons,List.map_cons,List.sum_cons]
   have:(Ww.by8 y).length=y.size:=Ww.zab y
   omega
 cases l with
 | nil=>exact Nat.zero_le _
 | cons x r =>
  show (Ww.by8 x++r.flatMap fun y=>32 :: Ww.by8 y).length≤_
  have h1:=h r
  have h2:(Ww.by8 x).length=x.size:=Ww.zab x
  simp only [List.length_append,List.map_cons,List.sum_cons]
  omega
theorem sum_le {α:Type} (f g:α→Nat):∀ l:List α,(∀ x∈l,f x≤g x)→(l.map f).sum≤(l.map g).sum
 | [],_=>Nat.le_refl _
 | x :: r,h=>by
  have:=sum_le f g r fun y hy=>h y (List.mem_cons_of_mem _ hy)
  have:=h x (List.mem_cons_self ..)
  simp only [List.map_cons,List.sum_cons]
  omega
theorem glob_as {p:ByteArray} {q:List UInt8} (L:List F):Dg.zbm p q L=(L.filter fun f=>Gm.zef (bs p) (way f.p q)).map fun f=>str (way f.p q):=by
 unfold Dg.zbm
 rw[List.filter_map]
 congr 1
theorem found_len {l:List F} (h:(newA l).2=0) (hs:Sp.Sorted (newA l).1.L) (p:ByteArray) {q:List UInt8} (hq:zaq q=true) :
  (jnA (Dg.zbm p q (newA l).1.L)).length≤(l.map fun f=>f.p.length+1).sum+(q.length+1):=by
 refine Nat.le_trans (jnA_len _) ?_
 rw[glob_as,List.map_map]
 have hM:∀ f∈(newA l).1.L.filter fun f=>Gm.zef (bs p) (way f.p q),f∈(newA l).1.L∧Gm.zef (bs p) (way f.p q)=true:=fun f hf=>List.mem_filter.1 hf
 refine Nat.le_trans (sum_le _ (fun f=>f.p.length+1) _ fun f hf=>?_) ?_
 ·obtain⟨h1,h2⟩:=hM f hf
  have:=(zpw hq (zly h h1) h2).2
  show (str (way f.p q)).size+1≤_
  rw[←zax,zas]
  omega
 ·have hnd:(((newA l).1.L.filter fun f=>Gm.zef (bs p) (way f.p q)).map (·.p)).Nodup:=by
   unfold List.Nodup
   rw[List.pairwise_map]
   exact(hs.filter _).imp fun h=>Sp.zjs h
  have:=sub_sum (fun x:List UInt8=>x.length+1) _ (q :: l.map (zwn ((Pt.parts q).length+(Pt.pieces (bs p)).length))) hnd fun x hx=>by
   obtain⟨f,hf,rfl⟩:=List.mem_map.1 hx
   obtain⟨h1,h2⟩:=hM f hf
   rcases (zpw hq (zly h h1) h2).1 with e | ⟨f',hf',e⟩
   ·rw[e];exact List.mem_cons_self ..
   ·rw[e];exact List.mem_cons_of_mem _ (List.mem_map_of_mem hf')
  rw[List.map_map,List.map_cons,List.map_map,List.sum_cons] at this
  have h2:=sum_le ((fun x:List UInt8=>x.length+1) ∘ zwn ((Pt.parts q).length+(Pt.pieces (bs p)).length)) (fun f:F=>f.p.length+1) l fun f hf=>by
   have:=cand_len (n:=(Pt.parts q).length+(Pt.pieces (bs p)).length) (zfn ((znc h).2.2 f hf)).1
   show (zwn _ f).length+1≤_
   omega
  have e:((fun x:List UInt8=>x.length+1) ∘ fun f:F=>f.p)=fun f:F=>f.p.length+1:=rfl
  rw[e] at this
  omega
end Dq
end Go.Proofs.YtgdpbnfgcabneaaGreatDoor

/- Part of the proof. -/
import Derived.Test.YtgdpbnfgcabneaaGreatDoorQSRSet2
import Derived.Deep.RegionHeld3
import Derived.Test.YtgdpbnfgcabneaaGreatDoorQDFiles
set_option maxRecDepth 100000
set_option maxHeartbeats 40000000
namespace Go.Proofs.YtgdpbnfgcabneaaGreatDoor
namespace Sw
open Go.RowKit Go.Maps
theorem RFiles.setCell {w:World} {v:Value} {L:List F} (h:RFiles w v L) (a i:Nat) (u:Value) (hq:∀ b,v.ownBlock=some b→b≠a):RFiles (w.setCell ⟨a,i,none⟩ u) v L:=by
 rcases h with h | ⟨h0,b,cp,rfl,h2,h3,h4⟩
 ·exact .inl h
 ·refine .inr ⟨h0,b,cp,rfl,h2,by simpa[World.setCell] using h3,fun j u' hj=>?_⟩
  rw[World.cell?_setCell_other _ _ _ _ (by intro e;exact hq b rfl (congrArg Addr.block e).symm)]
  exact h4 j u' hj
theorem RFiles.lt {w:World} {v:Value} {L:List F} (h:RFiles w v L):∀ b,v.ownBlock=some b→b<w.heap.size:=by
 intro b hb
 rcases h with ⟨_,rfl⟩ | ⟨_,b',cp,rfl,_,h3,_⟩
 ·cases hb
 ·cases hb;exact h3
theorem RFiles.shape {w:World} {v:Value} {L:List F} (h:RFiles w v L):∃ a n cp,v=.slice a n cp:=by
 rcases h with ⟨_,rfl⟩ | ⟨_,b,cp,rfl,_⟩<;>exact⟨_,_,_,rfl⟩
theorem zcg (w:World) (p:ByteArray) (b:Bool) (hs:p.size≤900000) (h:Hid (zaq (bs p)=b)) :
  Calls Tryz.prog 8 #[.string p] w fun e w'=>e=.returned (.bool b)∧Below w.heap.size w w':=by
 have:=zhv w p hs
 rwa[h.out] at this
theorem rDir_is {p:List UInt8} (h:zaq p=true):Pt.text (Pt.parts p).dropLast=dirL p:=by
 obtain⟨P,hg,rfl⟩:=zce.1 h
 exact rDir_text hg
theorem RDir_is (w:World) (p d:ByteArray) (hs:p.size≤900000) (hc:Hid (zaq (bs p)=true)) (h:Hid (dirL (bs p)=bs d)) :
  Calls Tryz.prog 94 #[.string p] w fun e w'=>e=.returned (.string d)∧Below w.heap.size w w':=by
 have:=RDir_any w p hs
 rwa[rDir_is hc.out,h.out,zfh] at this
theorem later2 {w w1:World} {o1 o2:Obj} (B:Below ((w.alloc o1).alloc o2).heap.size ((w.alloc o1).alloc o2) w1) :
  w1.heap[w.heap.size]?=some o1∧w1.heap[w.heap.size+1]?=some o2:=by
 have hz1:(w.alloc o1).heap.size=w.heap.size+1:=by simp
 exact⟨(B.block w.heap.size (by simp;omega)).trans ((Below.heap_alloc _ _ _ (by simp)).trans (zca _ _ rfl)),(B.block (w.heap.size+1) (by simp)).trans (zca _ _ hz1)⟩
structure Two (W:World) (n:Nat) (v:Value) (c:Int):Prop where
 lt:n+2≤W.heap.size
 H0:W.heap[n]?=some (.cells #[v,.int .i64 c] 32)
 H1:W.heap[n+1]?=some (.cells #[.slice none 0 0,.int .i64 0] 32)
theorem Two.cells {W:World} {n:Nat} {v:Value} {c:Int} (h:Two W n v c) :
  (n<W.heap.size∧n+1<W.heap.size)∧(W.cell? ⟨n,0,none⟩=some v∧W.cell? ⟨n,1,none⟩=some (.int .i64 c)) ∧
  (W.cell? ⟨n+1,0,none⟩=some (.slice none 0 0)∧W.cell? ⟨n+1,1,none⟩=some (.int .i64 0)∧W.frozen? ⟨n+1,0,none⟩=false∧W.frozen? ⟨n+1,1,none⟩=false):=by
 have:=h.lt
 exact⟨⟨by omega,by omega⟩,⟨zaa h.H0 rfl,zaa h.H0 rfl⟩,⟨zaa h.H1 rfl,zaa h.H1 rfl,zad h.H1 0,zad h.H1 1⟩⟩
abbrev TS:TypeId:=32
theorem zai {w:World} {b i:Nat} {cs:Array Value} {T:TypeId} (h:w.heap[b]?=some (.cells cs T (0,0))) (v:Value):(w.setCell ⟨b,i,none⟩ v).heap[b]?=some (.cells (cs.setIfInBounds i v) T (0,0)):=by
 have hb:b<w.heap.size:=(Array.getElem?_eq_some_iff.1 h).1
 have hb':w.heap[b]=.cells cs T (0,0):=by have:=Array.getElem?_eq_getElem hb;rw[h] at this;exact(Option.some.inj this).symm
 simp[World.setCell,Array.getElem?_modify,h]
structure NB (W:World) (n:Nat) (v:Value) (c:Int):Prop where
 lt:n+2≤W.heap.size
 R:W.heap[n]?=some (.cells #[.slice none 0 0,.int .i64 0] TS (0,0))
 S:W.heap[n+1]?=some (.cells #[v,.int .i64 c] TS (0,0))
theorem NB.below {W W':World} {n:Nat} {v:Value} {c:Int} (h:NB W n v c) (hB:Below (n+2) W W'):NB W' n v c :=
 ⟨Nat.le_trans h.lt hB.size,(hB.block n (by omega)).trans h.R,(hB.block (n+1) (by omega)).trans h.S⟩
theorem NB.later {W W':World} {n:Nat} {v:Value} {c:Int} (h:NB W n v c) (hB:Below W.heap.size W W'):NB W' n v c:=h.below (hB.mono h.lt)
theorem NB.cells {W:World} {n:Nat} {v:Value} {c:Int} (h:NB W n v c) :
  (n<W.heap.size∧n+1<W.heap.size)∧(W.cell? ⟨n+1,0,none⟩=some v∧W.cell? ⟨n+1,1,none⟩=some (.int .i64 c)∧W.frozen? ⟨n+1,0,none⟩=false∧W.frozen? ⟨n+1,1,none⟩=false) ∧
  (W.cell? ⟨n,0,none⟩=some (.slice none 0 0)∧W.cell? ⟨n,1,none⟩=some (.int .i64 0)∧W.frozen? ⟨n,0,none⟩=false∧W.frozen? ⟨n,1,none⟩=false):=by
 have:=h.lt
 exact⟨⟨by omega,by omega⟩,⟨zaa h.S rfl,zaa h.S rfl,zad h.S 0,zad h.S 1⟩,⟨zaa h.R rfl,zaa h.R rfl,zad h.R 0,zad h.R 1⟩⟩
theorem NB.set0 {W:World} {n:Nat} {v:Value} {c:Int} (h:NB W n v c) (v':Value):NB (W.setCell ⟨n+1,0,none⟩ v') n v' c :=
 ⟨by simpa[World.setCell] using h.lt,(Below.heap_setCell _ _ _ _ (by simp)).trans h.R,zai h.S v'⟩
theorem NB.set1 {W:World} {n:Nat} {v:Value} {c:Int} (h:NB W n v c) (c':Int):NB (W.setCell ⟨n+1,1,none⟩ (.int .i64 c')) n v c' :=
 ⟨by simpa[World.setCell] using h.lt,(Below.heap_setCell _ _ _ _ (by simp)).trans h.R,zai h.S _⟩
theorem NB.new (w:World):NB ((w.alloc (.cells #[.slice none 0 0,.int .i64 0] TS)).alloc (.cells #[.slice none 0 0,.int .i64 0] TS)) w.heap.size (.slice none 0 0) 0:=by
 obtain⟨a,b⟩:=later2 (Below.refl _ ((w.alloc (.cells #[.slice none 0 0,.int .i64 0] TS)).alloc (.cells #[.slice none 0 0,.int .i64 0] TS)))
 exact⟨by simp,a,b⟩
theorem NB.zero {W:World} {n:Nat} {v:Value} {c:Int} (h:NB W n v c):(W.setCell ⟨n,0,none⟩ (.slice none 0 0)).cell? ⟨n,0,none⟩=some (.slice none 0 0)∧((W.setCell ⟨n,0,none⟩ (.slice none 0 0)).setCell ⟨n,1,none⟩ (.int .i64 0)).cell? ⟨n,1,none⟩=some (.int .i64 0) :=
 ⟨zaa (zai h.R _) rfl,zaa (zai (zai h.R _) _) rfl⟩
theorem NB.fill {W:World} {n:Nat} {v:Value} {c:Int} (h:NB W n v c):(W.setCell ⟨n,0,none⟩ v).cell? ⟨n,0,none⟩=some v∧((W.setCell ⟨n,0,none⟩ v).setCell ⟨n,1,none⟩ (.int .i64 c)).cell? ⟨n,1,none⟩=some (.int .i64 c) :=
 ⟨zaa (zai h.R _) rfl,zaa (zai (zai h.R _) _) rfl⟩
def RNewPost (w:World) (r:St×Int) (e:Ending) (w':World):Prop :=
 ∃ u,e=.returned (.tuple #[.agg #[u,.int .i64 r.1.c],.int .i64 r.2])∧RFiles w' u r.1.L∧(∀ b,u.ownBlock=some b→w.heap.size≤b)∧Below w.heap.size w w'
theorem RNewPost.bad {w w':World} (n:Int) (hB:Below w.heap.size w w'):RNewPost w (⟨[],0⟩,n) (.returned (.tuple #[.agg #[.slice none 0 0,.int .i64 0],.int .i64 n])) w':=⟨_,rfl,.inl ⟨rfl,rfl⟩,(fun b hb=>by cases hb),hB⟩
def sumP (l:List F):Nat:=(l.map fun f=>f.p.length).sum
theorem sumP_app (a b:List F):sumP (a++b)=sumP a+sumP b:=by simp[sumP]
theorem sumP_take {l:List F} {k:Nat} (h:k<l.length):sumP (l.take (k+1))=sumP (l.take k)+l[k].p.length:=by
 rw[List.take_succ_eq_append_getElem h,sumP_app];simp[sumP]
theorem zrh (l:List F) (k:Nat):sumP (l.take k)≤sumP l:=by
 conv=>rhs;rw[←List.take_append_drop k l,sumP_app]
 omega
def N1Rel (w:World) (l:List F) (v5:Value) (wr:World):Prop :=
 ∃ (k:Nat) (st:St) (v:Value),v5=.int .i64 k∧k≤l.length∧zbd ⟨[],0⟩ l=zbd st (l.drop k)∧NB wr w.heap.size v st.c∧RFiles wr v st.L∧(∀ b,v.ownBlock=some b→w.heap.size+2≤b)∧Sp.Sorted st.L∧st.L.length≤k∧Below w.heap.size w wr
def N2Rel (w:World) (l L:List F) (c:Int) (v10:Value) (wr:World):Prop :=
 ∃ (k:Nat) (M:List F) (v:Value),v10=.int .i64 k∧k≤l.length∧zej L l=zej M (l.drop k)∧NB wr w.heap.size v c∧RFiles wr v M∧(∀ b,v.ownBlock=some b→w.heap.size+2≤b)∧Sp.Sorted M∧M.length≤l.length+sumP (l.take k)+k∧Below w.heap.size w wr
def N3Rel (w:World) (N T:Nat) (M0:List F) (d0:List UInt8) (c:Int) (v11:Value) (wr:World):Prop :=
 ∃ (n:Nat) (M:List F) (P:List (List UInt8)) (v:Value),v11=.string (str (Pt.text P))∧AllGood P∧P.length<n∧rUp N M0 d0=rUp n M (Pt.text P)∧NB wr w.heap.size v c∧RFiles wr v M∧(∀ b,v.ownBlock=some b→w.heap.size+2≤b)∧Sp.Sorted M∧M.length+P.length≤T∧(Pt.text P).length≤100000∧Below w.heap.size w wr
def muW:Value→Nat
 | .string s=>mu (bs s)
 | _=>0
theorem zgy {st:St} {f:F} {n:Int} (h:badA f=n) (h0:n≠0):(addA st f).2=n:=by unfold addA;rw[if_pos (by rw[h];exact h0)];exact h
theorem zpf {st:St} {f g:F} (h:badA f=0) (hg:Sp.get st.L f.p=some g):(addA st f).2=1:=by unfold addA;rw[if_neg (by rw[h];simp),if_pos (by rw[hg];rfl)]
theorem addA_new {st:St} {f:F} (h:badA f=0) (hg:Sp.get st.L f.p=none):addA st f=(⟨Sp.ins st.L f,max st.c f.c⟩,0):=by unfold addA;rw[if_neg (by rw[h];simp),if_neg (by rw[hg];simp)]
theorem zek {l r:List F} {st:St} {f:F} {n:Int} (hrun:zbd ⟨[],0⟩ l=zbd st (f :: r)) (hn:(addA st f).2=n) (h0:n≠0):rNew l=(⟨[],0⟩,n):=by
 have e:(zbd ⟨[],0⟩ l).2=n:=by rw[hrun,zdb,if_pos (by rw[hn];exact h0)];exact hn
 unfold rNew
 rw[if_pos (by rw[e];exact h0),e]
theorem ztl {f:F} (h1:zaq f.p=true) (h2:f.p≠[46]) (h3:¬ (f.d=true∧f.t≠[])) (h4:¬ f.c<0) (h5:¬ 4611686018427387904≤f.c) (h6:f.t.length≤100000):badA f=0:=by
 unfold badA
 rw[if_neg (by rw[h1];simp),if_neg h2,if_neg h3,if_neg h4,if_neg h5,if_neg (by omega)]
theorem znz {w:World} {n:Nat} {v:Value} {M:List F} (h:w.ownsRow n 29 4 v M.length (fCs M)) {B:Nat} (hB:B≤n):∀ b,v.ownBlock=some b→B≤b:=fun b hb=>Nat.le_trans hB (h.lt b hb).1
theorem RNew_any (w:World) (v0:Value) (l:List F) (h:Files w v0 l) (hl:l.length≤2000) (hs:∀ f∈l,f.p.length≤100000∧f.t.length≤100000) (hsum:sumP l≤50000) :
  Calls Tryz.prog 46 #[v0] w (RNewPost w (rNew l)):=by
 obtain⟨a,cp,rfl⟩:∃ a cp,v0=.slice a l.length cp:=by
  rcases h with ⟨rfl,a,c,rfl⟩ | ⟨b,o,c,rfl,_⟩<;>exact⟨_,_,rfl⟩
 have hN0:=NB.new w
 have hBa:=fun x y=>((Below.refl w.heap.size w).alloc (Nat.le_refl _) x).alloc (by simp) y
 have HS:=Lib.hid hs
 clear hs
 go_enter Tryz.func46,Tryz.ntmps46
 go_wp2_with fail
 have hB0:=hBa (.cells #[.slice none 0 0,.int .i64 0] TS) (.cells #[.slice none 0 0,.int .i64 0] TS)
 generalize ((w.alloc (.cells #[.slice none 0 0,.int .i64 0] TS)).alloc (.cells #[.slice none 0 0,.int .i64 0] TS))=W0 at *
 go_loopw [5] (fun v wr=>N1Rel w l v wr) (fun v _=>l.length - (intOf v).toNat)
 case atStart=>exact⟨0,⟨[],0⟩,_,rfl,Nat.zero_le _,rfl,hN0,.inl ⟨rfl,rfl⟩,(fun b hb=>by cases hb),List.Pairwise.nil,Nat.le_refl _,hB0⟩
 case round =>
  obtain⟨k,st,v,rfl,hk,hrun,hN,hR,hvb,hsort,hlen,hB⟩:=hrel
  clear hN0 hB0
  by_cases hlt:k<l.length
  ·obtain⟨f,hf⟩:∃ f,l[k]?=some f:=⟨_,List.getElem?_eq_getElem hlt⟩
   obtain⟨t1,t2⟩:=HS.out f (List.mem_of_getElem? hf)
   rw[drop_at hf] at hrun
   rcases h with ⟨rfl,_⟩ | ⟨b,o,c',e,hb,hC⟩
   ·exact absurd hlt (by simp)
   cases e
   obtain⟨x0,x1,x2,x3⟩:=hC k hlt
   have hfe:l[k]=f:=(List.getElem?_eq_some_iff.1 hf).2
   rw[hfe] at x0 x1 x2 x3
   have a0:=(hB.cell (p:=⟨b,o+k * 4,none⟩) hb).trans x0
   have a1:=(hB.cell (p:=⟨b,o+k * 4+1,none⟩) hb).trans x1
   have a2:=(hB.cell (p:=⟨b,o+k * 4+2,none⟩) hb).trans x2
   have a3:=(hB.cell (p:=⟨b,o+k * 4+3,none⟩) hb).trans x3
   have ik:(k:Int)<l.length:=by omega
   have hwn:=hN.lt
   have hBF:=fun x=>(Below.refl wr.heap.size wr).alloc (Nat.le_refl _) x
   clear hC x0 x1 x2 x3 hfe hBa
   obtain⟨fp,ft,fc,fd⟩:=f
   simp only at t1 t2 a0 a1 a2 a3
   have hps:(str fp).size≤900000:=by rw[zsf];omega
   have hts:(str ft).size=ft.length:=zsf ft
   have hbn:(bs (str fp))=fp:=zas fp
   have hq46:((str fp).toList == [46])=(fp == [46]):=by rw[Lib.toList_data];show (bs (str fp) == [46])=_;rw[hbn]
   have hqe:(str ft).toList.isEmpty=ft.isEmpty:=by rw[Lib.toList_data];show (bs (str ft)).isEmpty=_;rw[zas]
   cases hcl:zaq fp with
   | false =>
    have HCl:Hid (zaq (bs (str fp))=false):=Lib.hid (by rw[hbn];exact hcl)
    have HE:=Lib.hid (zek hrun (zgy (st:=st) (f:=⟨fp,ft,fc,fd⟩) (n:=1) (by unfold badA;rw[if_pos hcl]) (by decide)) (by decide))
    clear hrun hcl hf hq46 hqe hsort hbn
    go_wp2_with (go_at_call 8;go_must (refine(zcg _ (str fp) false hps HCl).mono ?_);rintro e w2 ⟨rfl,B2⟩;obtain⟨d0,d1,d2,d3⟩:=zav B2;have hN2:=(hN.later (hBF _)).later B2;have hR2:=(hR.below (hBF _)).below B2;have hB2:=(hB.trans ((hBF _).mono hB.size)).trans (B2.mono (by have:=hB.size;simp;omega));have hf2:wr.heap.size<w2.heap.size:=(by have:=B2.size;simp at this;omega);obtain⟨⟨q0,q1⟩,⟨q2,q3,q4,q5⟩,⟨q6,q7,q8,q9⟩⟩:=hN2.cells)
    obtain⟨s0,s1⟩:=hN2.zero
    exact bodyPost_ret (v:=.tuple #[.agg #[.slice none 0 0,.int .i64 0],.int .i64 1]) (by simp[results,Tryz.results46,go_sem,s0,s1]) rfl (by rw[HE.out];exact .bad _ ((hB2.setCell (Nat.le_refl _) _).setCell (Nat.le_refl _) _))
   | true =>
    have HCl:Hid (zaq (bs (str fp))=true):=Lib.hid (by rw[hbn];exact hcl)
    by_cases h46:fp=[46]
    ·have g46:((str fp).toList == [46])=true:=by rw[hq46,h46];rfl
     have HE:=Lib.hid (zek hrun (zgy (st:=st) (f:=⟨fp,ft,fc,fd⟩) (n:=1) (by unfold badA;rw[if_neg (by rw[hcl];simp),if_pos h46]) (by decide)) (by decide))
     clear hrun hcl hf hq46 hqe hsort hbn h46
     go_wp2_with (go_at_call 8;go_must (refine(zcg _ (str fp) true hps HCl).mono ?_);rintro e w2 ⟨rfl,B2⟩;obtain⟨d0,d1,d2,d3⟩:=zav B2;have hN2:=(hN.later (hBF _)).later B2;have hR2:=(hR.below (hBF _)).below B2;have hB2:=(hB.trans ((hBF _).mono hB.size)).trans (B2.mono (by have:=hB.size;simp;omega));have hf2:wr.heap.size<w2.heap.size:=(by have:=B2.size;simp at this;omega);obtain⟨⟨q0,q1⟩,⟨q2,q3,q4,q5⟩,⟨q6,q7,q8,q9⟩⟩:=hN2.cells)
     obtain⟨s0,s1⟩:=hN2.zero
     exact bodyPost_ret (v:=.tuple #[.agg #[.slice none 0 0,.int .i64 0],.int .i64 1]) (by simp[results,Tryz.results46,go_sem,s0,s1]) rfl (by rw[HE.out];exact .bad _ ((hB2.setCell (Nat.le_refl _) _).setCell (Nat.le_refl _) _))
    ·have g46:((str fp).toList == [46])=false:=by rw[hq46];simpa using h46
     cases fd with
     | true =>
      by_cases ht:ft=[]
      ·have gte:(str ft).toList.isEmpty=true:=by rw[hqe,ht];rfl
       by_cases hc0:fc<0
       ·have HE:=Lib.hid (zek hrun (zgy (st:=st) (f:=⟨fp,ft,fc,true⟩) (n:=5) (by unfold badA;rw[if_neg (by rw[hcl];simp),if_neg h46,if_neg (fun h=>h.2 ht),if_pos hc0]) (by decide)) (by decide))
        clear hrun hcl hf hq46 hqe hsort hbn h46 ht
        go_wp2_with (go_at_call 8;go_must (refine(zcg _ (str fp) true hps HCl).mono ?_);rintro e w2 ⟨rfl,B2⟩;obtain⟨d0,d1,d2,d3⟩:=zav B2;have hN2:=(hN.later (hBF _)).later B2;have hR2:=(hR.below (hBF _)).below B2;have hB2:=(hB.trans ((hBF _).mono hB.size)).trans (B2.mono (by have:=hB.size;simp;omega));have hf2:wr.heap.size<w2.heap.size:=(by have:=B2.size;simp at this;omega);obtain⟨⟨q0,q1⟩,⟨q2,q3,q4,q5⟩,⟨q6,q7,q8,q9⟩⟩:=hN2.cells)
        obtain⟨s0,s1⟩:=hN2.zero
        exact bodyPost_ret (v:=.tuple #[.agg #[.slice none 0 0,.int .i64 0],.int .i64 5]) (by simp[results,Tryz.results46,go_sem,s0,s1]) rfl (by rw[HE.out];exact .bad _ ((hB2.setCell (Nat.le_refl _) _).setCell (Nat.le_refl _) _))
       ·by_cases hc1:4611686018427387904≤fc
        ·have HE:=Lib.hid (zek hrun (zgy (st:=st) (f:=⟨fp,ft,fc,true⟩) (n:=5) (by unfold badA;rw[if_neg (by rw[hcl];simp),if_neg h46,if_neg (fun h=>h.2 ht),if_neg hc0,if_pos hc1]) (by decide)) (by decide))
         clear hrun hcl hf hq46 hqe hsort hbn h46 ht
         go_wp2_with (go_at_call 8;go_must (refine(zcg _ (str fp) true hps HCl).mono ?_);rintro e w2 ⟨rfl,B2⟩;obtain⟨d0,d1,d2,d3⟩:=zav B2;have hN2:=(hN.later (hBF _)).later B2;have hR2:=(hR.below (hBF _)).below B2;have hB2:=(hB.trans ((hBF _).mono hB.size)).trans (B2.mono (by have:=hB.size;simp;omega));have hf2:wr.heap.size<w2.heap.size:=(by have:=B2.size;simp at this;omega);obtain⟨⟨q0,q1⟩,⟨q2,q3,q4,q5⟩,⟨q6,q7,q8,q9⟩⟩:=hN2.cells)
         obtain⟨s0,s1⟩:=hN2.zero
         exact bodyPost_ret (v:=.tuple #[.agg #[.slice none 0 0,.int .i64 0],.int .i64 5]) (by simp[results,Tryz.results46,go_sem,s0,s1]) rfl (by rw[HE.out];exact .bad _ ((hB2.setCell (Nat.le_refl _) _).setCell (Nat.le_refl _) _))
        ·have hz:badA ⟨fp,ft,fc,true⟩=0:=ztl hcl h46 (fun h=>h.2 ht) hc0 hc1 t2
         have i6:(((str ft).size:Nat):Int)≤1048576:=by omega
         cases hget:Sp.get st.L fp with
         | some g =>
          have hpy:=Sp.zrq hsort hget
          have hple:=Sp.zna st.L fp
          obtain⟨⟨r,y⟩,hpos⟩:∃ q,Sp.pos st.L fp=q:=⟨_,rfl⟩
          rw[hpos] at hpy hple
          obtain rfl:y=true:=hpy.1
          have HPos:=Lib.hid hpos
          have HE:=Lib.hid (zek hrun (zpf (st:=st) (f:=⟨fp,ft,fc,true⟩) hz hget) (by decide))
          clear hrun hcl hf hq46 hqe hsort hbn h46 hpos hpy hget hz ht
          go_wp2_with (first
           | (go_at_call 92;go_must (refine(zhb _ _ st.c st.L (str fp) (by omega) hR2.files).mono ?_);rintro e w3 ⟨rfl,B3⟩;rw[zas,HPos.out];replace d0:=(B3.cell (p:=⟨wr.heap.size,0,none⟩) hf2).trans d0;replace d1:=(B3.cell (p:=⟨wr.heap.size,1,none⟩) hf2).trans d1;replace d2:=(B3.cell (p:=⟨wr.heap.size,2,none⟩) hf2).trans d2;replace d3:=(B3.cell (p:=⟨wr.heap.size,3,none⟩) hf2).trans d3;have hN3:=hN2.later B3;have hR3:=hR2.below B3;have hB3:=hB2.trans (B3.mono hB2.size);have hf3:=Nat.lt_of_lt_of_le hf2 B3.size;obtain⟨⟨q0,q1⟩,⟨q2,q3,q4,q5⟩,⟨q6,q7,q8,q9⟩⟩:=hN3.cells)
           | (go_at_call 8;go_must (refine(zcg _ (str fp) true hps HCl).mono ?_);rintro e w2 ⟨rfl,B2⟩;obtain⟨d0,d1,d2,d3⟩:=zav B2;have hN2:=(hN.later (hBF _)).later B2;have hR2:=(hR.below (hBF _)).below B2;have hB2:=(hB.trans ((hBF _).mono hB.size)).trans (B2.mono (by have:=hB.size;simp;omega));have hf2:wr.heap.size<w2.heap.size:=(by have:=B2.size;simp at this;omega);obtain⟨⟨q0,q1⟩,⟨q2,q3,q4,q5⟩,⟨q6,q7,q8,q9⟩⟩:=hN2.cells))
          obtain⟨s0,s1⟩:=hN3.zero
          exact bodyPost_ret (v:=.tuple #[.agg #[.slice none 0 0,.int .i64 0],.int .i64 1]) (by simp[results,Tryz.results46,go_sem,s0,s1]) rfl (by rw[HE.out];exact .bad _ ((hB3.setCell (Nat.le_refl _) _).setCell (Nat.le_refl _) _))
         | none =>
          have hpn:=Sp.zsj hsort hget
          have hple:=Sp.zna st.L fp
          obtain⟨⟨r,y⟩,hpos⟩:∃ q,Sp.pos st.L fp=q:=⟨_,rfl⟩
          rw[hpos] at hpn hple
          obtain rfl:y=false:=hpn
          have HPos:=Lib.hid hpos
          have hnew:=addA_new (st:=st) (f:=⟨fp,ft,fc,true⟩) hz hget
          have hins:=Lib.hid (Sp.zia (f:=⟨fp,ft,fc,true⟩) hsort hget)
          have hss:=Sp.zby (f:=⟨fp,ft,fc,true⟩) hsort
          have HR:Hid (zbd ⟨[],0⟩ l=zbd ⟨Sp.ins st.L ⟨fp,ft,fc,true⟩,max st.c fc⟩ (l.drop (k+1))):=Lib.hid (by rw[hrun,zdb,hnew,if_neg (by simp)])
          clear hrun hcl hf hq46 hqe hbn h46 hpos hget hz hnew ht
          by_cases hmx:st.c<fc
          ·have em:max st.c fc=fc:=by omega
           rw[em] at HR
           go_wp2_with (first
            | (go_at_call 93;go_must (refine(ziv _ _ st.c st.L ⟨fp,ft,fc,true⟩ (by omega) hR3).mono ?_);rintro e w4 ⟨v4,rfl,ho4,B4⟩;obtain⟨a4,c4,rfl⟩:=zac ho4;replace d2:=(B4.cell (p:=⟨wr.heap.size,2,none⟩) hf3).trans d2;have hN4:=(hN3.later B4).set0 (.slice a4 (Sp.ins st.L ⟨fp,ft,fc,true⟩).length c4);have hN5:=hN4.set1 st.c;have hB4:=hB3.trans (B4.mono hB3.size);have hR4:=RFiles.of_own ho4 (fun e=>absurd e (zvh _ _));have hv4:=znz ho4 (B:=w.heap.size+2) (by have:=hN3.lt;omega);obtain⟨⟨q0,q1⟩,⟨q2,q3,q4,q5⟩,_⟩:=(hN3.later B4).cells;have e2:((w4.setCell ⟨w.heap.size+1,0,none⟩ (.slice a4 (Sp.ins st.L ⟨fp,ft,fc,true⟩).length c4)).setCell ⟨w.heap.size+1,1,none⟩ (.int .i64 st.c)).cell? ⟨wr.heap.size,2,none⟩=some (.int .i64 fc):=(by rw[World.cell?_setCell_far _ _ _ _ (by simp;omega),World.cell?_setCell_far _ _ _ _ (by simp;omega)];exact d2);have e3:((w4.setCell ⟨w.heap.size+1,0,none⟩ (.slice a4 (Sp.ins st.L ⟨fp,ft,fc,true⟩).length c4)).setCell ⟨w.heap.size+1,1,none⟩ (.int .i64 st.c)).cell? ⟨w.heap.size+1,1,none⟩=some (.int .i64 st.c):=zaa hN5.S rfl;have e4:((w4.setCell ⟨w.heap.size+1,0,none⟩ (.slice a4 (Sp.ins st.L ⟨fp,ft,fc,true⟩).length c4)).setCell ⟨w.heap.size+1,1,none⟩ (.int .i64 st.c)).frozen? ⟨w.heap.size+1,1,none⟩=false:=zad hN5.S 1)
            | (go_at_call 92;go_must (refine(zhb _ _ st.c st.L (str fp) (by omega) hR2.files).mono ?_);rintro e w3 ⟨rfl,B3⟩;rw[zas,HPos.out];replace d0:=(B3.cell (p:=⟨wr.heap.size,0,none⟩) hf2).trans d0;replace d1:=(B3.cell (p:=⟨wr.heap.size,1,none⟩) hf2).trans d1;replace d2:=(B3.cell (p:=⟨wr.heap.size,2,none⟩) hf2).trans d2;replace d3:=(B3.cell (p:=⟨wr.heap.size,3,none⟩) hf2).trans d3;have hN3:=hN2.later B3;have hR3:=hR2.below B3;have hB3:=hB2.trans (B3.mono hB2.size);have hf3:=Nat.lt_of_lt_of_le hf2 B3.size;obtain⟨⟨q0,q1⟩,⟨q2,q3,q4,q5⟩,⟨q6,q7,q8,q9⟩⟩:=hN3.cells)
            | (go_at_call 8;go_must (refine(zcg _ (str fp) true hps HCl).mono ?_);rintro e w2 ⟨rfl,B2⟩;obtain⟨d0,d1,d2,d3⟩:=zav B2;have hN2:=(hN.later (hBF _)).later B2;have hR2:=(hR.below (hBF _)).below B2;have hB2:=(hB.trans ((hBF _).mono hB.size)).trans (B2.mono (by have:=hB.size;simp;omega));have hf2:wr.heap.size<w2.heap.size:=(by have:=B2.size;simp at this;omega);obtain⟨⟨q0,q1⟩,⟨q2,q3,q4,q5⟩,⟨q6,q7,q8,q9⟩⟩:=hN2.cells))
           go_roundw
           case rel=>exact⟨k+1,⟨_,fc⟩,_,by go_num,hlt,HR.out,hN5.set1 fc,((hR4.setCell _ _ _ (fun b hb=>by have:=hv4 b hb;omega)).setCell _ _ _ (fun b hb=>by have:=hv4 b hb;omega)).setCell _ _ _ (fun b hb=>by have:=hv4 b hb;omega),hv4,hss,by rw[hins.out];omega,((hB4.setCell (by simp) _).setCell (by simp) _).setCell (by simp) _⟩
           case measure=>simp[intOf];omega
          ·have em:max st.c fc=st.c:=by omega
           rw[em] at HR
           go_wp2_with (first
            | (go_at_call 93;go_must (refine(ziv _ _ st.c st.L ⟨fp,ft,fc,true⟩ (by omega) hR3).mono ?_);rintro e w4 ⟨v4,rfl,ho4,B4⟩;obtain⟨a4,c4,rfl⟩:=zac ho4;replace d2:=(B4.cell (p:=⟨wr.heap.size,2,none⟩) hf3).trans d2;have hN4:=(hN3.later B4).set0 (.slice a4 (Sp.ins st.L ⟨fp,ft,fc,true⟩).length c4);have hN5:=hN4.set1 st.c;have hB4:=hB3.trans (B4.mono hB3.size);have hR4:=RFiles.of_own ho4 (fun e=>absurd e (zvh _ _));have hv4:=znz ho4 (B:=w.heap.size+2) (by have:=hN3.lt;omega);obtain⟨⟨q0,q1⟩,⟨q2,q3,q4,q5⟩,_⟩:=(hN3.later B4).cells;have e2:((w4.setCell ⟨w.heap.size+1,0,none⟩ (.slice a4 (Sp.ins st.L ⟨fp,ft,fc,true⟩).length c4)).setCell ⟨w.heap.size+1,1,none⟩ (.int .i64 st.c)).cell? ⟨wr.heap.size,2,none⟩=some (.int .i64 fc):=(by rw[World.cell?_setCell_far _ _ _ _ (by simp;omega),World.cell?_setCell_far _ _ _ _ (by simp;omega)];exact d2);have e3:((w4.setCell ⟨w.heap.size+1,0,none⟩ (.slice a4 (Sp.ins st.L ⟨fp,ft,fc,true⟩).length c4)).setCell ⟨w.heap.size+1,1,none⟩ (.int .i64 st.c)).cell? ⟨w.heap.size+1,1,none⟩=some (.int .i64 st.c):=zaa hN5.S rfl;have e4:((w4.setCell ⟨w.heap.size+1,0,none⟩ (.slice a4 (Sp.ins st.L ⟨fp,ft,fc,true⟩).length c4)).setCell ⟨w.heap.size+1,1,none⟩ (.int .i64 st.c)).frozen? ⟨w.heap.size+1,1,none⟩=false:=zad hN5.S 1)
            | (go_at_call 92;go_must (refine(zhb _ _ st.c st.L (str fp) (by omega) hR2.files).mono ?_);rintro e w3 ⟨rfl,B3⟩;rw[zas,HPos.out];replace d0:=(B3.cell (p:=⟨wr.heap.size,0,none⟩) hf2).trans d0;replace d1:=(B3.cell (p:=⟨wr.heap.size,1,none⟩) hf2).trans d1;replace d2:=(B3.cell (p:=⟨wr.heap.size,2,none⟩) hf2).trans d2;replace d3:=(B3.cell (p:=⟨wr.heap.size,3,none⟩) hf2).trans d3;have hN3:=hN2.later B3;have hR3:=hR2.below B3;have hB3:=hB2.trans (B3.mono hB2.size);have hf3:=Nat.lt_of_lt_of_le hf2 B3.size;obtain⟨⟨q0,q1⟩,⟨q2,q3,q4,q5⟩,⟨q6,q7,q8,q9⟩⟩:=hN3.cells)
            | (go_at_call 8;go_must (refine(zcg _ (str fp) true hps HCl).mono ?_);rintro e w2 ⟨rfl,B2⟩;obtain⟨d0,d1,d2,d3⟩:=zav B2;have hN2:=(hN.later (hBF _)).later B2;have hR2:=(hR.below (hBF _)).below B2;have hB2:=(hB.trans ((hBF _).mono hB.size)).trans (B2.mono (by have:=hB.size;simp;omega));have hf2:wr.heap.size<w2.heap.size:=(by have:=B2.size;simp at this;omega);obtain⟨⟨q0,q1⟩,⟨q2,q3,q4,q5⟩,⟨q6,q7,q8,q9⟩⟩:=hN2.cells))
           go_roundw
           case rel=>exact⟨k+1,⟨_,st.c⟩,_,by go_num,hlt,HR.out,hN5,(hR4.setCell _ _ _ (fun b hb=>by have:=hv4 b hb;omega)).setCell _ _ _ (fun b hb=>by have:=hv4 b hb;omega),hv4,hss,by rw[hins.out];omega,(hB4.setCell (by simp) _).setCell (by simp) _⟩
           case measure=>simp[intOf];omega
      ·have gte:(str ft).toList.isEmpty=false:=by rw[hqe];simpa using ht
       have HE:=Lib.hid (zek hrun (zgy (st:=st) (f:=⟨fp,ft,fc,true⟩) (n:=1) (by unfold badA;rw[if_neg (by rw[hcl];simp),if_neg h46,if_pos ⟨rfl,ht⟩]) (by decide)) (by decide))
       clear hrun hcl hf hq46 hqe hsort hbn h46 ht
       go_wp2_with (go_at_call 8;go_must (refine(zcg _ (str fp) true hps HCl).mono ?_);rintro e w2 ⟨rfl,B2⟩;obtain⟨d0,d1,d2,d3⟩:=zav B2;have hN2:=(hN.later (hBF _)).later B2;have hR2:=(hR.below (hBF _)).below B2;have hB2:=(hB.trans ((hBF _).mono hB.size)).trans (B2.mono (by have:=hB.size;simp;omega));have hf2:wr.heap.size<w2.heap.size:=(by have:=B2.size;simp at this;omega);obtain⟨⟨q0,q1⟩,⟨q2,q3,q4,q5⟩,⟨q6,q7,q8,q9⟩⟩:=hN2.cells)
       obtain⟨s0,s1⟩:=hN2.zero
       exact bodyPost_ret (v:=.tuple #[.agg #[.slice none 0 0,.int .i64 0],.int .i64 1]) (by simp[results,Tryz.results46,go_sem,s0,s1]) rfl (by rw[HE.out];exact .bad _ ((hB2.setCell (Nat.le_refl _) _).setCell (Nat.le_refl _) _))
     | false =>
      by_cases hc0:fc<0
      ·have HE:=Lib.hid (zek hrun (zgy (st:=st) (f:=⟨fp,ft,fc,false⟩) (n:=5) (by unfold badA;rw[if_neg (by rw[hcl];simp),if_neg h46,if_neg (fun h=>by cases h.1),if_pos hc0]) (by decide)) (by decide))
       clear hrun hcl hf hq46 hqe hsort hbn h46
       go_wp2_with (go_at_call 8;go_must (refine(zcg _ (str fp) true hps HCl).mono ?_);rintro e w2 ⟨rfl,B2⟩;obtain⟨d0,d1,d2,d3⟩:=zav B2;have hN2:=(hN.later (hBF _)).later B2;have hR2:=(hR.below (hBF _)).below B2;have hB2:=(hB.trans ((hBF _).mono hB.size)).trans (B2.mono (by have:=hB.size;simp;omega));have hf2:wr.heap.size<w2.heap.size:=(by have:=B2.size;simp at this;omega);obtain⟨⟨q0,q1⟩,⟨q2,q3,q4,q5⟩,⟨q6,q7,q8,q9⟩⟩:=hN2.cells)
       obtain⟨s0,s1⟩:=hN2.zero
       exact bodyPost_ret (v:=.tuple #[.agg #[.slice none 0 0,.int .i64 0],.int .i64 5]) (by simp[results,Tryz.results46,go_sem,s0,s1]) rfl (by rw[HE.out];exact .bad _ ((hB2.setCell (Nat.le_refl _) _).setCell (Nat.le_refl _) _))
      ·by_cases hc1:4611686018427387904≤fc
       ·have HE:=Lib.hid (zek hrun (zgy (st:=st) (f:=⟨fp,ft,fc,false⟩) (n:=5) (by unfold badA;rw[if_neg (by rw[hcl];simp),if_neg h46,if_neg (fun h=>by cases h.1),if_neg hc0,if_pos hc1]) (by decide)) (by decide))
        clear hrun hcl hf hq46 hqe hsort hbn h46
        go_wp2_with (go_at_call 8;go_must (refine(zcg _ (str fp) true hps HCl).mono ?_);rintro e w2 ⟨rfl,B2⟩;obtain⟨d0,d1,d2,d3⟩:=zav B2;have hN2:=(hN.later (hBF _)).later B2;have hR2:=(hR.below (hBF _)).below B2;have hB2:=(hB.trans ((hBF _).mono hB.size)).trans (B2.mono (by have:=hB.size;simp;omega));have hf2:wr.heap.size<w2.heap.size:=(by have:=B2.size;simp at this;omega);obtain⟨⟨q0,q1⟩,⟨q2,q3,q4,q5⟩,⟨q6,q7,q8,q9⟩⟩:=hN2.cells)
        obtain⟨s0,s1⟩:=hN2.zero
        exact bodyPost_ret (v:=.tuple #[.agg #[.slice none 0 0,.int .i64 0],.int .i64 5]) (by simp[results,Tryz.results46,go_sem,s0,s1]) rfl (by rw[HE.out];exact .bad _ ((hB2.setCell (Nat.le_refl _) _).setCell (Nat.le_refl _) _))
       ·have hz:badA ⟨fp,ft,fc,false⟩=0:=ztl hcl h46 (fun h=>by cases h.1) hc0 hc1 t2
        have i6:(((str ft).size:Nat):Int)≤1048576:=by omega
        cases hget:Sp.get st.L fp with
        | some g =>
         have hpy:=Sp.zrq hsort hget
         have hple:=Sp.zna st.L fp
         obtain⟨⟨r,y⟩,hpos⟩:∃ q,Sp.pos st.L fp=q:=⟨_,rfl⟩
         rw[hpos] at hpy hple
         obtain rfl:y=true:=hpy.1
         have HPos:=Lib.hid hpos
         have HE:=Lib.hid (zek hrun (zpf (st:=st) (f:=⟨fp,ft,fc,false⟩) hz hget) (by decide))
         clear hrun hcl hf hq46 hqe hsort hbn h46 hpos hpy hget hz
         go_wp2_with (first
          | (go_at_call 92;go_must (refine(zhb _ _ st.c st.L (str fp) (by omega) hR2.files).mono ?_);rintro e w3 ⟨rfl,B3⟩;rw[zas,HPos.out];replace d0:=(B3.cell (p:=⟨wr.heap.size,0,none⟩) hf2).trans d0;replace d1:=(B3.cell (p:=⟨wr.heap.size,1,none⟩) hf2).trans d1;replace d2:=(B3.cell (p:=⟨wr.heap.size,2,none⟩) hf2).trans d2;replace d3:=(B3.cell (p:=⟨wr.heap.size,3,none⟩) hf2).trans d3;have hN3:=hN2.later B3;have hR3:=hR2.below B3;have hB3:=hB2.trans (B3.mono hB2.size);have hf3:=Nat.lt_of_lt_of_le hf2 B3.size;obtain⟨⟨q0,q1⟩,⟨q2,q3,q4,q5⟩,⟨q6,q7,q8,q9⟩⟩:=hN3.cells)
          | (go_at_call 8;go_must (refine(zcg _ (str fp) true hps HCl).mono ?_);rintro e w2 ⟨rfl,B2⟩;obtain⟨d0,d1,d2,d3⟩:=zav B2;have hN2:=(hN.later (hBF _)).later B2;have hR2:=(hR.below (hBF _)).below B2;have hB2:=(hB.trans ((hBF _).mono hB.size)).trans (B2.mono (by have:=hB.size;simp;omega));have hf2:wr.heap.size<w2.heap.size:=(by have:=B2.size;simp at this;omega);obtain⟨⟨q0,q1⟩,⟨q2,q3,q4,q5⟩,⟨q6,q7,q8,q9⟩⟩:=hN2.cells))
         obtain⟨s0,s1⟩:=hN3.zero
         exact bodyPost_ret (v:=.tuple #[.agg #[.slice none 0 0,.int .i64 0],.int .i64 1]) (by simp[results,Tryz.results46,go_sem,s0,s1]) rfl (by rw[HE.out];exact .bad _ ((hB3.setCell (Nat.le_refl _) _).setCell (Nat.le_refl _) _))
        | none =>
         have hpn:=Sp.zsj hsort hget
         have hple:=Sp.zna st.L fp
         obtain⟨⟨r,y⟩,hpos⟩:∃ q,Sp.pos st.L fp=q:=⟨_,rfl⟩
         rw[hpos] at hpn hple
         obtain rfl:y=false:=hpn
         have HPos:=Lib.hid hpos
         have hnew:=addA_new (st:=st) (f:=⟨fp,ft,fc,false⟩) hz hget
         have hins:=Lib.hid (Sp.zia (f:=⟨fp,ft,fc,false⟩) hsort hget)
         have hss:=Sp.zby (f:=⟨fp,ft,fc,false⟩) hsort
         have HR:Hid (zbd ⟨[],0⟩ l=zbd ⟨Sp.ins st.L ⟨fp,ft,fc,false⟩,max st.c fc⟩ (l.drop (k+1))):=Lib.hid (by rw[hrun,zdb,hnew,if_neg (by simp)])
         clear hrun hcl hf hq46 hqe hbn h46 hpos hget hz hnew
         by_cases hmx:st.c<fc
         ·have em:max st.c fc=fc:=by omega
          rw[em] at HR
          go_wp2_with (first
           | (go_at_call 93;go_must (refine(ziv _ _ st.c st.L ⟨fp,ft,fc,false⟩ (by omega) hR3).mono ?_);rintro e w4 ⟨v4,rfl,ho4,B4⟩;obtain⟨a4,c4,rfl⟩:=zac ho4;replace d2:=(B4.cell (p:=⟨wr.heap.size,2,none⟩) hf3).trans d2;have hN4:=(hN3.later B4).set0 (.slice a4 (Sp.ins st.L ⟨fp,ft,fc,false⟩).length c4);have hN5:=hN4.set1 st.c;have hB4:=hB3.trans (B4.mono hB3.size);have hR4:=RFiles.of_own ho4 (fun e=>absurd e (zvh _ _));have hv4:=znz ho4 (B:=w.heap.size+2) (by have:=hN3.lt;omega);obtain⟨⟨q0,q1⟩,⟨q2,q3,q4,q5⟩,_⟩:=(hN3.later B4).cells;have e2:((w4.setCell ⟨w.heap.size+1,0,none⟩ (.slice a4 (Sp.ins st.L ⟨fp,ft,fc,false⟩).length c4)).setCell ⟨w.heap.size+1,1,none⟩ (.int .i64 st.c)).cell? ⟨wr.heap.size,2,none⟩=some (.int .i64 fc):=(by rw[World.cell?_setCell_far _ _ _ _ (by simp;omega),World.cell?_setCell_far _ _ _ _ (by simp;omega)];exact d2);have e3:((w4.setCell ⟨w.heap.size+1,0,none⟩ (.slice a4 (Sp.ins st.L ⟨fp,ft,fc,false⟩).length c4)).setCell ⟨w.heap.size+1,1,none⟩ (.int .i64 st.c)).cell? ⟨w.heap.size+1,1,none⟩=some (.int .i64 st.c):=zaa hN5.S rfl;have e4:((w4.setCell ⟨w.heap.size+1,0,none⟩ (.slice a4 (Sp.ins st.L ⟨fp,ft,fc,false⟩).length c4)).setCell ⟨w.heap.size+1,1,none⟩ (.int .i64 st.c)).frozen? ⟨w.heap.size+1,1,none⟩=false:=zad hN5.S 1)
           | (go_at_call 92;go_must (refine(zhb _ _ st.c st.L (str fp) (by omega) hR2.files).mono ?_);rintro e w3 ⟨rfl,B3⟩;rw[zas,HPos.out];replace d0:=(B3.cell (p:=⟨wr.heap.size,0,none⟩) hf2).trans d0;replace d1:=(B3.cell (p:=⟨wr.heap.size,1,none⟩) hf2).trans d1;replace d2:=(B3.cell (p:=⟨wr.heap.size,2,none⟩) hf2).trans d2;replace d3:=(B3.cell (p:=⟨wr.heap.size,3,none⟩) hf2).trans d3;have hN3:=hN2.later B3;have hR3:=hR2.below B3;have hB3:=hB2.trans (B3.mono hB2.size);have hf3:=Nat.lt_of_lt_of_le hf2 B3.size;obtain⟨⟨q0,q1⟩,⟨q2,q3,q4,q5⟩,⟨q6,q7,q8,q9⟩⟩:=hN3.cells)
           | (go_at_call 8;go_must (refine(zcg _ (str fp) true hps HCl).mono ?_);rintro e w2 ⟨rfl,B2⟩;obtain⟨d0,d1,d2,d3⟩:=zav B2;have hN2:=(hN.later (hBF _)).later B2;have hR2:=(hR.below (hBF _)).below B2;have hB2:=(hB.trans ((hBF _).mono hB.size)).trans (B2.mono (by have:=hB.size;simp;omega));have hf2:wr.heap.size<w2.heap.size:=(by have:=B2.size;simp at this;omega);obtain⟨⟨q0,q1⟩,⟨q2,q3,q4,q5⟩,⟨q6,q7,q8,q9⟩⟩:=hN2.cells))
          go_roundw
          case rel=>exact⟨k+1,⟨_,fc⟩,_,by go_num,hlt,HR.out,hN5.set1 fc,((hR4.setCell _ _ _ (fun b hb=>by have:=hv4 b hb;omega)).setCell _ _ _ (fun b hb=>by have:=hv4 b hb;omega)).setCell _ _ _ (fun b hb=>by have:=hv4 b hb;omega),hv4,hss,by rw[hins.out];omega,((hB4.setCell (by simp) _).setCell (by simp) _).setCell (by simp) _⟩
          case measure=>simp[intOf];omega
         ·have em:max st.c fc=st.c:=by omega
          rw[em] at HR
          go_wp2_with (first
           | (go_at_call 93;go_must (refine(ziv _ _ st.c st.L ⟨fp,ft,fc,false⟩ (by omega) hR3).mono ?_);rintro e w4 ⟨v4,rfl,ho4,B4⟩;obtain⟨a4,c4,rfl⟩:=zac ho4;replace d2:=(B4.cell (p:=⟨wr.heap.size,2,none⟩) hf3).trans d2;have hN4:=(hN3.later B4).set0 (.slice a4 (Sp.ins st.L ⟨fp,ft,fc,false⟩).length c4);have hN5:=hN4.set1 st.c;have hB4:=hB3.trans (B4.mono hB3.size);have hR4:=RFiles.of_own ho4 (fun e=>absurd e (zvh _ _));have hv4:=znz ho4 (B:=w.heap.size+2) (by have:=hN3.lt;omega);obtain⟨⟨q0,q1⟩,⟨q2,q3,q4,q5⟩,_⟩:=(hN3.later B4).cells;have e2:((w4.setCell ⟨w.heap.size+1,0,none⟩ (.slice a4 (Sp.ins st.L ⟨fp,ft,fc,false⟩).length c4)).setCell ⟨w.heap.size+1,1,none⟩ (.int .i64 st.c)).cell? ⟨wr.heap.size,2,none⟩=some (.int .i64 fc):=(by rw[World.cell?_setCell_far _ _ _ _ (by simp;omega),World.cell?_setCell_far _ _ _ _ (by simp;omega)];exact d2);have e3:((w4.setCell ⟨w.heap.size+1,0,none⟩ (.slice a4 (Sp.ins st.L ⟨fp,ft,fc,false⟩).length c4)).setCell ⟨w.heap.size+1,1,none⟩ (.int .i64 st.c)).cell? ⟨w.heap.size+1,1,none⟩=some (.int .i64 st.c):=zaa hN5.S rfl;have e4:((w4.setCell ⟨w.heap.size+1,0,none⟩ (.slice a4 (Sp.ins st.L ⟨fp,ft,fc,false⟩).length c4)).setCell ⟨w.heap.size+1,1,none⟩ (.int .i64 st.c)).frozen? ⟨w.heap.size+1,1,none⟩=false:=zad hN5.S 1)
           | (go_at_call 92;go_must (refine(zhb _ _ st.c st.L (str fp) (by omega) hR2.files).mono ?_);rintro e w3 ⟨rfl,B3⟩;rw[zas,HPos.out];replace d0:=(B3.cell (p:=⟨wr.heap.size,0,none⟩) hf2).trans d0;replace d1:=(B3.cell (p:=⟨wr.heap.size,1,none⟩) hf2).trans d1;replace d2:=(B3.cell (p:=⟨wr.heap.size,2,none⟩) hf2).trans d2;replace d3:=(B3.cell (p:=⟨wr.heap.size,3,none⟩) hf2).trans d3;have hN3:=hN2.later B3;have hR3:=hR2.below B3;have hB3:=hB2.trans (B3.mono hB2.size);have hf3:=Nat.lt_of_lt_of_le hf2 B3.size;obtain⟨⟨q0,q1⟩,⟨q2,q3,q4,q5⟩,⟨q6,q7,q8,q9⟩⟩:=hN3.cells)
           | (go_at_call 8;go_must (refine(zcg _ (str fp) true hps HCl).mono ?_);rintro e w2 ⟨rfl,B2⟩;obtain⟨d0,d1,d2,d3⟩:=zav B2;have hN2:=(hN.later (hBF _)).later B2;have hR2:=(hR.below (hBF _)).below B2;have hB2:=(hB.trans ((hBF _).mono hB.size)).trans (B2.mono (by have:=hB.size;simp;omega));have hf2:wr.heap.size<w2.heap.size:=(by have:=B2.size;simp at this;omega);obtain⟨⟨q0,q1⟩,⟨q2,q3,q4,q5⟩,⟨q6,q7,q8,q9⟩⟩:=hN2.cells))
          go_roundw
          case rel=>exact⟨k+1,⟨_,st.c⟩,_,by go_num,hlt,HR.out,hN5,(hR4.setCell _ _ _ (fun b hb=>by have:=hv4 b hb;omega)).setCell _ _ _ (fun b hb=>by have:=hv4 b hb;omega),hv4,hss,by rw[hins.out];omega,(hB4.setCell (by simp) _).setCell (by simp) _⟩
          case measure=>simp[intOf];omega
  ·obtain rfl:k=l.length:=by omega
   rw[List.drop_length] at hrun
   have h1:zbd ⟨[],0⟩ l=(st,0):=hrun
   obtain⟨_,_,hbad⟩:=zhp l ⟨[],0⟩ List.Pairwise.nil (by rw[h1])
   have HN1:Hid (∀ o,zej st.L l=o→rNew l=match o with
     | none=>(⟨[],0⟩,4)
     | some M=>if 4096<M.length then (⟨[],0⟩,12) else (⟨M,st.c⟩,0)):=Lib.hid fun o ho=>by
    unfold rNew
    rw[h1,if_neg (by simp)]
    show (match zej st.L l with
     | none=>_
     | some M=>_)=_
    rw[ho]
   have HBad:=Lib.hid hbad
   clear hrun h1 hbad
   go_wp2_with fail
   go_loopw [10] (fun v wr=>N2Rel w l st.L st.c v wr) (fun v _=>l.length - (intOf v).toNat)
   case atStart=>exact⟨0,st.L,v,rfl,Nat.zero_le _,rfl,hN,hR,hvb,hsort,by omega,hB⟩
   case round =>
    obtain⟨k,M,v,rfl,hk,hrun,hN,hR,hvb,hsort,hlen,hB⟩:=hrel
    by_cases hlt:k<l.length
    ·obtain⟨f,hf⟩:∃ f,l[k]?=some f:=⟨_,List.getElem?_eq_getElem hlt⟩
     obtain⟨t1,t2⟩:=HS.out f (List.mem_of_getElem? hf)
     obtain⟨c1,c2,_⟩:=zfn (HBad.out f (List.mem_of_getElem? hf))
     obtain⟨P',hg,hp⟩:=zce.1 c1
     obtain⟨P,x,rfl⟩:=zgp (P:=P') (by rintro rfl;exact c2 hp)
     have hfe:l[k]=f:=(List.getElem?_eq_some_iff.1 hf).2
     have hst:=sumP_take hlt
     rw[hfe] at hst
     have hsl:=zrh l (k+1)
     rw[drop_at hf] at hrun
     rcases h with ⟨rfl,_⟩ | ⟨b,o,c',e,hb,hC⟩
     ·exact absurd hlt (by simp)
     cases e
     obtain⟨x0,_⟩:=hC k hlt
     rw[hfe] at x0
     have a0:=(hB.cell (p:=⟨b,o+k * 4,none⟩) hb).trans x0
     have ik:(k:Int)<l.length:=by omega
     have hps:(str f.p).size≤900000:=by rw[zsf];omega
     have hDir:=RDir_is wr (str f.p) (str (dirL f.p)) hps (Lib.hid (by rw[zas];exact c1)) (Lib.hid (by rw[zas,zas]))
     have hdp:dirL f.p=Pt.text P:=by rw[hp,zeu hg]
     have hpl:=zsh hg
     rw[←hp] at hpl
     simp at hpl
     have hdl:=zqr f.p (List.length_pos_iff.2 (znk c1))
     rw[hdp] at hDir hdl
     have hgP:=hg.cut
     have HRun:Hid (∀ o,rUp (f.p.length+1) M (Pt.text P)=o→zej st.L l=match o with
       | none=>none
       | some K=>zej K (l.drop (k+1))):=Lib.hid fun o ho=>by
      rw[hrun,zej,hdp,ho]
      cases o<;>rfl
     obtain⟨N,hNn⟩:∃ N,f.p.length+1=N:=⟨_,rfl⟩
     rw[hNn] at HRun
     have hPN:P.length<N:=by omega
     obtain⟨T,hT⟩:∃ T,l.length+sumP (l.take (k+1))+(k+1)=T:=⟨_,rfl⟩
     have hT0:M.length+P.length≤T:=by omega
     have hT1:T≤60000:=by omega
     have HT:=Lib.hid hT
     have hPl:(Pt.text P).length≤100000:=by omega
     clear hrun hf hfe hst hsl hC x0 c1 c2 hp hg hdp hdl hpl hNn hT hps hlen
     go_wp2_with fail
     refine hDir.mono ?_
     rintro e w1 ⟨rfl,B1⟩
     have hN1:=hN.later B1
     have hR1:=hR.below B1
     have hB1:=hB.trans (B1.mono hB.size)
     go_wp2_with fail
     go_loopw [11] (fun v wr=>N3Rel w N T M (Pt.text P) st.c v wr) (fun v _=>muW v)
     case atStart=>exact⟨N,M,P,v,rfl,hgP,hPN,rfl,hN1,hR1,hvb,hsort,hT0,hPl,hB1⟩
     case round =>
      obtain⟨n,M1,P1,v1,rfl,hgP1,hPn1,hrU,hN1,hR1,hvb1,hsort1,hlen1,hPl1,hB1⟩:=hrel
      obtain⟨n,rfl⟩:∃ n',n=n'+1:=⟨n - 1,by omega⟩
      by_cases hP:P1=[]
      ·subst hP
       rw[zmg] at hrU ⊢
       have hq46:((str [46]).toList == [46])=true:=by rw[Lib.toList_data];rfl
       have hall:Hid (zej st.L l=zej M1 (l.drop (k+1))):=Lib.hid (HRun.out (some M1) (by rw[hrU,rUp,if_pos rfl]))
       have hTT:M1.length≤l.length+sumP (l.take (k+1))+(k+1):=by have:=HT.out;simp at hlen1;omega
       have HTT:=Lib.hid hTT
       clear hrU hTT
       go_wp2_with fail
       go_roundw
       case rel=>exact⟨k+1,M1,v1,by go_num,hlt,hall.out,hN1,hR1,hvb1,hsort1,HTT.out,hB1⟩
       case measure=>simp[intOf];omega
      ·obtain⟨Q,y,rfl⟩:=zgp hP
       have hne:Pt.text (Q++[y])≠[46]:=fun e=>hP ((zhf hgP1).1 e)
       have hq46:((str (Pt.text (Q++[y]))).toList == [46])=false:=by rw[Lib.toList_data];show (bs (str (Pt.text (Q++[y]))) == [46])=false;rw[zas,beq_eq_false_iff_ne];exact hne
       have hps1:(str (Pt.text (Q++[y]))).size≤900000:=by rw[zsf];omega
       have hpath:zaq (Pt.text (Q++[y]))=true:=zce.2 ⟨_,hgP1,rfl⟩
       have hdq:dirL (Pt.text (Q++[y]))=Pt.text Q:=zeu hgP1
       have hDir1:=fun W=>RDir_is W (str (Pt.text (Q++[y]))) (str (Pt.text Q)) hps1 (Lib.hid (by rw[zas];exact hpath)) (Lib.hid (by rw[zas,zas];exact hdq))
       have hmu:mu (Pt.text Q)<mu (Pt.text (Q++[y])):=by have:=mu_dir hne;rwa[hdq] at this
       have hdl:=zqr (Pt.text (Q++[y])) (List.length_pos_iff.2 (znk hpath))
       rw[hdq] at hdl
       have hgQ:=hgP1.cut
       have hQn:Q.length<n:=by simp at hPn1;omega
       have hlQ:M1.length+Q.length+1≤T:=by simp at hlen1;omega
       have hPlQ:(Pt.text Q).length≤100000:=by omega
       have hple:=Sp.zna M1 (Pt.text (Q++[y]))
       obtain⟨a1,m1,cp1,rfl⟩:=hR1.shape
       obtain rfl:m1=M1.length:=by
        rcases hR1 with ⟨rfl,e⟩ | ⟨_,_,_,e,_⟩<;>(cases e;rfl)
       obtain⟨⟨q0,q1⟩,⟨q2,q3,q4,q5⟩,⟨q6,q7,q8,q9⟩⟩:=hN1.cells
       cases hget:Sp.get M1 (Pt.text (Q++[y])) with
       | some g =>
        have hpy:=Sp.zrq hsort1 hget
        obtain⟨⟨r,yy⟩,hpos⟩:∃ q,Sp.pos M1 (Pt.text (Q++[y]))=q:=⟨_,rfl⟩
        rw[hpos] at hpy hple
        obtain⟨rfl,hg1⟩:yy=true∧M1[r]?=some g:=hpy
        obtain⟨hr1,hg2⟩:=List.getElem?_eq_some_iff.1 hg1
        have HPos:=Lib.hid hpos
        have hR1':=hR1
        rcases hR1' with ⟨rfl,_⟩ | ⟨_,bv,cp',ev,hv2,hbv,hvc⟩
        ·exact absurd hr1 (by simp)
        cases ev
        obtain⟨gp,gt,gc,gd⟩:=g
        have hz3:wr.cell? ⟨bv,r * 4+3,none⟩=some (.bool gd):=hvc (r * 4+3) _ (by rw[rfCs_get hr1 (by decide),hg2];rfl)
        have ir:(r:Int)<M1.length:=by omega
        cases gd with
        | true =>
         have HU:Hid (rUp N M (Pt.text P)=rUp n M1 (Pt.text Q)):=Lib.hid (by rw[hrU,rUp,if_neg hne,hget,hdq];rfl)
         clear hrU hne hpath hdq hdl hpos hg1 hg2 hvc hget hP hgP1 hPn1 hlen1
         go_wp2_with (first
          | (go_at_call 94;go_must (refine(hDir1 _).mono ?_);rintro e w5 ⟨rfl,B5⟩)
          | (go_at_call 92;go_must (refine(zhb _ _ st.c M1 (str (Pt.text (Q++[y]))) (by omega) hR1.files).mono ?_);rintro e w3 ⟨rfl,B3⟩;rw[zas,HPos.out];have hN3:=hN1.later B3;have hR3:=hR1.below B3;have hB3:=hB1.trans (B3.mono hB1.size);obtain⟨⟨q0,q1⟩,⟨q2,q3,q4,q5⟩,⟨q6,q7,q8,q9⟩⟩:=hN3.cells;have z3:w3.cell? ⟨bv,r * 4+3,none⟩=some (.bool true):=(B3.cell (p:=⟨bv,r * 4+3,none⟩) hbv).trans hz3))
         go_roundw
         case rel=>exact⟨n,M1,Q,_,rfl,hgQ,hQn,HU.out,hN3.later B5,hR3.below B5,hvb1,hsort1,by omega,hPlQ,hB3.trans (B5.mono hB3.size)⟩
         case measure=>simp only [muW,zas];exact hmu
        | false =>
         have HE:Hid (rNew l=(⟨[],0⟩,4)):=Lib.hid (HN1.out none (HRun.out none (by rw[hrU,rUp,if_neg hne,hget];rfl)))
         clear hrU hne hpath hdq hdl hpos hg1 hg2 hvc hget hP hgP1 hPn1 hlen1
         go_wp2_with (go_at_call 92;go_must (refine(zhb _ _ st.c M1 (str (Pt.text (Q++[y]))) (by omega) hR1.files).mono ?_);rintro e w3 ⟨rfl,B3⟩;rw[zas,HPos.out];have hN3:=hN1.later B3;have hR3:=hR1.below B3;have hB3:=hB1.trans (B3.mono hB1.size);obtain⟨⟨q0,q1⟩,⟨q2,q3,q4,q5⟩,⟨q6,q7,q8,q9⟩⟩:=hN3.cells;have z3:w3.cell? ⟨bv,r * 4+3,none⟩=some (.bool false):=(B3.cell (p:=⟨bv,r * 4+3,none⟩) hbv).trans hz3)
         obtain⟨s0,s1⟩:=hN3.zero
         exact bodyPost_ret (v:=.tuple #[.agg #[.slice none 0 0,.int .i64 0],.int .i64 4]) (by simp[results,Tryz.results46,go_sem,s0,s1]) rfl (by rw[HE.out];exact .bad _ ((hB3.setCell (Nat.le_refl _) _).setCell (Nat.le_refl _) _))
       | none =>
        have hpn:=Sp.zsj hsort1 hget
        obtain⟨⟨r,yy⟩,hpos⟩:∃ q,Sp.pos M1 (Pt.text (Q++[y]))=q:=⟨_,rfl⟩
        rw[hpos] at hpn hple
        obtain rfl:yy=false:=hpn
        have HPos:=Lib.hid hpos
        have HU:Hid (rUp N M (Pt.text P)=rUp n (Sp.ins M1 (dirF (Pt.text (Q++[y])))) (Pt.text Q)):=Lib.hid (by rw[hrU,rUp,if_neg hne,hget,hdq])
        have hins:=Lib.hid (Sp.zia (f:=dirF (Pt.text (Q++[y]))) hsort1 hget)
        have hss:=Sp.zby (f:=dirF (Pt.text (Q++[y]))) hsort1
        clear hrU hne hpath hdq hdl hpos hget hP hgP1 hPn1 hlen1
        go_wp2_with (first
         | (go_at_call 94;go_must (refine(hDir1 _).mono ?_);rintro e w5 ⟨rfl,B5⟩)
         | (go_at_call 93;go_must (refine(ziv _ _ st.c M1 (dirF (Pt.text (Q++[y]))) (by omega) hR3).mono ?_);rintro e w4 ⟨v4,rfl,ho4,B4⟩;obtain⟨a4,c4,rfl⟩:=zac ho4;have hN5:=((hN3.later B4).set0 (.slice a4 (Sp.ins M1 (dirF (Pt.text (Q++[y])))).length c4)).set1 st.c;have hB4:=hB3.trans (B4.mono hB3.size);have hR4:=RFiles.of_own ho4 (fun e=>absurd e (zvh _ _));have hv4:=znz ho4 (B:=w.heap.size+2) (by have:=hN3.lt;omega);have hR5:=(hR4.setCell (w.heap.size+1) 0 (.slice a4 (Sp.ins M1 (dirF (Pt.text (Q++[y])))).length c4) (fun b hb=>by have:=hv4 b hb;omega)).setCell (w.heap.size+1) 1 (.int .i64 st.c) (fun b hb=>by have:=hv4 b hb;omega);have hB5:=(hB4.setCell (p:=⟨w.heap.size+1,0,none⟩) (by simp) (.slice a4 (Sp.ins M1 (dirF (Pt.text (Q++[y])))).length c4)).setCell (p:=⟨w.heap.size+1,1,none⟩) (by simp) (.int .i64 st.c);obtain⟨⟨q0,q1⟩,⟨q2,q3,q4,q5⟩,_⟩:=(hN3.later B4).cells)
         | (go_at_call 92;go_must (refine(zhb _ _ st.c M1 (str (Pt.text (Q++[y]))) (by omega) hR1.files).mono ?_);rintro e w3 ⟨rfl,B3⟩;rw[zas,HPos.out];have hN3:=hN1.later B3;have hR3:=hR1.below B3;have hB3:=hB1.trans (B3.mono hB1.size);obtain⟨⟨q0,q1⟩,⟨q2,q3,q4,q5⟩,⟨q6,q7,q8,q9⟩⟩:=hN3.cells))
        go_roundw
        case rel=>exact⟨n,_,Q,_,rfl,hgQ,hQn,HU.out,hN5.later B5,hR5.below B5,hv4,hss,by rw[hins.out];omega,hPlQ,hB5.trans (B5.mono hB5.size)⟩
        case measure=>simp only [muW,zas];exact hmu
    ·obtain rfl:k=l.length:=by omega
     rw[List.drop_length] at hrun
     have hsl:=zrh l l.length
     obtain⟨a9,n9,cp9,rfl⟩:=hR.shape
     obtain rfl:n9=M.length:=by
      rcases hR with ⟨rfl,e⟩ | ⟨_,_,_,e,_⟩<;>(cases e;rfl)
     obtain⟨⟨q0,q1⟩,⟨q2,q3,q4,q5⟩,⟨q6,q7,q8,q9⟩⟩:=hN.cells
     by_cases h4:4096<M.length
     ·have i4:(4096:Int)<M.length:=by omega
      have HE:Hid (rNew l=(⟨[],0⟩,12)):=Lib.hid ((HN1.out _ hrun).trans (if_pos h4))
      obtain⟨s0,s1⟩:=hN.zero
      clear hrun
      go_wp2_with fail
      exact bodyPost_ret (v:=.tuple #[.agg #[.slice none 0 0,.int .i64 0],.int .i64 12]) (by simp[results,Tryz.results46,go_sem,s0,s1]) rfl (by rw[HE.out];exact .bad _ ((hB.setCell (Nat.le_refl _) _).setCell (Nat.le_refl _) _))
     ·have i4:¬ (4096:Int)<M.length:=by omega
      have HE:Hid (rNew l=(⟨M,st.c⟩,0)):=Lib.hid ((HN1.out _ hrun).trans (if_neg h4))
      obtain⟨s0,s1⟩:=hN.fill
      clear hrun
      go_wp2_with fail
      exact bodyPost_ret (v:=.tuple #[.agg #[.slice a9 M.length cp9,.int .i64 st.c],.int .i64 0]) (by simp[results,Tryz.results46,go_sem,s0,s1]) rfl (by
       rw[HE.out]
       exact⟨_,rfl,(hR.setCell _ _ _ (fun b hb=>by have:=hvb b hb;omega)).setCell _ _ _ (fun b hb=>by have:=hvb b hb;omega),(fun b hb=>by have:=hvb b hb;omega),(hB.setCell (Nat.le_refl _) _).setCell (Nat.le_refl _) _⟩)
end Sw
end Go.Proofs.YtgdpbnfgcabneaaGreatDoor

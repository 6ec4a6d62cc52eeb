/- Part of the proof. -/
import Derived.Test.YtgdpbnfgcabneaaGreatDoorQSPut
set_option maxRecDepth 100000
set_option maxHeartbeats 40000000
namespace Go.Proofs.YtgdpbnfgcabneaaGreatDoor
namespace Sw
open Go.RowKit Go.Maps
theorem zsf (l:List UInt8):(str l).size=l.length:=by rw[←zax,zas]
theorem frozen_two {w:World} {b:Nat} {x y:Value} {T:TypeId} (h:w.heap[b]?=some (.cells #[x,y] T (0,0))):w.frozen? ⟨b,0,none⟩=false:=by simp[World.frozen?,h]
theorem set_two {w:World} {b:Nat} {x y:Value} {T:TypeId} (h:w.heap[b]?=some (.cells #[x,y] T (0,0))) (v:Value):(w.setCell ⟨b,0,none⟩ v).heap[b]?=some (.cells #[v,y] T (0,0)):=by
 simp[World.setCell,Array.getElem?_modify,h]
def badA (f:F):Int :=
 if zaq f.p=false then 1 else if f.p=[46] then 1 else if f.d=true∧f.t≠[] then 1 else
 if f.c<0 then 5 else if 4611686018427387904≤f.c then 5 else if 1048576<f.t.length then 12 else 0
def addA (s:St) (f:F):St×Int :=
 if badA f≠0 then (s,badA f) else if (Sp.get s.L f.p).isSome then (s,1) else (⟨Sp.ins s.L f,max s.c f.c⟩,0)
theorem text_empty {t:List UInt8} (h:((str t).toList.isEmpty)=true):t=[]:=by have:=zjw h;rwa[zas] at this
theorem zav {w w1:World} {p t:List UInt8} {c:Int} {d:Bool} (hB:Below (w.alloc (.cells #[.string (str p),.string (str t),.int .i64 c,.bool d] 29)).heap.size (w.alloc (.cells #[.string (str p),.string (str t),.int .i64 c,.bool d] 29)) w1) :
  w1.cell? ⟨w.heap.size,0,none⟩=some (.string (str p))∧w1.cell? ⟨w.heap.size,1,none⟩=some (.string (str t))∧w1.cell? ⟨w.heap.size,2,none⟩=some (.int .i64 c)∧w1.cell? ⟨w.heap.size,3,none⟩=some (.bool d):=by
 obtain⟨d0,d1,d2,d3⟩:=file_new w p t c d
 have e:=fun i=>hB.cell (p:=⟨w.heap.size,i,none⟩) (by simp)
 exact⟨(e 0).trans d0,(e 1).trans d1,(e 2).trans d2,(e 3).trans d3⟩
theorem add_bad (w:World) (f:F) (n:Int) (hp:f.p.length≤1000000) (ht:f.t.length≤1000000000) (hn:Hid (badA f=n)) (h0:n≠0) (sb:Nat) :
  Calls Tryz.prog 88 #[.pointer (some ⟨sb,0,none⟩),.agg #[.string (str f.p),.string (str f.t),.int .i64 f.c,.bool f.d]] w (IntPost w n):=by
 have hps:(str f.p).size≤1000000:=by rw[←zax,zas];exact hp
 cases hc:zaq f.p with
 | false =>
  have hC:Hid (zaq (bs (str f.p))=false):=Lib.hid (by rw[zas];exact hc)
  have en:n=1:=by rw[←hn.out,badA,if_pos hc]
  subst en
  clear hc hn
  go_enter Tryz.func88,Tryz.ntmps88
  go_wp2_with (go_at_call 47;go_must (refine(zdw _ _ false hps hC).mono ?_);rintro e w1 ⟨rfl,B1⟩)
  go_ret
  exact⟨rfl,((Below.refl _ w).alloc (Nat.le_refl _) _).trans (B1.mono (by simp))⟩
 | true =>
  have hC:Hid (zaq (bs (str f.p))=true):=Lib.hid (by rw[zas];exact hc)
  have e1:badA f=if f.p=[46] then 1 else if f.d=true∧f.t≠[] then 1 else
   if f.c<0 then 5 else if 4611686018427387904≤f.c then 5 else if 1048576<f.t.length then 12 else 0:=by rw[badA,if_neg (by simp[hc])]
  rw[hn.out] at e1
  clear hc hn
  obtain⟨fp,ft,fc,fd⟩:=f
  simp only at e1 hC hps hp ht
  have hts:(str ft).size=ft.length:=by rw[←zax,zas]
  by_cases h46:((str fp).toList == [46])=true
  ·have en:n=1:=by rw[e1,if_pos (by have:=znj h46;rwa[zas] at this)]
   subst en
   clear e1
   go_enter Tryz.func88,Tryz.ntmps88
   go_wp2_with (go_at_call 47;go_must (refine(zdw _ _ true hps hC).mono ?_);rintro e w1 ⟨rfl,B1⟩;obtain⟨d0,d1,d2,d3⟩:=zav B1)
   go_ret
   exact⟨rfl,((Below.refl _ w).alloc (Nat.le_refl _) _).trans (B1.mono (by simp))⟩
  ·have h46':((str fp).toList == [46])=false:=by simpa using h46
   rw[if_neg (by have:=zls h46';rwa[zas] at this)] at e1
   clear h46
   by_cases hdt:fd=true∧ft≠[]
   ·rw[if_pos hdt] at e1
    obtain⟨rfl,hne⟩:=hdt
    subst e1
    have hE:(str ft).toList.isEmpty=false:=by rw[Lib.toList_data];cases ft with
     | nil=>exact absurd rfl hne
     | cons a r=>rfl
    have hE2:((str ft).toList == [])=false:=by rw[Lib.toList_data,beq_eq_false_iff_ne];exact hne
    clear hne hts
    go_enter Tryz.func88,Tryz.ntmps88
    go_wp2_with (go_at_call 47;go_must (refine(zdw _ _ true hps hC).mono ?_);rintro e w1 ⟨rfl,B1⟩;obtain⟨d0,d1,d2,d3⟩:=zav B1)
    go_ret
    exact⟨rfl,((Below.refl _ w).alloc (Nat.le_refl _) _).trans (B1.mono (by simp))⟩
   ·rw[if_neg hdt] at e1
    have hE:fd=true→(str ft).toList.isEmpty=true:=fun h=>by
     rw[Lib.toList_data];cases ft with
     | nil=>rfl
     | cons a r=>exact absurd ⟨h,by simp⟩ hdt
    by_cases hc0:fc<0
    ·rw[if_pos hc0] at e1
     subst e1
     cases fd with
     | true =>
      have hE:=hE rfl
      clear hdt hts
      go_enter Tryz.func88,Tryz.ntmps88
      go_wp2_with (go_at_call 47;go_must (refine(zdw _ _ true hps hC).mono ?_);rintro e w1 ⟨rfl,B1⟩;obtain⟨d0,d1,d2,d3⟩:=zav B1)
      go_ret
      exact⟨rfl,((Below.refl _ w).alloc (Nat.le_refl _) _).trans (B1.mono (by simp))⟩
     | false =>
      clear hdt hE hts
      go_enter Tryz.func88,Tryz.ntmps88
      go_wp2_with (go_at_call 47;go_must (refine(zdw _ _ true hps hC).mono ?_);rintro e w1 ⟨rfl,B1⟩;obtain⟨d0,d1,d2,d3⟩:=zav B1)
      go_ret
      exact⟨rfl,((Below.refl _ w).alloc (Nat.le_refl _) _).trans (B1.mono (by simp))⟩
    ·rw[if_neg hc0] at e1
     by_cases hc1:4611686018427387904≤fc
     ·rw[if_pos hc1] at e1
      subst e1
      cases fd with
      | true =>
       have hE:=hE rfl
       clear hdt hts
       go_enter Tryz.func88,Tryz.ntmps88
       go_wp2_with (go_at_call 47;go_must (refine(zdw _ _ true hps hC).mono ?_);rintro e w1 ⟨rfl,B1⟩;obtain⟨d0,d1,d2,d3⟩:=zav B1)
       go_ret
       exact⟨rfl,((Below.refl _ w).alloc (Nat.le_refl _) _).trans (B1.mono (by simp))⟩
      | false =>
       clear hdt hE hts
       go_enter Tryz.func88,Tryz.ntmps88
       go_wp2_with (go_at_call 47;go_must (refine(zdw _ _ true hps hC).mono ?_);rintro e w1 ⟨rfl,B1⟩;obtain⟨d0,d1,d2,d3⟩:=zav B1)
       go_ret
       exact⟨rfl,((Below.refl _ w).alloc (Nat.le_refl _) _).trans (B1.mono (by simp))⟩
     ·rw[if_neg hc1] at e1
      by_cases hl:1048576<ft.length
      ·rw[if_pos hl] at e1
       subst e1
       have hl2:(1048576:Int)<(str ft).size:=by omega
       cases fd with
       | true =>
        have hE:=hE rfl
        exact absurd (text_empty hE) (fun e=>by rw[e] at hl;simp at hl)
       | false =>
        clear hdt hE hts
        go_enter Tryz.func88,Tryz.ntmps88
        go_wp2_with (go_at_call 47;go_must (refine(zdw _ _ true hps hC).mono ?_);rintro e w1 ⟨rfl,B1⟩;obtain⟨d0,d1,d2,d3⟩:=zav B1)
        go_ret
        exact⟨rfl,((Below.refl _ w).alloc (Nat.le_refl _) _).trans (B1.mono (by simp))⟩
      ·rw[if_neg hl] at e1
       exact absurd e1 h0
theorem zfn {f:F} (h:badA f=0):zaq f.p=true∧f.p≠[46]∧(f.d=true→f.t=[])∧0≤f.c∧f.c<4611686018427387904∧f.t.length≤1048576:=by
 unfold badA at h
 by_cases h1:zaq f.p=false
 ·rw[if_pos h1] at h;cases h
 rw[if_neg h1] at h
 by_cases h2:f.p=[46]
 ·rw[if_pos h2] at h;cases h
 rw[if_neg h2] at h
 by_cases h3:f.d=true∧f.t≠[]
 ·rw[if_pos h3] at h;cases h
 rw[if_neg h3] at h
 by_cases h4:f.c<0
 ·rw[if_pos h4] at h;cases h
 rw[if_neg h4] at h
 by_cases h5:4611686018427387904≤f.c
 ·rw[if_pos h5] at h;cases h
 rw[if_neg h5] at h
 by_cases h6:1048576<f.t.length
 ·rw[if_pos h6] at h;cases h
 refine⟨by simpa using h1,h2,fun hd=>?_,by omega,by omega,by omega⟩
 by_cases ht:f.t=[]
 ·exact ht
 ·exact absurd ⟨hd,ht⟩ h3
theorem add_twice (w:World) {sb bm:Nat} {s:St} (f g:F) (hS:StoreAt w sb bm s.L s.c) (hp:f.p.length≤1000000) (hb:badA f=0) (hg:Hid (Sp.get s.L f.p=some g)) :
  Calls Tryz.prog 88 #[.pointer (some ⟨sb,0,none⟩),.agg #[.string (str f.p),.string (str f.t),.int .i64 f.c,.bool f.d]] w (IntPost w 1):=by
 have hps:(str f.p).size≤1000000:=by rw[←zax,zas];exact hp
 have hpm:(str f.p).size≤maxLen:=by unfold maxLen;omega
 obtain⟨b1,b2,b3,b4,b5,b6⟩:=zfn hb
 have hC:Hid (zaq (bs (str f.p))=true):=Lib.hid (by rw[zas];exact b1)
 have h46':((str f.p).toList == [46])=false:=by rw[Lib.toList_data,beq_eq_false_iff_ne];exact b2
 have hts:((str f.t).size:Int)≤1048576:=by rw[←zax,zas];omega
 have hc0:¬ f.c<0:=by omega
 have hc1:¬ 4611686018427387904≤f.c:=by omega
 have hE:f.d=true→(str f.t).toList.isEmpty=true:=fun h=>by rw[b3 h,Lib.toList_data];rfl
 clear b1 b2 b3 hb
 obtain⟨fp,ft,fc,fd⟩:=f
 simp only at *
 have hlt:=hS.lt
 cases fd
 all_goals
  try have hE:=hE rfl
  try clear hE
  go_enter Tryz.func88,Tryz.ntmps88
  go_wp2_with (go_at_call 47;go_must (refine(zdw _ _ true hps hC).mono ?_);rintro e w1 ⟨rfl,B1⟩;obtain⟨d0,d1,d2,d3⟩:=zav B1)
  have hB:=((Below.refl w.heap.size w).alloc (Nat.le_refl _) (.cells #[.string (str fp),.string (str ft),.int .i64 fc,.bool _] 29)).trans (B1.mono (by simp))
  have hS1:=hS.below hB
  have c1:=hS1.c1
  have hr0:=(hS1.map.block (w':=w1.drew) rfl).run_yes hpm hg.out
  have hr1:=fun o:Obj=>((hS1.map.alloc o).block (w':=(w1.alloc o).drew) rfl).run_yes hpm hg.out
  have hlt1:sb<w1.heap.size:=hS1.lt
  have hlt2:w.heap.size<w1.heap.size:=by have:=B1.size;simp at this;omega
  clear hS hS1
  go_region
  go_wp2
  go_ret
  exact⟨rfl,hB.drew.alloc hB.size _⟩
theorem add_fresh (w:World) {sb bm:Nat} {s:St} (f:F) (hS:StoreAt w sb bm s.L s.c) (hp:f.p.length≤1000000) (hb:badA f=0) (hg:Hid (Sp.get s.L f.p=none)) (hl:s.L.length≤1000000) :
  Calls Tryz.prog 88 #[.pointer (some ⟨sb,0,none⟩),.agg #[.string (str f.p),.string (str f.t),.int .i64 f.c,.bool f.d]] w (OpPost w sb bm (⟨Sp.ins s.L f,max s.c f.c⟩,0)):=by
 have hps:(str f.p).size≤1000000:=by rw[←zax,zas];exact hp
 have hpm:(str f.p).size≤maxLen:=by unfold maxLen;omega
 have hpl:f.p.length≤maxLen:=by unfold maxLen;omega
 have hlm:s.L.length<maxLen:=by unfold maxLen;omega
 obtain⟨b1,b2,b3,b4,b5,b6⟩:=zfn hb
 have hC:Hid (zaq (bs (str f.p))=true):=Lib.hid (by rw[zas];exact b1)
 have h46':((str f.p).toList == [46])=false:=by rw[Lib.toList_data,beq_eq_false_iff_ne];exact b2
 have hts:((str f.t).size:Int)≤1048576:=by rw[←zax,zas];omega
 have hc0:¬ f.c<0:=by omega
 have hc1:¬ 4611686018427387904≤f.c:=by omega
 have hE:f.d=true→(str f.t).toList.isEmpty=true:=fun h=>by rw[b3 h,Lib.toList_data];rfl
 clear b1 b2 b3 hb
 obtain⟨fp,ft,fc,fd⟩:=f
 simp only at *
 have hlt:=hS.lt
 have hbm:=hS.map.lt
 cases fd
 all_goals
  try have hE:=hE rfl
  try clear hE
  go_enter Tryz.func88,Tryz.ntmps88
  go_wp2_with (go_at_call 47;go_must (refine(zdw _ _ true hps hC).mono ?_);rintro e w1 ⟨rfl,B1⟩;obtain⟨d0,d1,d2,d3⟩:=zav B1)
  have hB:=((Below.refl w.heap.size w).alloc (Nat.le_refl _) (.cells #[.string (str fp),.string (str ft),.int .i64 fc,.bool _] 29)).trans (B1.mono (by simp))
  have hS1:=hS.below hB
  have c1:=hS1.c1
  have hr0:=(hS1.map.block (w':=w1.drew) rfl).run_no hpm hg.out
  have hr1:=fun o:Obj=>((hS1.map.alloc o).block (w':=(w1.alloc o).drew) rfl).run_no hpm hg.out
  have hlt1:sb<w1.heap.size:=hS1.lt
  have hlt2:w.heap.size<w1.heap.size:=by have:=B1.size;simp at this;omega
  clear hS
  go_region
  go_wp2
  clear hr0 hr1
  have hB2:Below w.heap.size w (w1.alloc (.cells #[.string ⟨#[]⟩,.string ⟨#[]⟩,.int .i64 0,.bool false] 29)).drew:=(hB.alloc hB.size _).drew
  have hS2:StoreAt (w1.alloc (.cells #[.string ⟨#[]⟩,.string ⟨#[]⟩,.int .i64 0,.bool false] 29)).drew sb bm s.L s.c:=⟨(hS1.alloc _).cells,(hS1.alloc _).map.block rfl⟩
  have hd:∀ i,(w1.alloc (.cells #[.string ⟨#[]⟩,.string ⟨#[]⟩,.int .i64 0,.bool false] 29)).drew.cell? ⟨w.heap.size,i,none⟩=w1.cell? ⟨w.heap.size,i,none⟩:=fun i=>((Below.refl w1.heap.size w1).alloc (Nat.le_refl _) _).drew.cell (p:=⟨w.heap.size,i,none⟩) hlt2
  have d0':=(hd 0).trans d0
  have d1':=(hd 1).trans d1
  have d2':=(hd 2).trans d2
  have d3':=(hd 3).trans d3
  clear hd d0 d1 d2 d3 hS1 c1 hlt1 hlt2
  have hne:=hS2.ne
  generalize (w1.alloc (.cells #[.string ⟨#[]⟩,.string ⟨#[]⟩,.int .i64 0,.bool false] 29)).drew=W at *
  have c1:=hS2.c1
  have hwl:w.heap.size<W.heap.size:=by have:=World.block_lt_of_cell? _ _ d0';simpa using this
  go_still_tail 7,(by kernel_rfl)
  change wpList _ _ _ _ _ W.drew
  have hM2:MapAt W.drew bm s.L:=hS2.map.block rfl
  have hC2:W.drew.heap[sb]?=some (.cells #[.int .i64 s.c,.map (some bm)] 180 (0,0)):=hS2.cells
  have hB3:Below w.heap.size w W.drew:=hB2.drew
  have e2:W.drew.cell? ⟨w.heap.size,2,none⟩=some (.int .i64 fc):=d2'
  have hwl':w.heap.size<W.drew.heap.size:=hwl
  clear d0' d1' d2' d3' hB2 hS2 c1 hwl
  generalize W.drew=W2 at *
  clear hB
  go_wp2_with (at_mapUpdate;refine zfw (f:=⟨fp,ft,fc,_⟩) _ rfl _ _ _ rfl rfl rfl rfl hM2 hpl hlm ?_;intro w3 hM3 htn)
  go_frame
  have hC3:w3.heap[sb]?=some (.cells #[.int .i64 s.c,.map (some bm)] 180 (0,0)):=(htn.grown.block sb (Array.getElem?_eq_some_iff.1 hC2).1 (by simpa using fun e=>hne e.symm)).trans hC2
  have e3:w3.cell? ⟨w.heap.size,2,none⟩=some (.int .i64 fc):=(World.cell?_of_block (w:=W2) (htn.grown.block w.heap.size hwl' (by simp;omega))).trans e2
  have hK3:Kept [sb,bm] w w3:=(Kept.of_below hB3).grown htn.grown (by simp)
  have c0:w3.cell? ⟨sb,0,none⟩=some (.int .i64 s.c):=by simp[World.cell?,hC3]
  clear hM2 hC2 hB3 e2 hwl' htn
  refine wp_region_still_tail 10 (by kernel_rfl) (by kernel_rfl) ?_
  simp only [List.take_succ_cons,List.take_zero,List.drop_succ_cons,List.drop_zero]
  repeat still_step
  have hcall:Calls Tryz.prog 161 #[.pointer (some ⟨sb,0,none⟩)] ⟨w3.heap,w3.tape,w3.drawn+1,w3.os,w3.output⟩ (fun e w''=>e=.returned (.int .i64 s.c)∧w''=⟨w3.heap,w3.tape,w3.drawn+1,w3.os,w3.output⟩) :=
   (Load_any ⟨w3.heap,w3.tape,w3.drawn+1,w3.os,w3.output⟩ sb 0 s.c c0).mono fun e w' ⟨a,b⟩=>⟨a,b.symm⟩
  still_call hcall
  clear hcall
  repeat still_step
  refine wpStill_nil ?_
  change wpList _ _ _ _ _ w3.drew
  have c0d:w3.drew.cell? ⟨sb,0,none⟩=some (.int .i64 s.c):=c0
  have f0d:w3.drew.frozen? ⟨sb,0,none⟩=false:=frozen_two (w:=w3.drew) hC3
  have hC4:∀ y,(w3.drew.setCell ⟨sb,0,none⟩ (.int .i64 y)).heap[sb]?=some (.cells #[.int .i64 y,.map (some bm)] 180 (0,0)):=fun y=>set_two (w:=w3.drew) hC3 _
  have hM4:∀ y,MapAt (w3.drew.setCell ⟨sb,0,none⟩ (.int .i64 y)) bm (Sp.ins s.L ⟨fp,ft,fc,_⟩):=fun y=>(hM3.block (w':=w3.drew) rfl).setCell hne _
  have hK4:∀ y,Kept [sb,bm] w (w3.drew.setCell ⟨sb,0,none⟩ (.int .i64 y)):=fun y=>(hK3.drewN 1).setCell (.inl (by simp)) _
  clear c0 e3 hC3 hM3 hK3
  generalize w3.drew=W4 at *
  go_wp2_with (go_at_call 160;go_must (refine(Stor_any _ sb 0 s.c _ c0d f0d).mono ?_);rintro e w4 ⟨rfl,rfl⟩)
  go_ret
  exact⟨rfl,⟨hC4 _,hM4 _⟩,hK4 _⟩
theorem zgr (w:World) {sb bm:Nat} {s:St} (f:F) (hS:StoreAt w sb bm s.L s.c) (hp:f.p.length≤1000000) (ht:f.t.length≤1000000000) (hl:s.L.length≤1000000) :
  Calls Tryz.prog 88 #[.pointer (some ⟨sb,0,none⟩),.agg #[.string (str f.p),.string (str f.t),.int .i64 f.c,.bool f.d]] w (OpPost w sb bm (addA s f)):=by
 by_cases hb:badA f=0
 ·cases hg:Sp.get s.L f.p with
  | none =>
   have e:addA s f=(⟨Sp.ins s.L f,max s.c f.c⟩,0):=by unfold addA;rw[if_neg (by simp[hb]),hg];rfl
   rw[e]
   exact add_fresh w f hS hp hb (Lib.hid hg) hl
  | some g =>
   have e:addA s f=(s,1):=by unfold addA;rw[if_neg (by simp[hb]),hg];rfl
   rw[e]
   exact(add_twice w f g hS hp hb (Lib.hid hg)).mono fun _ _ ⟨a,b⟩=>⟨a,hS.below b,.of_below b⟩
 ·have e:addA s f=(s,badA f):=by unfold addA;rw[if_pos hb]
  rw[e]
  exact(add_bad w f _ hp ht (Lib.hid rfl) hb sb).mono fun _ _ ⟨a,b⟩=>⟨a,hS.below b,.of_below b⟩
end Sw
end Go.Proofs.YtgdpbnfgcabneaaGreatDoor

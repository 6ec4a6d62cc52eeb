/- Part of the proof. -/
import Derived.Test.YtgdpbnfgcabneaaGreatDoorQDZWild
import Derived.Test.YtgdpbnfgcabneaaGreatDoorQWays
import Derived.Test.YtgdpbnfgcabneaaGreatDoorQSNew
import Derived.Test.YtgdpbnfgcabneaaGreatDoorQPath
import Derived.Test.YtgdpbnfgcabneaaGreatDoorQDQRule2
set_option maxRecDepth 100000
set_option maxHeartbeats 40000000
namespace Go.Proofs.YtgdpbnfgcabneaaGreatDoor
namespace Dz
open Go.RowKit Go.Shelf Go.Maps Ww Tw Kw Jw Xb Xw Yw
theorem idx_long (s:Bs) (h:8<s.length) (hs:s.length≤100000):IdxC s (Lib.indexAny s [32,9]):=fun w=>by
 have h116:(Tryz.prog.info? (Tryz.lays153_ren.t 116)).map (fun i=>(i.zero,i.size))=some (some (.agg (Array.replicate 256 (.bool false))),256):=by kernel_rfl
 refine(Any.strings_IndexAny_long Tryz.lays153 (zero_of_info h116).1 (zero_of_info h116).2 (Tw.str s) ⟨#[32,9]⟩ w (by decide) (by rw[zan];omega) (by rw[zan];omega) (by decide) (by
  intro j b hb
  have:=List.mem_of_getElem? hb
  rcases List.mem_cons.1 this with h | h
  ·subst h;decide
  ·rcases List.mem_cons.1 h with h | h
   ·subst h;decide
   ·cases h)).mono ?_
 rintro e w' ⟨rfl,rfl⟩
 refine⟨?_,((Below.refl _ w).alloc (Nat.le_refl _) _).alloc (by simp) _⟩
 rw[show (Tw.str s).data.toList=s from rfl]
def zeh (p:Bs):Bs:=kn 4++32 :: p
theorem wildB_idx (p:Bs):Lib.indexAny (zeh p) [32,9]=8:=by
 simp[zeh,kn,Lib.indexAny]
theorem wildB_drop (p:Bs) (hp:∀ c∈p,Wp.zaw c=false):Yp.zgs ((zeh p).drop 8)=p:=by
 have h1:(zeh p).drop 8=32 :: p:=rfl
 rw[h1,Yp.zgs]
 cases p with
 | nil=>rfl
 | cons c r=>simp[List.dropWhile,show Wp.zaw 32=true from rfl,hp c (by simp)]
section
variable {v0 v1:Value} {Y:List Nat} {I P:World→Prop}
theorem beg_wild (w:World) (F:Nat) (caps:Array Value) (p:Bs) (x:Nat×Nat) (L:List ByteArray) (hp:(36:UInt8)∉p) (hb:∀ c∈p,Wp.zaw c=false) (hf:Flat [41] (zeh p)) (hps:p.length≤80) (hx:Wp.items p=[x]) (hpx:Ww.part (Tw.str p) x=Tw.str p) (hL:(jnA L).length≤1048000) (hLn:L.length≤1000000)
  (hI:Abides I) (hP:Abides P) (hHI:Holds w.heap.size I) (hHP:Holds w.heap.size P) (hY:∀ i∈Y,i<w.heap.size) (hIw:I w)
  (hfind:∀ xb v3 v4 v5 W,ZAt xb v0 v1 (.func (.func F) #[] caps) v3 v4 v5 W 1→I W→w.heap.size≤W.heap.size→Calls Tryz.prog 261 #[.pointer (some ⟨xb,0,none⟩),.string (Tw.str p)] W fun e w'=>∃ v,e=.returned v∧Kept Y W w'∧P w'∧∃ lo,w'.ownsRow lo Ww.ST 1 v L.length (zbb L)) :
  BegC w v0 v1 (.func (.func F) #[] caps) (36 :: 40 :: (zeh p++[41])) Y (fun r W=>r=Tw.str (jnA L)∧P W):=by
 intro xb kb lb yb W hxb hC hkn hB
 have hxY:xb∉Y:=fun e=>by have:=hY xb e;omega
 have hI2:Abides fun W=>w.heap.size≤W.heap.size∧KnAt W kb 5∧I W :=
  Abides.and (fun W W' Z hk _ h=>Nat.le_trans h hk.size) ((kn_abides kb 5).and hI)
 have hW:=wildcard_z (xb:=xb) (v0:=v0) (v1:=v1) (v2:=.func (.func F) #[] caps) (v3:=.map (some kb)) (v4:=.map (some lb)) (v5:=.map (some yb)) (d:=1) p x L hp (by omega) hx hpx (by omega) (by omega) hL hLn
  (I:=fun W=>w.heap.size≤W.heap.size∧I W) (Abides.and (fun W W' Z hk _ h=>Nat.le_trans h hk.size) hI) hP w.heap.size
  (fun s W W' row h hg hr=>⟨Nat.le_trans h.1 hg.size,hHI s W W' row h.2 hg hr⟩) hHP hxY (fun W hC hi=>hfind xb _ _ _ W hC hi.2 hi.1)
 have h1:zvq xb v0 v1 (.func (.func F) #[] caps) (.map (some kb)) (.map (some lb)) (.map (some yb)) Y (fun W=>w.heap.size≤W.heap.size∧KnAt W kb 5∧I W) P 1 194 #[.pointer (some ⟨xb,0,none⟩),.string (Tw.str p)] (.string (Tw.str (jnA L))) :=
  fun W' hC' hi hy=>hW W' hi.1 hY hC' ⟨hi.1,hi.2.2⟩
 have hwl:(zeh p).length=9+p.length:=by simp[zeh,kn];omega
 have h2:=inside_z (zeh p) (jnA L) 8 (by omega) (by have:=idx_long (zeh p) (by omega) (by omega);rw[wildB_idx] at this;exact this) (by omega) (by omega) rfl (left_gen _ (by simp;omega)) hI2 (fun W h=>h.2.1) (by rw[wildB_drop p hb];exact h1)
 have h3:=zvr (zeh p) (jnA L) hf (by omega) hI2 h2
 have h4:=zus (d:=0) (40 :: (zeh p++[41])) (jnA L) (by simp;omega) (by omega) (by omega) (by omega) hI2 hP hxY h3
 refine(h4 W hC ⟨hB.size,hkn,hI.below hIw hB⟩ (fun i hi=>Nat.lt_of_lt_of_le (hY i hi) hB.size)).mono ?_
 rintro e w' ⟨rfl,_,hk,hp'⟩
 exact⟨_,rfl,hk,rfl,hp'⟩
end
end Dz
namespace Dg
open Go.RowKit Go.Maps Sw Dw
def zbm (p:ByteArray) (q:Bs) (L:List F):List ByteArray:=(L.map fun f=>str (way f.p q)).filter fun n=>Gm.zef (bs p) (bs n)
theorem globA_take {p:ByteArray} {q:Bs} {L:List F} {k:Nat} (h:k<L.length):zbm p q (L.take (k+1))=zbm p q (L.take k)++if Gm.zef (bs p) (way L[k].p q)=true then [str (way L[k].p q)] else []:=by
 unfold zbm
 rw[List.take_succ_eq_append_getElem h,List.map_append,List.filter_append]
 simp only [List.map_cons,List.map_nil,List.filter_cons,List.filter_nil,zas]
 rfl
def GlRel (w1:World) (p:ByteArray) (q:Bs) (L:List F) (v7 v14:Value) (wr:World):Prop :=
 ∃ (i m:Nat) (a:Option Addr) (cp:Nat),v14=.int .i64 i∧v7=.slice a m cp∧i≤L.length∧m=(zbm p q (L.take i)).length∧wr.ownsRow w1.heap.size ST 1 (.slice a m cp) m (strC (zbm p q (L.take i)))∧Below w1.heap.size w1 wr
theorem Glob_any (w:World) (m0:Int) (hm:w.cell? ⟨0,0,none⟩=some (.int .i64 m0)) (hw0:0<w.heap.size) {sb bm:Nat} {L:List F} {c:Int} (hS:StoreAt w sb bm L c) (hL:L.length≤100000) (hps:∀ f∈L,f.p.length≤100000) (q p:ByteArray) (hq:q.size≤100000) (hp:p.size≤100000) (hws:∀ f∈L,(way f.p (bs q)).length≤1000000) :
  Calls Tryz.prog 22 #[.pointer (some ⟨sb,0,none⟩),.string q,.string p] w fun e w'=>∃ v,e=.returned v∧w'.ownsRow w.heap.size ST 1 v (zbm p (bs q) L).length (strC (zbm p (bs q) L))∧Below w.heap.size w w':=by
 have HA:=Lib.hid (All_any w hS (by omega))
 have HT:=Lib.hid fun (W:World) (h:Below w.heap.size w W) (x:ByteArray) (hx:x.size≤100000)=>To_any W m0 ((h.cell (p:=⟨0,0,none⟩) hw0).trans hm) (Nat.lt_of_lt_of_le hw0 h.size) x q (by omega) (by omega)
 have HP:=Lib.hid fun (W:World) (s:ByteArray) (hs:s.size≤1000000)=>Gm.Path_any W p s (by omega) hs
 have HPs:=Lib.hid hps
 have HWs:=Lib.hid hws
 clear hS hps hm hws
 go_enter Tryz.func22,Tryz.ntmps22
 go_wp2_with fail
 refine HA.out.mono ?_
 rintro e w1 ⟨v,rfl,hF,⟨a1,c1,rfl⟩,B1⟩
 have HF:=Lib.hid hF
 have HB1:=Lib.hid B1
 clear hF B1 HA
 obtain⟨n,hn⟩:∃ n,L.length=n:=⟨_,rfl⟩
 have HN:=Lib.hid hn
 rw[hn] at HF hL ⊢
 clear hn
 go_wp2_with fail
 go_loopw [7,14] (fun v7 v14 wr=>GlRel w1 p (bs q) L v7 v14 wr) (fun _ v14 _=>n - (intOf v14).toNat)
 case atStart=>exact⟨0,0,none,0,rfl,rfl,Nat.zero_le _,rfl,World.ownsRow_nil _ _ _ _,Below.refl _ _⟩
 case round =>
  obtain⟨i,m,a,cp,rfl,rfl,hi,hml,hrow,hB⟩:=hrel
  have hws:=hB.size
  have HM:=Lib.hid hml
  have hmn:m≤100000:=by
   rw[hml]
   refine Nat.le_trans (List.length_filter_le _ _) ?_
   rw[List.length_map,List.length_take];have:=HN.out;omega
  clear hml
  by_cases hlt:i<n
  ·have hki:(i:Int)<(n:Int):=by omega
   have hLi:i<L.length:=by have:=HN.out;omega
   obtain⟨b,o,c1,hv,hb,hx⟩:=HF.out.resolve_left (fun e=>by have:=HN.out;rw[e.1] at this;simp at this;omega)
   have hpl:=HPs.out _ (List.getElem_mem hLi)
   have hwl:=HWs.out _ (List.getElem_mem hLi)
   obtain⟨x0,x1,x2,x3⟩:=hx i hLi
   have y0:=(hB.cell (p:=⟨b,o+i * 4,none⟩) hb).trans x0
   have y1:=(hB.cell (p:=⟨b,o+i * 4+1,none⟩) hb).trans x1
   have y2:=(hB.cell (p:=⟨b,o+i * 4+2,none⟩) hb).trans x2
   have y3:=(hB.cell (p:=⟨b,o+i * 4+3,none⟩) hb).trans x3
   obtain⟨rfl,hnn,rfl⟩:=(Value.slice.injEq ..).mp hv
   clear hnn hx x0 x1 x2 x3 hv
   have HTk:=Lib.hid (globA_take (p:=p) (q:=bs q) hLi)
   have hps:(str L[i].p).size≤100000:=by rw[←zax,zas];exact hpl
   have HBr:=Lib.hid (HB1.out.trans (hB.mono HB1.out.size))
   have HB:=Lib.hid hB
   have HRow:=Lib.hid hrow
   clear hB hrow hpl
   generalize L[i]=f at *
   rcases f with ⟨fp,ft,fc,fd⟩
   dsimp only at *
   have hbr:b<wr.heap.size:=by omega
   have HT1:=Lib.hid fun W h=>HT.out W h (str fp) hps
   go_wp2_with fail
   have hAl:=(HB.out.alloc HB.out.size (.cells #[.string (str fp),.string (str ft),.int .i64 fc,.bool fd] 29))
   refine(HT1.out _ (HBr.out.alloc HBr.out.size _)).mono ?_
   rintro e w3 ⟨rfl,B3⟩
   rw[zas]
   have HB3:=Lib.hid (hAl.trans (B3.mono hAl.size))
   have HR3:=Lib.hid (zae (HRow.out.alloc (.cells #[.string (str fp),.string (str ft),.int .i64 fc,.bool fd] 29)) B3)
   clear B3 hAl y0 y1 y2 y3
   have hys:(str (way fp (bs q))).size≤1000000:=by rw[←zax,zas];exact hwl
   have HPP:Hid (∀ W:World,Calls Tryz.prog 66 #[.string p,.string (str (way fp (bs q)))] W fun e w'=>e=.returned (.bool (Gm.zef (bs p) (way fp (bs q))))∧Below W.heap.size W w'):=Lib.hid fun W=>HP.out W (str (way fp (bs q))) hys
   go_wp2_with fail
   refine(HPP.out _).mono ?_
   rintro e w4 ⟨rfl,B4⟩
   have HB4:=Lib.hid (HB3.out.trans (B4.mono HB3.out.size))
   have HR4:=Lib.hid (zae HR3.out B4)
   clear B4 HPP
   by_cases hq:Gm.zef (bs p) (way fp (bs q))=true
   ·rw[if_pos hq] at HTk
    rw[hq]
    generalize str (way fp (bs q))=x at *
    have HLit:=Lib.hid (TlAt.lit w4 x)
    have HBa:=Lib.hid (HB4.out.alloc HB4.out.size (.cells #[.string x] ST))
    have HRa:=Lib.hid (HR4.out.alloc (.cells #[.string x] ST))
    have HLt:Hid (∀ j,(Value.slice a m cp).ownBlock=some j→w1.heap.size≤j):=Lib.hid fun j e=>(HRow.out.lt j e).1
    clear hq
    go_wp2_with (at_builtin;refine zfo rfl _ _ rfl w1.heap.size _ m (zbm p (bs q) (L.take i)) [x] rfl HRa.out HM.out.symm _ rfl HLit.out (by have:=HM.out;simp;omega) HBa.out.size ?_;intro v' w5 hown' hgrow;obtain⟨a7,c7,rfl⟩:=zga hown')
    have hB5:=HBa.out.grown hgrow HBa.out.size HLt.out
    rw[←HTk.out] at hown'
    go_roundw
    case rel=>exact⟨i+1,m+1,a7,c7,by go_num,rfl,by have:=HN.out;omega,by rw[HTk.out,List.length_append,←HM.out];rfl,hown',hB5⟩
    case measure=>simp[intOf];omega
   ·rw[if_neg hq,List.append_nil] at HTk
    rw[Bool.eq_false_iff.2 hq]
    clear hq
    go_wp2_with fail
    go_roundw
    case rel=>exact⟨i+1,m,a,cp,by go_num,rfl,by have:=HN.out;omega,by rw[HTk.out];exact HM.out,by rw[HTk.out];exact HR4.out,HB4.out⟩
    case measure=>simp[intOf];omega
  ·obtain rfl:i=n:=by have:=HN.out;omega
   have HRow:=Lib.hid hrow
   have HB:=Lib.hid hB
   clear hrow hB
   go_wp2_with fail
   go_ret
   have hf:(L.take i)=L:=List.take_of_length_le (by have:=HN.out;omega)
   have h:=HRow.out
   have hM:=HM.out
   rw[hf] at h hM
   rw[←hM]
   exact⟨_,rfl,zfy HB1.out.size h,HB1.out.trans (HB.out.mono HB1.out.size)⟩
end Dg
namespace Dq
open Go.RowKit Go.Maps Ww Tw Kw Jw Xb Xw Dz
theorem join2_no (w:World) (b:Nat) (hb:b=w.heap.size) (dir x:ByteArray) (hs:dir.size≤1000000∧x.size≤1000000) (h:Hid (Pt.join [bs dir,bs x]=none)) :
  Calls Tryz.prog 48 #[.slice (some ⟨b,0,none⟩) 2 2] (w.alloc (.cells #[.string dir,.string x] ST)) fun e w'=>e=.returned (.tuple #[.string ⟨#[]⟩,.int .i64 2])∧Below w.heap.size w w':=by
 subst hb
 have hl:w.heap.size<(w.alloc (.cells #[.string dir,.string x] ST)).heap.size:=by simp
 have hc:∀ j,j<[dir,x].length→(w.alloc (.cells #[.string dir,.string x] ST)).cell? ⟨w.heap.size,0+j,none⟩=some (.string ([dir,x][j]?.getD ByteArray.empty)):=fun j hj=>by
  rw[World.cell?_alloc_at _ _ _ _ (by simp)]
  match j,hj with
  | 0,_=>rfl
  | 1,_=>rfl
 have hv:Strs (w.alloc (.cells #[.string dir,.string x] ST)) (.slice (some ⟨w.heap.size,0,none⟩) 2 2) [dir,x]:=Or.inr ⟨w.heap.size,0,2,rfl,hl,hc⟩
 have ht:tot [dir,x]≤140737488355327:=by show (dir.size+1+(x.size+1+0):Nat)≤_;omega
 refine(Join_no _ _ [dir,x] hv (by show (2:Nat)≤1000000;decide) ht h).mono ?_
 rintro e w' ⟨he,B⟩
 exact⟨he,((Below.refl _ w).alloc (Nat.le_refl _) _).trans (B.mono (by simp))⟩
theorem infoST:(Tryz.prog.info? ST).map (fun i=>(i.zero,i.size,i.bytes))=some (some (.string ⟨#[]⟩),1,16):=by kernel_rfl
theorem slice_is {w:World} {B:Nat} {e:TypeId} {z:Nat} {v:Value} {n:Nat} {xs:List Value} (h:w.ownsRow B e z v n xs):∃ a k c,v=.slice a k c:=by
 rcases h.2 with ⟨h,_⟩ | ⟨g,cap,_,h,_⟩
 ·exact⟨_,_,_,h⟩
 ·exact⟨_,_,_,h⟩
section
variable {rb db tb ib kb:Nat} {au gv:Value} {w:World}
theorem ask_no (hr:w.heap[rb]?=some (.cells (rC db tb au gv ib kb) RT (0,0))) {dir:ByteArray} {tv pv cv gl:Value} (hd:w.heap[db]?=some (.cells (dC dir tb tv pv cv gl) DT (0,0))) (p:ByteArray) (hs:dir.size≤1000000∧p.size≤1000000) (h:Hid (Pt.join [bs dir,bs p]=none)) :
  Calls Tryz.prog 99 #[.pointer (some ⟨rb,0,none⟩),.string p] w fun e w'=>e=.returned (.tuple #[])∧Below w.heap.size w w':=by
 have HJ:=Lib.hid fun W b hb=>join2_no W b hb dir p hs h
 have c0:w.cell? ⟨rb,0,none⟩=some (.pointer (some ⟨db,0,none⟩)):=zaa hr rfl
 have d0:w.cell? ⟨db,0,none⟩=some (.string dir):=zaa hd rfl
 have hlt:=(Array.getElem?_eq_some_iff.1 hr).1
 have hlt2:=(Array.getElem?_eq_some_iff.1 hd).1
 clear hr hd h hs
 go_enter Tryz.func99,Tryz.ntmps99
 go_wp2_with fail
 refine(HJ.out w _ rfl).mono ?_
 rintro e w1 ⟨rfl,B1⟩
 have HB1:=Lib.hid B1
 clear B1 c0 d0
 go_wp2_with fail
 refine bodyPost_ret (results_none rfl _ _ _) rfl ?_
 exact⟨rfl,HB1.out⟩
theorem ask_yes (hr:w.heap[rb]?=some (.cells (rC db tb au gv ib kb) RT (0,0))) {dir:ByteArray} {tv pv cv:Value} (hd:w.heap[db]?=some (.cells (dC dir tb tv pv cv (.slice none 0 0)) DT (0,0))) (hK:Kw.MapAt UK w kb []) (p:ByteArray) (j:Bs) (hs:dir.size≤1000000∧p.size≤1000000) (h:Hid (Pt.join [bs dir,bs p]=some j)) (hj:j.length≤3000000) :
  Calls Tryz.prog 99 #[.pointer (some ⟨rb,0,none⟩),.string p] w fun e w'=>e=.returned (.tuple #[])∧∃ v,w'.heap[db]?=some (.cells (dC dir tb tv pv cv v) DT (0,0))∧w'.ownsRow w.heap.size ST 1 v 1 [.string (str j)]∧Kw.MapAt UK w' kb [(j,())]∧Kept [db,kb] w w':=by
 have HJ:=Lib.hid fun W b hb=>zoi W b hb dir p j hs h
 have nkr:kb≠rb:=hK.not_cells hr
 have nkd:kb≠db:=hK.not_cells hd
 have c0:w.cell? ⟨rb,0,none⟩=some (.pointer (some ⟨db,0,none⟩)):=zaa hr rfl
 have d0:w.cell? ⟨db,0,none⟩=some (.string dir):=zaa hd rfl
 have hlt:=(Array.getElem?_eq_some_iff.1 hr).1
 have hlt2:=(Array.getElem?_eq_some_iff.1 hd).1
 have HR:=Lib.hid hr
 have HD:=Lib.hid hd
 have HK:=Lib.hid hK
 have hjs:(str j).size≤maxLen:=by show j.toArray.size≤_;rw[List.size_toArray];unfold maxLen;omega
 clear hr hd h hs hK
 go_enter Tryz.func99,Tryz.ntmps99
 go_wp2_with fail
 refine(HJ.out w _ rfl).mono ?_
 rintro e w1 ⟨rfl,B1⟩
 have hr1:=(B1.block rb hlt).trans HR.out
 have hd1:=(B1.block db hlt2).trans HD.out
 have hm1:MOpt UK w1 (some kb) []:=HK.out.below B1
 have k3:w1.cell? ⟨rb,5,none⟩=some (.map (some kb)):=zaa hr1 rfl
 have HR1:=Lib.hid hr1
 have HD1:=Lib.hid hd1
 have HM1:=Lib.hid hm1
 have HB1:=Lib.hid B1
 have l1:=(Array.getElem?_eq_some_iff.1 hr1).1
 clear hr1 hd1 B1 c0 d0
 have hA:=(Below.refl _ w1).alloc (Nat.le_refl _) (.cells #[] 173)
 obtain⟨w2,hrun,hM2,ht2⟩:=put_run (K:=UK) (w:=w1.alloc (.cells #[] 173)) (L:=[]) (p:=j) (c:=()) ((show Kw.MapAt UK w1 kb [] from HM1.out).below hA) (by unfold maxLen;omega) (by decide)
 replace hrun:(Instr.mapUpdate 143 (.map (some kb)) (.string (str j)) (.agg #[])).run Tryz.prog (w1.alloc (.cells #[] 173))=.ok () w2:=hrun
 have hk2:Kept [kb] w1 w2:=((Kept.refl [kb] w1).alloc _).grown ht2.grown (fun r e=>by cases e;exact .inl (by simp))
 have hr2:=(hk2.block rb l1 (by simpa using fun e=>nkr e.symm)).trans HR1.out
 have hd2:=(hk2.block db (Array.getElem?_eq_some_iff.1 HD1.out).1 (by simpa using fun e=>nkd e.symm)).trans HD1.out
 have HR2:=Lib.hid hr2
 have HD2:=Lib.hid hd2
 have HM2:=Lib.hid hM2
 have HKK:=Lib.hid ((Kept.of_below (X:=[kb]) HB1.out).trans hk2)
 go_wp2_with (at_lookup;refine zii (K:=UK) _ rfl _ _ rfl rfl rfl (mb:=some kb) hm1 hjs (.agg #[]) false (Lib.hid ⟨rfl,rfl⟩) ?_)
 clear hrun hM2 ht2 hA hm1 k3 l1
 have q0:w2.cell? ⟨rb,0,none⟩=some (.pointer (some ⟨db,0,none⟩)):=zaa hr2 rfl
 have q5:w2.cell? ⟨db,5,none⟩=some (.slice none 0 0):=zaa hd2 rfl
 have lr2:=(Array.getElem?_eq_some_iff.1 hr2).1
 have ld2:=(Array.getElem?_eq_some_iff.1 hd2).1
 have HNE:Hid (rb≠db):=Lib.hid fun e=>by subst e;have h1:=hr2;rw[hd2] at h1;injection h1 with h1;injection h1 with h2 h3;revert h3;decide
 obtain⟨i0,hi,hz0,hz1,hz2⟩:=info_parts infoST
 have hT0:(fun (b:Bool) (W:World)=>W.cell? ⟨rb,0,none⟩=some (.pointer (some ⟨db,0,none⟩))∧(b=false→W.cell? ⟨db,5,none⟩=some (.slice none 0 0))) false w2.drew:=⟨q0,fun _=>q5⟩
 refine zew 16 (fun (b:Bool) (W:World)=>W.cell? ⟨rb,0,none⟩=some (.pointer (some ⟨db,0,none⟩))∧(b=false→W.cell? ⟨db,5,none⟩=some (.slice none 0 0))) (by kernel_rfl) ?_
 refine zaj (i:=0) [0,16] (v:=.pointer (some ⟨rb,0,none⟩)) (by rfl) rfl (by rfl) (by kernel_rfl) (by kernel_rfl) (by kernel_rfl) (by kernel_rfl) (by kernel_rfl) (fun c a w h=>h) (Or.inl ⟨by rfl,?_⟩) hT0 ?_
 ·rintro W hW;have h1:=hW.1;have h2:=hW.2 rfl;go_simp
 simp only [Act.put,List.setIfInBounds_toArray]
 refine zaj (i:=1) [1,16] (v:=.pointer (some ⟨rb,0,none⟩)) (by rfl) rfl (by rfl) (by kernel_rfl) (by kernel_rfl) (by kernel_rfl) (by kernel_rfl) (by kernel_rfl) (fun c a w h=>h) (Or.inl ⟨by rfl,?_⟩) hT0 ?_
 ·rintro W hW;have h1:=hW.1;have h2:=hW.2 rfl;go_simp
 simp only [Act.put]
 refine zaj (i:=2) [2,16] (v:=.pointer (some ⟨rb,0,none⟩)) (by rfl) rfl (by rfl) (by kernel_rfl) (by kernel_rfl) (by kernel_rfl) (by kernel_rfl) (by kernel_rfl) (fun c a w h=>h) (Or.inl ⟨by rfl,?_⟩) hT0 ?_
 ·rintro W hW;have h1:=hW.1;have h2:=hW.2 rfl;go_simp
 simp only [Act.put]
 refine zaj (i:=3) [3,16] (v:=.pointer (some ⟨db,0,none⟩)) (by rfl) rfl (by rfl) (by kernel_rfl) (by kernel_rfl) (by kernel_rfl) (by kernel_rfl) (by kernel_rfl) (fun c a w h=>h) (Or.inl ⟨by rfl,?_⟩) hT0 ?_
 ·rintro W hW;have h1:=hW.1;have h2:=hW.2 rfl;go_simp
 simp only [Act.put]
 refine zaj (i:=4) [4,16] (v:=.pointer (some ⟨rb,0,none⟩)) (by rfl) rfl (by rfl) (by kernel_rfl) (by kernel_rfl) (by kernel_rfl) (by kernel_rfl) (by kernel_rfl) (fun c a w h=>h) (Or.inl ⟨by rfl,?_⟩) hT0 ?_
 ·rintro W hW;have h1:=hW.1;have h2:=hW.2 rfl;go_simp
 simp only [Act.put]
 refine zaj (i:=5) [5,16] (v:=.pointer (some ⟨rb,0,none⟩)) (by rfl) rfl (by rfl) (by kernel_rfl) (by kernel_rfl) (by kernel_rfl) (by kernel_rfl) (by kernel_rfl) (fun c a w h=>h) (Or.inl ⟨by rfl,?_⟩) hT0 ?_
 ·rintro W hW;have h1:=hW.1;have h2:=hW.2 rfl;go_simp
 simp only [Act.put]
 refine zaj (i:=6) [6,16] (v:=.pointer (some ⟨rb,0,none⟩)) (by rfl) rfl (by rfl) (by kernel_rfl) (by kernel_rfl) (by kernel_rfl) (by kernel_rfl) (by kernel_rfl) (fun c a w h=>h) (Or.inl ⟨by rfl,?_⟩) hT0 ?_
 ·rintro W hW;have h1:=hW.1;have h2:=hW.2 rfl;go_simp
 simp only [Act.put]
 refine zaj (i:=7) [7,16] (v:=.pointer (some ⟨db,0,none⟩)) (by rfl) rfl (by rfl) (by kernel_rfl) (by kernel_rfl) (by kernel_rfl) (by kernel_rfl) (by kernel_rfl) (fun c a w h=>h) (Or.inl ⟨by rfl,?_⟩) hT0 ?_
 ·rintro W hW;have h1:=hW.1;have h2:=hW.2 rfl;go_simp
 simp only [Act.put]
 refine zaj (i:=8) [8,16] (v:=.pointer (some ⟨db,0,none⟩)) (by rfl) rfl (by rfl) (by kernel_rfl) (by kernel_rfl) (by kernel_rfl) (by kernel_rfl) (by kernel_rfl) (fun c a w h=>h) (Or.inl ⟨by rfl,?_⟩) hT0 ?_
 ·rintro W hW;have h1:=hW.1;have h2:=hW.2 rfl;go_simp
 simp only [Act.put]
 refine zaj (i:=9) [9,16] (v:=.pointer (some ⟨db,5,none⟩)) (by rfl) rfl (by rfl) (by kernel_rfl) (by kernel_rfl) (by kernel_rfl) (by kernel_rfl) (by kernel_rfl) (fun c a w h=>h) (Or.inl ⟨by rfl,?_⟩) hT0 ?_
 ·rintro W hW;have h1:=hW.1;have h2:=hW.2 rfl;go_simp
 simp only [Act.put]
 refine zaj (i:=10) [10,16] (v:=.slice none 0 0) (by rfl) rfl (by rfl) (by kernel_rfl) (by kernel_rfl) (by kernel_rfl) (by kernel_rfl) (by kernel_rfl) (fun c a w h=>h) (Or.inl ⟨by rfl,?_⟩) hT0 ?_
 ·rintro W hW;have h1:=hW.1;have h2:=hW.2 rfl;go_simp
 simp only [Act.put]
 refine zaj (i:=11) [11,16] (v:=.string (str j)) (by rfl) rfl (by rfl) (by kernel_rfl) (by kernel_rfl) (by kernel_rfl) (by kernel_rfl) (by kernel_rfl) (fun c a w h=>h) (Or.inl ⟨by rfl,?_⟩) hT0 ?_
 ·rintro W hW;have h1:=hW.1;have h2:=hW.2 rfl;go_simp
 simp only [Act.put]
 refine zbe (i:=12) (by kernel_rfl) rfl false (by rfl) (fun K hK=>?_)
 go_simp
 have hr2a:=zaf (W:=w2.drew) hr2 (.cells #[.string (str j)] ST)
 have hd2a:=zaf (W:=w2.drew) hd2 (.cells #[.string (str j)] ST)
 refine hK.out _ _ ⟨zaa hr2a rfl,fun _=>zaa hd2a rfl⟩ ?_
 clear hK K
 refine zbe (i:=13) (by kernel_rfl) rfl false (by rfl) (fun K hK=>?_)
 refine Mw.zdh rfl _ _ 27 rfl w.heap.size ST i0 _ 1 16 Tryz.underlying27 hi hz0 hz1 hz2 rfl (by decide) (.slice none 0 0) 0 [] (by simp[go_sem]) (World.ownsRow_nil _ _ _ _) ⟨w2.heap.size,0,none⟩ 1 1 [.string (str j)] (by simp[go_sem]) rfl (zbv _ #[.string (str j)] _ rfl) (by simp[Value.oneCell']) (by unfold maxLen;omega) (by omega) (by have:=HKK.out.size;have e:w2.drew.heap.size=w2.heap.size:=rfl;simp;omega) ?_
 intro v3 w3 hown hgrow hat
 obtain⟨a3,n3,c3,rfl⟩:=slice_is hown
 have hr3:=(hgrow.block rb (by have e:w2.drew.heap.size=w2.heap.size:=rfl;simp;omega) (fun e=>by cases e)).trans hr2a
 have hd3:=(hgrow.block db (by have e:w2.drew.heap.size=w2.heap.size:=rfl;simp;omega) (fun e=>by cases e)).trans hd2a
 have HR3:=Lib.hid hr3
 have HD3:=Lib.hid hd3
 have HO3:=Lib.hid hown
 have HK3:=Lib.hid (((HKK.out.drewN 1).alloc (.cells #[.string (str j)] ST)).grown hgrow (fun r e=>by cases e))
 have HM3:=Lib.hid (show Kw.MapAt UK w3 kb [(j,())] from (show Kw.MapAt UK w2 kb [(j,())] from HM2.out).block ((hgrow.block kb (by have e:w2.drew.heap.size=w2.heap.size:=rfl;have:=HM2.out.lt;simp;omega) (fun e=>by cases e)).trans (((Below.refl _ w2.drew).alloc (Nat.le_refl _) (.cells #[.string (str j)] ST)).block kb HM2.out.lt)))
 refine hK.out _ _ ⟨zaa hr3 rfl,fun _=>zaa hd3 rfl⟩ ?_
 clear hK K hown hgrow hat hr3 hd3 hr2a hd2a hr2 hd2 q0 q5 lr2 ld2 hT0
 refine zbe (i:=14) (by kernel_rfl) rfl false (by rfl) (fun K hK=>?_)
 go_simp
 refine hK.out _ _ ⟨zaa HR3.out rfl,fun _=>zaa HD3.out rfl⟩ ?_
 clear hK K
 refine zbe (i:=15) (by kernel_rfl) rfl false (by rfl) (fun K hK=>?_)
 go_simp
 refine hK.out _ _ ⟨zaa HR3.out rfl,fun _=>zaa HD3.out rfl⟩ ?_
 clear hK K
 refine zbe (i:=16) (by kernel_rfl) rfl true (by rfl) (fun K hK=>?_)
 have k33:w3.cell? ⟨db,5,none⟩=some (.slice none 0 0):=zaa HD3.out rfl
 have f33:=zad HD3.out 5
 have l33:=(Array.getElem?_eq_some_iff.1 HD3.out).1
 go_simp
 have hd4:=heap_set (i:=5) HD3.out (.slice a3 n3 c3)
 have hr4:=zde (i:=5) HR3.out HNE.out (.slice a3 n3 c3)
 refine hK.out _ _ ⟨zaa hr4 rfl,fun h=>by cases h⟩ ?_
 clear hK K hr4
 refine zet (by kernel_rfl) ?_ _
 have HD4:=Lib.hid hd4
 clear k33 f33 l33 hd4
 go_wp2_with fail
 go_end0
 refine⟨rfl,_,HD4.out,?_,HM3.out.setCell (p:=⟨db,5,none⟩) nkd _,(HK3.out.mono (by simp)).setCell (p:=⟨db,5,none⟩) (.inl (by simp)) _⟩
 refine Mw.zbk HO3.out fun g' hg'=>Below.heap_setCell _ _ _ _ (by
  show g'≠db
  have hge':w.heap.size≤g':=by
   rcases HO3.out.2 with ⟨h,_⟩ | ⟨g,_,_,h,hb,_⟩
   ·rw[h] at hg';cases hg'
   ·rw[h] at hg';cases hg';exact hb
  have:db<w.heap.size:=hlt2
  omega)
end
def Else (T:TypeId):Prop:=T≠XT∧T≠QT∧T≠Ww.U8∧T≠Xw.LT
theorem own_not {W:World} {b:Nat} {cs:Array Value} {T:TypeId} {fz:Nat×Nat} (hT:Else T) (h:W.heap[b]?=some (.cells cs T fz)) {Z:List Nat} (hz:∀ z∈Z,Dz.Own W z):b∉Z:=fun e=>by
 rcases hz b e with h1 | ⟨cs',T',fz',h1,h2⟩
 ·have:=(Array.getElem?_eq_some_iff.1 h).1;omega
 ·rw[h] at h1;injection h1 with h1;injection h1 with _ h3 _
  subst h3
  rcases h2 with h2 | h2 | h2 | h2
  ·exact hT.1 h2
  ·exact hT.2.1 h2
  ·exact hT.2.2.1 h2
  ·exact hT.2.2.2 h2
theorem map_not {W:World} {b:Nat} {es:Array MapEntry} {ck:Nat} (h:W.heap[b]?=some (.map es ck)) {Z:List Nat} (hz:∀ z∈Z,Dz.Own W z):b∉Z:=fun e=>by
 rcases hz b e with h1 | ⟨cs',T',fz',h1,h2⟩
 ·have:=(Array.getElem?_eq_some_iff.1 h).1;omega
 ·rw[h] at h1;cases h1
theorem zis {b:Nat} {cs:Array Value} {T:TypeId} {fz:Nat×Nat} (hT:Else T):Dz.Abides fun W=>W.heap[b]?=some (.cells cs T fz):=fun _W _W' _Z hk hz h=>(hk.block b (Array.getElem?_eq_some_iff.1 h).1 (own_not hT h hz)).trans h
theorem map_abide {α:Type} {K:Kind α} {b:Nat} {L:List (Bs×α)}:Dz.Abides fun W=>Kw.MapAt K W b L:=fun W W' Z hk hz h=>by
 obtain⟨es,ck,hh⟩:=Kw.MapAt.obj h
 exact h.block (hk.block b h.lt (map_not hh hz))
theorem row_abide {lo:Nat} {e:TypeId} {z:Nat} {v:Value} {n:Nat} {xs:List Value} (hT:Else e):Dz.Abides fun W=>W.ownsRow lo e z v n xs:=fun W W' Z hk hz h=>by
 rcases h.2 with ⟨hv,hn⟩ | ⟨g,cap,cur,hv,hb,hg,h1⟩
 ·exact⟨h.1,.inl ⟨hv,hn⟩⟩
 ·exact⟨h.1,.inr ⟨g,cap,cur,hv,hb,(hk.block g (Array.getElem?_eq_some_iff.1 hg).1 (own_not hT hg hz)).trans hg,h1⟩⟩
theorem zng {sb bm:Nat} {L:List Sw.F} {c:Int}:Dz.Abides fun W=>Sw.StoreAt W sb bm L c:=fun W W' Z hk hz h=>by
 have h1:=hk.block sb (Array.getElem?_eq_some_iff.1 h.cells).1 (own_not ⟨by decide,by decide,by decide,by decide⟩ h.cells hz)
 obtain⟨es,ck,hh,r⟩:=h.map.own
 have h2:=hk.block bm (Array.getElem?_eq_some_iff.1 hh).1 (map_not hh hz)
 exact⟨h1.trans h.cells,⟨⟨es,ck,h2.trans hh,r⟩,h.map.sorted⟩⟩
theorem zwc (p:Prop):Dz.Abides fun _=>p:=fun _ _ _ _ _ h=>h
structure Fi (sx dx sb bm:Nat) (dir:ByteArray) (L:List Sw.F) (c:Int) (m0:Int) (W:World):Prop where
 s:W.heap[sx]?=some (.cells #[.pointer (some ⟨sb,0,none⟩)] StP (0,0))
 d:W.heap[dx]?=some (.cells #[.string dir] ST (0,0))
 st:Sw.StoreAt W sb bm L c
 m:W.cell? ⟨0,0,none⟩=some (.int .i64 m0)
 lt:0<W.heap.size
structure Bd (dir p:ByteArray) (L:List Sw.F):Prop where
 len:L.length≤100000
 ps:∀ f∈L,f.p.length≤100000
 q:dir.size≤100000
 p:p.size≤100000
 ws:∀ f∈L,(way f.p (bs dir)).length≤1000000
theorem env1_any (w:World) {sx dx sb bm:Nat} {dir p:ByteArray} {L:List Sw.F} {c m0:Int} (h:Fi sx dx sb bm dir L c m0 w) (hb:Bd dir p L) :
  Calls Tryz.prog 59 #[.string p,.pointer (some ⟨sx,0,none⟩),.pointer (some ⟨dx,0,none⟩)] w fun e w'=>∃ v,e=.returned v∧w'.ownsRow w.heap.size ST 1 v (Dg.zbm p (bs dir) L).length (zbb (Dg.zbm p (bs dir) L))∧Below w.heap.size w w':=by
 have HG:=Lib.hid (Dg.Glob_any w m0 h.m h.lt h.st hb.len hb.ps dir p hb.q hb.p hb.ws)
 have c0:w.cell? ⟨sx,0,none⟩=some (.pointer (some ⟨sb,0,none⟩)):=zaa h.s rfl
 have c1:w.cell? ⟨dx,0,none⟩=some (.string dir):=zaa h.d rfl
 have l0:=(Array.getElem?_eq_some_iff.1 h.s).1
 have l1:=(Array.getElem?_eq_some_iff.1 h.d).1
 clear h hb
 go_enter Tryz.func59,Tryz.ntmps59
 go_wp2_with fail
 refine HG.out.mono ?_
 rintro e w1 ⟨v,rfl,ho,B1⟩
 have H1:=Lib.hid (And.intro ho B1)
 clear ho B1
 go_wp2_with fail
 go_ret
 exact⟨v,rfl,H1.out.1,H1.out.2⟩
theorem enter44 (args:Array Value) (w:World):(callFunc 59 args).run Tryz.prog w=.ok (.enter 59 args) w:=by kernel_rfl
theorem enter65 (args:Array Value) (w:World):(callFunc 98 args).run Tryz.prog w=.ok (.enter 98 args) w:=by kernel_rfl
theorem start1_any (w:World) {rx fx sx dx rb:Nat} {p:ByteArray} (hrx:w.heap[rx]?=some (.cells #[.pointer (some ⟨rb,0,none⟩)] RpT (0,0))) (hfx:w.heap[fx]?=some (.cells #[gV sx dx] FuT (0,0))) (Y:List Nat) (hY:∀ i∈Y,i<w.heap.size∧i≠fx) (P:World→Prop) (R:Value→World→World→Prop)
  (HA:Calls Tryz.prog 99 #[.pointer (some ⟨rb,0,none⟩),.string p] w fun e w'=>e=.returned (.tuple #[])∧Kept Y w w'∧P w')
  (HE:∀ W,Kept Y w W→P W→Calls Tryz.prog 59 #[.string p,.pointer (some ⟨sx,0,none⟩),.pointer (some ⟨dx,0,none⟩)] W fun e w'=>∃ v,e=.returned v∧R v W w'∧Below W.heap.size W w') :
  Calls Tryz.prog 98 #[.string p,.pointer (some ⟨rx,0,none⟩),.pointer (some ⟨fx,0,none⟩)] w fun e w'=>∃ v W,e=.returned v∧Kept Y w W∧P W∧R v W w'∧Below W.heap.size W w':=by
 have HA:=Lib.hid HA
 have HE:=Lib.hid HE
 have HY:=Lib.hid hY
 have c0:w.cell? ⟨rx,0,none⟩=some (.pointer (some ⟨rb,0,none⟩)):=zaa hrx rfl
 have l0:=(Array.getElem?_eq_some_iff.1 hrx).1
 have HF:=Lib.hid hfx
 clear hrx hfx hY
 go_enter Tryz.func98,Tryz.ntmps98
 go_wp2_with fail
 refine HA.out.mono ?_
 rintro e w1 ⟨rfl,hk,hp⟩
 have hf1:=(hk.block fx (Array.getElem?_eq_some_iff.1 HF.out).1 (fun e=>(HY.out fx e).2 rfl)).trans HF.out
 have H1:=Lib.hid (And.intro hk hp)
 have c1:w1.cell? ⟨fx,0,none⟩=some (.func (.func 59) #[] #[.pointer (some ⟨sx,0,none⟩),.pointer (some ⟨dx,0,none⟩)]):=zaa hf1 rfl
 have l1:=(Array.getElem?_eq_some_iff.1 hf1).1
 clear hk hp hf1 c0 HA
 go_wp2_with fail
 refine(HE.out w1 H1.out.1 H1.out.2).mono ?_
 rintro e w2 ⟨v,rfl,hr,B2⟩
 have H2:=Lib.hid (And.intro hr B2)
 clear hr B2
 go_wp2_with fail
 go_ret
 exact⟨v,w1,rfl,H1.out.1,H1.out.2,H2.out.1,H2.out.2⟩
section
variable {xb:Nat} {v0 v1 v3 v4 v5:Value} {w:World} {d:Int}
theorem find_z (F:Nat) (caps:Array Value) (p:ByteArray) (heq:(binOp .eql FuT (.func (.func F) #[] caps) .nilFunc).run Tryz.prog w=.ok (.bool false) w) (hen:∀ args w,(callFunc F args).run Tryz.prog w=.ok (.enter F args) w) (hC:ZAt xb v0 v1 (.func (.func F) #[] caps) v3 v4 v5 w d) (R:Value→World→Prop)
  (HF:Calls Tryz.prog F (#[.string p]++caps) w fun e w'=>∃ v,e=.returned v∧R v w') :
  Calls Tryz.prog 261 #[.pointer (some ⟨xb,0,none⟩),.string p] w fun e w'=>∃ v,e=.returned v∧R v w':=by
 have HF:=Lib.hid HF
 have c2:=hC.cells.2.2.1
 have hlt:=hC.lt
 clear hC
 go_enter Tryz.func261,Tryz.ntmps261
 go_wp2_with fail
 refine HF.out.mono ?_
 rintro e w1 ⟨v,rfl,hr⟩
 have HR:=Lib.hid hr
 clear hr HF
 go_wp2_with fail
 go_ret
 exact⟨v,rfl,HR.out⟩
end
end Dq
end Go.Proofs.YtgdpbnfgcabneaaGreatDoor

/- Part of the proof. -/
import Derived.Test.YtgdpbnfgcabneaaGreatDoorQSCells
import Derived.StillTailTactics
set_option maxRecDepth 100000
set_option maxHeartbeats 40000000
namespace Go.Proofs.YtgdpbnfgcabneaaGreatDoor
namespace Sw
open Go.RowKit Go.Maps Go.Shelf
attribute [local go_sem] Oper.semAt_some
def Came (L:List F) (left:Lit→Bool) (xs:List F):Prop:=xs.Nodup∧∀ f,f∈xs↔f∈L∧left (.string f.p)=false
theorem Came.start (L:List F):Came L (Maps.has (Sp.mapOf L)) []:=by
 refine⟨List.nodup_nil,fun f=>⟨fun h=>(by cases h),fun ⟨h,h2⟩=>?_⟩⟩
 rw[Sp.zdm,Option.isSome_eq_false_iff,Option.isNone_iff_eq_none] at h2
 exact absurd rfl (Sp.zgg.1 h2 f h)
theorem Came.step {L:List F} {left:Lit→Bool} {xs:List F} {x:List UInt8} {f:F} (h:Came L left xs) (hs:Sp.Sorted L) (hl:left (.string x)=true) (hat:∀ zd,(Sp.mapOf L).atKey (.string x) zd=Sp.fD f) :
  Came L (fun z=>left z && !z.sameKey (.string x)) (xs++[f])∧f∈L∧f.p=x:=by
 have h1:(Sp.get L x).isSome=true:=by rw[←Sp.zdm];exact has_true_of_atKey hat
 obtain⟨g,hg⟩:=Option.isSome_iff_exists.1 h1
 have e:f=g:=(Sp.zmo ((Sp.zcu hg .nil).symm.trans (hat .nil))).symm
 subst e
 obtain⟨m1,m2⟩:=(Sp.zgm hs).1 hg
 refine⟨⟨List.nodup_append.2 ⟨h.1,by simp,fun a ha b hb=>?_⟩,fun k=>?_⟩,m1,m2⟩
 ·rintro rfl
  obtain rfl:a=f:=by simpa using hb
  have:=(h.2 a).1 ha
  rw[m2,hl] at this;cases this.2
 ·rw[List.mem_append,h.2 k,List.mem_singleton]
  constructor
  ·rintro (⟨k1,k2⟩ | rfl)
   ·exact⟨k1,by show (left (.string k.p) && _)=false;rw[k2];rfl⟩
   ·exact⟨m1,by show (_ && !(Lit.string k.p).sameKey (.string x))=false;rw[m2,Sp.same_str];simp⟩
  ·rintro ⟨k1,k2⟩
   have k2:(left (.string k.p) && !(Lit.string k.p).sameKey (.string x))=false:=k2
   by_cases hk:k.p=x
   ·exact .inr (Sp.zep hs k1 m1 (hk.trans m2.symm))
   ·refine .inl ⟨k1,?_⟩
    rw[Sp.same_str,show (k.p == x)=false by simpa using hk] at k2
    simpa using k2
theorem Came.all {L:List F} {left:Lit→Bool} {xs:List F} (h:Came L left xs) (hs:Sp.Sorted L) (hl:∀ k,left k=false):xs.Perm L:=by
 refine(List.perm_ext_iff_of_nodup h.1 ?_).2 fun f=>by rw[h.2 f,hl];simp
 exact hs.imp fun {a b} hab e=>Sp.zjs hab (congrArg Sp.F.p e)
theorem elem_inv (v:Value) (y:DataW Unit×List MemPlace) (h:zid v=some y):∃ f:F,v=Value.agg #[.string (str f.p),.string (str f.t),.int .i64 f.c,.bool f.d]:=by
 obtain⟨f,hf,_⟩:=zfx h
 exact⟨f,hf⟩
theorem elem_of {f:F} {y:DataW Unit×List MemPlace} (h:zid (Value.agg #[.string (str f.p),.string (str f.t),.int .i64 f.c,.bool f.d])=some y):y=(Sp.fD f,[]):=by
 have:=(zgu f).symm.trans h
 exact(Option.some.inj this).symm
theorem vals1_in {L:List F} {bm:Nat} (n:Nat) (hn1:1≤n) (l B:Nat) (J Jx:List F→World→Prop)
  (hY:∀ pre x X,J pre X→pre.length<L.length→YieldAt Fence.wide (n - 1) Tryz.prog l #[.agg #[.string (str x.p),.string (str x.t),.int .i64 x.c,.bool x.d]] X fun e Y =>
   (e=.returned (.bool true)∧J (pre++[x]) Y∧KeepsWalks X Y)∨(e=.returned (.bool false)∧Jx (pre++[x]) Y))
  (W:World) (hJ:AbidesFrom W.heap.size J) (hm:W.cell? ⟨B,0,none⟩=some (.map (some bm))) (hM:MapAt W bm L) (h0:J [] W) :
  CallsIn Fence.wide n Tryz.prog 203 #[.func (.yield l) #[] #[],.pointer (some ⟨B,0,none⟩)] W fun e Y=>(∃ v,e=.returned v) ∧
   ((∃ xs,xs.Perm L∧J xs Y)∨(∃ pre,True∧Jx pre Y)):=by
 have hs:=hM.sorted
 refine callsIn_of_wp Tryz.func203 rfl trivial ?_ rfl
 simp only [Tryz.ntmps203,List.size_toArray,List.length_cons,List.length_nil,Nat.reduceAdd,Nat.reduceSub,Array.replicate_succ,Array.replicate_zero,List.push_toArray,List.append_toArray,List.nil_append,List.cons_append]
 gi_wp2_with (first
  | (gi_at_range;refine wpListIn_range_own _ rfl _ 178 rfl 9 29 key Tryz.underlying178 _ bm _ _ rfl hM.own ?_;intro w0 hrg0 hg0 hs0)
  | gi_in)
 go_frame
 gi_loopw [4] (fun _ wr=>∃ (left:Lit→Bool) (cnt:Nat) (xs:List F),wr.ranges Tryz.prog 9 zid bm W.heap.size L.length (Sp.mapOf L) left cnt∧xs.length+cnt≤L.length∧Came L left xs∧J xs wr)
  (fun _ wr=>wr.rangeLeft bm W.heap.size)
 case atStart =>
  exact⟨_,_,[],hrg0,by rw[Sp.zcv];simp,Came.start L,hJ [] W w0 none h0 hg0 (fun r e=>by cases e)⟩
 case round =>
  obtain⟨left,cnt,xs,hrg,hcs,hC,hJs⟩:=hrel
  gi_wp2_with (first
   | (gi_at_next;refine wpListIn_next_ranges _ rfl _ rfl 9 key zid encStr (fun f:F=>Value.agg #[.string (str f.p),.string (str f.t),.int .i64 f.c,.bool f.d]) (fun key kl hk=>by obtain⟨x,hx,_⟩:=Maps.keyOf_str Tryz.underlying9 hk;exact⟨x,hx⟩) elem_inv bm W.heap.size _ _ _ _ rfl hrg ?_ ?_)
   | gi_in)
  ·intro hc0 hl0
   gi_wp2
   go_end0
   exact⟨⟨_,rfl⟩,.inl ⟨xs,hC.all hs hl0,hJs⟩⟩
  ·intro x f kl yd yp w2 cnt2 hkey hlk hv hat hrg2 hlt hg2 hs2 hen
   obtain⟨x',ex,rfl,_⟩:=Maps.keyOf_str Tryz.underlying9 hkey
   obtain rfl:x=x':=encStr_inj ex
   obtain rfl:yd=Sp.fD f:=(Prod.mk.inj (elem_of hv)).1
   have hC2:=(hC.step hs hlk hat).1
   have hJ2:J xs w2:=hJ _ wr w2 (some W.heap.size) hJs hg2 (fun r e=>by cases e;exact⟨Nat.le_refl _,hrg.iter_walk⟩)
   have hJ3:=hJ _ w2 (w2.alloc (.cells #[.string (str f.p),.string (str f.t),.int .i64 f.c,.bool f.d] 29)) none hJ2 (World.grownBy_alloc w2 _ none) (fun r e=>by cases e)
   have hrg3:=hrg2.alloc (.cells #[.string (str f.p),.string (str f.t),.int .i64 f.c,.bool f.d] 29)
   obtain⟨fn,tmps,assign,body,hy,hR⟩:=hY xs f _ hJ3 (by omega)
   clear hs2
   gi_wp2
   refine hR.mono ?_
   rintro e W3 (⟨rfl,hJ4,hk3⟩ | ⟨rfl,hJx3⟩)
   ·have hrg4:=hrg3.of_walks hk3
    gi_wp2
    go_roundw
    case rel=>exact⟨_,cnt2,xs++[f],hrg4,by simp;omega,hC2,hJ4⟩
    case measure=>rw[hrg4.left_eq,hrg.left_eq];exact hlt
   ·gi_wp2
    refine bodyPost_ret (results_none rfl _ _ _) rfl ?_
    exact⟨⟨_,rfl⟩,.inr ⟨_,trivial,hJx3⟩⟩
theorem Values_any (n:Nat) (w:World) (bm:Nat) :
  CallsIn Fence.wide n Tryz.prog 119 #[.map (some bm)] w fun e w' =>
   e=.returned (.func (.func 203) #[] #[.pointer (some ⟨w.heap.size,0,none⟩)])∧w'=w.alloc (.cells #[.map (some bm)] 178):=by
 refine callsIn_of_wp Tryz.func119 rfl trivial ?_ rfl
 simp only [Tryz.ntmps119,List.size_toArray,List.length_cons,List.length_nil,Nat.reduceAdd,Nat.reduceSub,Array.replicate_succ,Array.replicate_zero,List.push_toArray,List.append_toArray,List.nil_append,List.cons_append]
 gi_wp2
 go_ret
 exact⟨rfl,rfl⟩
theorem vals_stops {L:List F} {bm:Nat} (n:Nat) (hn1:1≤n) (B:Nat) (w:World) (hB:B<w.heap.size) (hm:w.cell? ⟨B,0,none⟩=some (.map (some bm))) (hM:MapAt w bm L) :
  SeqStopsA Fence.wide n Tryz.prog 203 #[.pointer (some ⟨B,0,none⟩)] (fun x:F=>#[.agg #[.string (str x.p),.string (str x.t),.int .i64 x.c,.bool x.d]]) (fun xs=>xs.Perm L) (fun _=>True) L.length w :=
 fun l J Jx W hW hJ _ hY h0=>vals1_in n hn1 l B J Jx hY W hJ ((hW.cell (p:=⟨B,0,none⟩) hB).trans hm) (hM.below hW) h0
def fCs (l:List F):List Value:=l.flatMap fC
theorem fCs_snoc (l:List F) (x:F):fCs (l++[x])=fCs l++fC x:=by simp[fCs]
theorem zhc (l:List F):(fCs l).length=l.length * 4:=by
 induction l with
 | nil=>rfl
 | cons a r ih=>simp only [fCs,List.flatMap_cons,List.length_append,List.length_cons] at ih ⊢;rw[ih];simp[fC];omega
theorem infoF:(Tryz.prog.info? 29).map (fun i=>(i.zero,i.size,i.bytes))=some (some (.agg #[.string ByteArray.empty,.string ByteArray.empty,.int .i64 0,.bool false]),4,48):=by kernel_rfl
theorem zht (wr:World) (a b c d:Value) (T:TypeId):∀ (j:Nat) (u:Value),[a,b,c,d][j]?=some u→(wr.alloc (.cells #[a,b,c,d] T)).cell? ((⟨wr.heap.size,0,none⟩:Addr).add j)=some u:=by
 intro j u hj
 rw[Addr.add_lit,World.cell?_alloc_at _ _ _ _ rfl]
 match j,hj with
 | 0,hj=>simpa using hj
 | 1,hj=>simpa using hj
 | 2,hj=>simpa using hj
 | 3,hj=>simpa using hj
theorem zre {L:List F} {bm:Nat} (n:Nat) (hn:4≤n) (B:Nat) (w:World) (hB:B<w.heap.size) (hm:w.cell? ⟨B,0,none⟩=some (.map (some bm))) (hM:MapAt w bm L) (hL:L.length≤1000000) :
  CallsIn Fence.wide n Tryz.prog 267 #[.slice none 0 0,.func (.func 203) #[] #[.pointer (some ⟨B,0,none⟩)]] w fun e w' =>
   ∃ (v:Value) (xs:List F),e=.returned v∧xs.Perm L∧w'.ownsRow w.heap.size 29 4 v xs.length (fCs xs)∧Below w.heap.size w w':=by
 obtain⟨i0,hi,hz0,hz1,hz2⟩:=info_parts infoF
 have eg:∀ args w,(callFunc 203 args).run Tryz.prog w=.ok (.enter 203 args) w:=enters_of Tryz.func203 (by kernel_rfl) rfl
 refine callsIn_of_wp_marks Tryz.func267 rfl trivial ?_ rfl
 simp only [Tryz.ntmps267,List.size_toArray,List.length_cons,List.length_nil,Nat.reduceAdd,Nat.reduceSub,Array.replicate_succ,Array.replicate_zero,List.push_toArray,List.append_toArray,List.nil_append,List.cons_append]
 gi_wp2
 have hB0:=(Below.refl w.heap.size w).alloc (Nat.le_refl _) (.cells #[.slice none 0 0] 22)
 have hv0:=Boxed.new w 22 (.slice none 0 0)
 have hz:(w.alloc (.cells #[.slice none 0 0] 22)).heap.size=w.heap.size+1:=by simp
 generalize w.alloc (.cells #[.slice none 0 0] 22)=W0 at *
 have hm0:W0.cell? ⟨B,0,none⟩=some (.map (some bm)):=(hB0.cell (p:=⟨B,0,none⟩) hB).trans hm
 refine wpIn_rangeFunc_ownH (w0:=W0) (N:=L.length) rfl (by omega) (gf:=203) (lb:=#[.pointer (some ⟨B,0,none⟩)]) rfl trivial eg
  (vals_stops (n - 1) (by omega) B W0 (by omega) hm0 (hM.below hB0)) walksK_t walksK_b (Below.refl _ _) (fun _=>rfl)
  (fun pre W=>(∃ v,Boxed W w.heap.size 22 v∧W.ownsRow w.heap.size 29 4 v pre.length (fCs pre)∧True)∧Below w.heap.size w W) (fun _ _ _=>False)
  (OwnFrom.and (Own.from (holdsRow_own w.heap.size w.heap.size 22 29 4 (fun pre:List F=>pre.length) fCs (fun _ _=>True)) _) (ownFrom_below (Nat.le_refl _) (by omega)))
  (fun _ _ _ _ _ hs _ _=>hs) ⟨⟨_,hv0,World.ownsRow_nil _ _ _ _,trivial⟩,hB0⟩
  (fun x a' W=>∃ Bx,w.heap.size<Bx∧W.heap[Bx]?=some (.cells #[.string (str x.p),.string (str x.t),.int .i64 x.c,.bool x.d] 29 (0,0)) ∧
   a'={ tmps:=#[.slice none 0 0,.func (.func 203) #[] #[.pointer (some ⟨B,0,none⟩)],.pointer (some ⟨w.heap.size,0,none⟩),undef,.slice none 0 0,.pointer (some ⟨Bx,0,none⟩),.func (.func 203) #[] #[.pointer (some ⟨B,0,none⟩)],.agg #[.string (str x.p),.string (str x.t),.int .i64 x.c,.bool x.d],undef,undef,undef,undef,undef],defers:=[] })
  ?_ ?_ ?_ ?_ ?_
 ·rintro x a' _ W W' row ⟨Bx,h1,h2,h3⟩ hg hr
  refine⟨Bx,h1,?_,h3⟩
  refine(hg.block Bx (Array.getElem?_eq_some_iff.1 h2).1 fun e=>?_).trans h2
  obtain⟨_,o,ho,hc⟩:=hr Bx e.symm
  rw[h2] at ho;cases ho;cases hc
 ·rintro l pre x W K ⟨⟨v,hv,hrow,_⟩,hb⟩ hK
  have hsz:=hb.size
  gi_wp2
  refine hK _ _ ((KeepsOthers.alloc _ _).from _) (KeepsWalks.alloc _ _) ⟨⟨v,hv.alloc _,hrow.alloc _,trivial⟩,hb.alloc hb.size _⟩ ⟨W.heap.size,hv.lt,World.alloc_heap_new W _,rfl⟩
 ·rintro l pre x a' W hl ⟨r,hr⟩ ⟨⟨v,hv,hrow,_⟩,hb⟩ ⟨Bx,hBx,hX,rfl⟩ hlt
  have hvc:=hv.cell
  have x0:W.cell? ⟨Bx,0,none⟩=some (.string (str x.p)):=by simp[World.cell?,hX]
  have x1:W.cell? ⟨Bx,1,none⟩=some (.string (str x.t)):=by simp[World.cell?,hX]
  have x2:W.cell? ⟨Bx,2,none⟩=some (.int .i64 x.c):=by simp[World.cell?,hX]
  have x3:W.cell? ⟨Bx,3,none⟩=some (.bool x.d):=by simp[World.cell?,hX]
  clear hX
  gi_wp2_with (gi_at_builtin;refine wpListIn_append_own _ rfl _ _ 22 rfl w.heap.size 29 i0 (.agg #[.string ByteArray.empty,.string ByteArray.empty,.int .i64 0,.bool false]) 4 48 Tryz.underlying22 hi hz0 hz1 hz2 rfl (by decide) _ _ _ rfl (hrow.alloc _) ⟨W.heap.size,0,none⟩ 1 1 [.string (str x.p),.string (str x.t),.int .i64 x.c,.bool x.d] rfl rfl (zht _ _ _ _ _ _) (by simp[Value.oneCell']) (by unfold maxLen;omega) (by omega) (by have:=hb.size;simp;omega) ?_;intro v' w1 hown' hgrow _;obtain⟨g',cap',rfl⟩:=ownsRow_succ hown';obtain⟨hv1,hv2,hr2,hk2,hb2⟩:=hv.appended (by decide) hrow hb.size (Nat.le_refl _) hown' hgrow;have hc1:=hv1.cell;have hf1:=hv1.frozen)
  exact⟨hk2.from _,hk2.walks,⟨_,hv2,by rw[fCs_snoc,List.length_append];exact hr2,trivial⟩,hb.trans hb2⟩
 ·rintro D xs W hD hS ⟨⟨v,hv,hrow,_⟩,hb⟩ hK
  have hvc:=hv.cell
  gi_wp2
  refine⟨by simp,.inl ⟨_,_,rfl,run_takeDeferred hK,?_⟩⟩
  exact⟨_,results_tmp rfl _ _ _,v,xs,rfl,hS,ownsRow_putObj hrow _ hK rfl,hb.trans (belowK_b (w:=w) (Nat.le_refl _) W D _ _ (by omega) hK rfl rfl)⟩
 ·rintro D c pre W _ _ h _
  exact h.elim
end Sw
namespace Sw
open Go.RowKit Go.Maps
def rootF:F:=⟨[46],[],0,true⟩
def getR (L:List F) (p:List UInt8):Option F:=if p=[46] then some rootF else Sp.get L p
theorem zix {L:List F} {p:List UInt8} (h:p≠[46]):getR L p=Sp.get L p:=if_neg h
theorem zvv (w:World) {sb bm:Nat} {L:List F} {c:Int} (p:ByteArray) {f:F} (hS:StoreAt w sb bm L c) (hp:p.size≤maxLen) (hf:Hid (getR L (bs p)=some f)) :
  Calls Tryz.prog 27 #[.pointer (some ⟨sb,0,none⟩),.string p] w fun e w'=>e=.returned (.tuple #[fV f,.bool true])∧Below w.heap.size w w':=by
 by_cases h0:(p.toList == [46])=true
 ·have hr:rootF=f:=by have:=hf.out;rw[znj h0] at this;exact Option.some.inj this
  subst hr
  go_enter Tryz.func27,Tryz.ntmps27
  go_wp2
  exact bodyPost_ret (v:=.tuple #[fV rootF,.bool true]) (by simp[results,Tryz.results27,go_sem];rfl) rfl ⟨rfl,((Below.refl _ w).alloc (Nat.le_refl _) _)⟩
 ·have h0':(p.toList == [46])=false:=by simpa using h0
  have hg:Hid (Sp.get L (bs p)=some f):=Lib.hid (by have:=hf.out;rwa[zix (zls h0')] at this)
  have c1:=hS.c1
  have hlt:=hS.lt
  have hM:=hS.map
  clear h0 hf hS
  go_enter Tryz.func27,Tryz.ntmps27
  go_wp2_with (at_lookup;refine zoa _ rfl _ _ rfl rfl rfl (hM.alloc _) hp hg ?_)
  exact bodyPost_ret (v:=.tuple #[fV f,.bool true]) (by simp[results,Tryz.results27,go_sem];rfl) rfl ⟨rfl,(((Below.refl _ w).alloc (Nat.le_refl _) _).alloc (by simp) _)⟩
theorem Get_no (w:World) {sb bm:Nat} {L:List F} {c:Int} (p:ByteArray) (hS:StoreAt w sb bm L c) (hp:p.size≤maxLen) (hf:Hid (getR L (bs p)=none)) :
  Calls Tryz.prog 27 #[.pointer (some ⟨sb,0,none⟩),.string p] w fun e w'=>e=.returned (.tuple #[fV noF,.bool false])∧Below w.heap.size w w':=by
 have hne:bs p≠[46]:=fun e=>by have:=hf.out;rw[e] at this;cases this
 have h0':(p.toList == [46])=false:=by rw[Lib.toList_data,beq_eq_false_iff_ne];exact hne
 have hg:Hid (Sp.get L (bs p)=none):=Lib.hid (by have:=hf.out;rwa[zix hne] at this)
 have c1:=hS.c1
 have hlt:=hS.lt
 have hM:=hS.map
 clear hf hS hne
 go_enter Tryz.func27,Tryz.ntmps27
 go_wp2_with (at_lookup;refine zpb _ rfl _ _ rfl rfl rfl (hM.alloc _) hp hg ?_)
 exact bodyPost_ret (v:=.tuple #[fV noF,.bool false]) (by simp[results,Tryz.results27,go_sem];rfl) rfl ⟨rfl,(((Below.refl _ w).alloc (Nat.le_refl _) _).alloc (by simp) _)⟩
def ReadPost (w:World) (t:List UInt8) (code:Int) (e:Ending) (w':World):Prop:=e=.returned (.tuple #[.string (str t),.int .i64 code])∧Below w.heap.size w w'
def zsl (r:Option F):List UInt8×Int:=match r with
 | none=>([],3)
 | some f=>if f.d then ([],4) else (f.t,0)
theorem Read_any (w:World) {sb bm:Nat} {L:List F} {c:Int} (p:ByteArray) (r:Option F) (hS:StoreAt w sb bm L c) (hp:p.size≤maxLen) (hf:Hid (getR L (bs p)=r)) :
  Calls Tryz.prog 49 #[.pointer (some ⟨sb,0,none⟩),.string p] w (ReadPost w (zsl r).1 (zsl r).2):=by
 cases r with
 | none =>
  go_enter Tryz.func49,Tryz.ntmps49
  go_wp2_with fail
  refine(Get_no _ p hS hp hf).mono ?_
  rintro e w1 ⟨rfl,B1⟩
  unfold fV
  go_wp2
  go_ret2
  exact⟨rfl,B1.alloc B1.size _⟩
 | some f =>
  obtain⟨fp,ft,fc,fd⟩:=f
  cases fd with
  | true =>
   go_enter Tryz.func49,Tryz.ntmps49
   go_wp2_with fail
   refine(zvv _ p hS hp hf).mono ?_
   rintro e w1 ⟨rfl,B1⟩
   unfold fV
   go_wp2
   go_ret2
   exact⟨rfl,B1.alloc B1.size _⟩
  | false =>
   go_enter Tryz.func49,Tryz.ntmps49
   go_wp2_with fail
   refine(zvv _ p hS hp hf).mono ?_
   rintro e w1 ⟨rfl,B1⟩
   unfold fV
   go_wp2
   go_ret2
   exact⟨rfl,B1.alloc B1.size _⟩
theorem zqr (s:List UInt8) (h:1≤s.length):(dirL s).length≤s.length:=by
 unfold dirL
 split
 ·rw[List.length_take];omega
 ·simpa using h
theorem znk {s:List UInt8} (h:zaq s=true):s≠[]:=by
 intro e;subst e
 unfold zaq at h
 have h:=of_decide_eq_true h
 cases h
def IntPost (w:World) (n:Int) (e:Ending) (w':World):Prop:=e=.returned (.int .i64 n)∧Below w.heap.size w w'
theorem zdw (w:World) (p:ByteArray) (b:Bool) (hs:p.size≤1000000) (h:Hid (zaq (bs p)=b)) :
  Calls Tryz.prog 47 #[.string p] w fun e w'=>e=.returned (.bool b)∧Below w.heap.size w w':=by
 have:=zok w p (by omega)
 rwa[h.out] at this
theorem dir_is (w:World) (p d:ByteArray) (hs:p.size≤1000000) (h:Hid (dirL (bs p)=bs d)) :
  Calls Tryz.prog 166 #[.string p] w fun e w'=>e=.returned (.string d)∧w=w':=by
 have:=Dir_any w p hs
 rwa[h.out,zfh] at this
theorem file_new (w:World) (p t:List UInt8) (c:Int) (d:Bool) :
  (w.alloc (.cells #[.string (str p),.string (str t),.int .i64 c,.bool d] 29)).cell? ⟨w.heap.size,0,none⟩=some (.string (str p)) ∧
  (w.alloc (.cells #[.string (str p),.string (str t),.int .i64 c,.bool d] 29)).cell? ⟨w.heap.size,1,none⟩=some (.string (str t)) ∧
  (w.alloc (.cells #[.string (str p),.string (str t),.int .i64 c,.bool d] 29)).cell? ⟨w.heap.size,2,none⟩=some (.int .i64 c) ∧
  (w.alloc (.cells #[.string (str p),.string (str t),.int .i64 c,.bool d] 29)).cell? ⟨w.heap.size,3,none⟩=some (.bool d):=by
 refine⟨?_,?_,?_,?_⟩<;>rw[World.cell?_alloc_at _ _ _ _ rfl]<;>rfl
structure St where
 L:List F
 c:Int
def OpPost (w:World) (sb bm:Nat) (r:St×Int) (e:Ending) (w':World):Prop:=e=.returned (.int .i64 r.2)∧StoreAt w' sb bm r.1.L r.1.c∧Kept [sb,bm] w w'
structure Fine (s:St):Prop where
 sorted:Sp.Sorted s.L
 c0:0≤s.c
 c1:s.c<4611686018427387904
 len:s.L.length≤4096
 text:∀ f∈s.L,f.t.length≤1048576
 path:∀ f∈s.L,f.p.length≤100000
end Sw
end Go.Proofs.YtgdpbnfgcabneaaGreatDoor

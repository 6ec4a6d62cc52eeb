/- Part of the proof. -/
import Derived.Test.YtgdpbnfgcabneaaGreatDoorQDZWords
import Derived.Test.YtgdpbnfgcabneaaGreatDoorQXIns
set_option maxRecDepth 100000
set_option maxHeartbeats 40000000
namespace Go.Proofs.YtgdpbnfgcabneaaGreatDoor
namespace Dz
open Go.RowKit Go Ww
def RecKeep (n0:Nat) (W Y:World):Prop:=∀ (k:Nat) (o:Obj),n0≤k→W.heap[k]?=some o→o.isCells=false→Y.heap[k]?=some o
def bodyEndsR {α:Type} (n0:Nat) (Kp:World→World→Prop) (I:List α→World→Prop) (xs:List α) (W:World):Exit→Act→World→Prop
 | .normal,_,Y=>RecKeep n0 W Y∧Kp W Y∧I xs Y
 | _,_,_=>False
theorem range_rec {α:Type} {n:Nat} {P:Program} {g:Operand} {ps:Array Tmp} {assign body:Code} {Q:Exit→Act→World→Prop} {a:Act} {w:World}
  (h1:1≤n) {gf:Nat} {lb:Array Value} (hg:a.eval g=.func (.func gf) #[] lb) (eg:∀ args w,(callFunc gf args).run P w=.ok (.enter gf args) w)
  {encs:α→Array Value} {Mine Kp:World→World→Prop} {S Sp:List α→Prop} (hseq:Iters (n - 1) P gf lb encs Mine Kp S Sp w)
  (hMine:∀ X Y (k:Nat) (o:Obj),Mine X Y→X.heap[k]?=some o→o.isCells=false→Y.heap[k]?=some o)
  (hKt:∀ A B C:World,Kp A B→Kp B C→Kp A C) (hKb:∀ (W:World) (l:Nat) (o o':Obj),w.heap.size≤l→W.heap[l]?=some o→o.isCells=false→Kp W (W.putObj l o')) (hps:∀ x,(encs x).size=ps.size)
  (I:List α→World→Prop) (hI:OwnFrom w.heap.size I) (hIm:∀ s X Y,I s X→Mine X Y→I s Y) (h0:I [] w) (a₁:α→Act)
  (hassign:∀ (l:Nat) (x:α) (W:World) (K:Act→World→Prop),K (a₁ x) W →
   assign.wpIn (Fence.wide.inRound l) (n - 1 - 1) P (Exit.then K (fun _ _ _=>False)) { tmps:=(ps.zip (encs x)).foldl (fun t (p,v)=>t.setIfInBounds p v) a.tmps,defers:=[] } W)
  (hbody:∀ (l:Nat) (pre:List α) (x:α) (W:World),I pre W→Sp (pre++[x])→body.wpIn (Fence.wide.inRound l) (n - 1 - 1) P (bodyEndsR w.heap.size Kp I (pre++[x]) W) (a₁ x) W)
  (hdone:∀ (D:Nat) (xs:List α) (W:World),w.heap.size≤D→S xs→I xs W→W.heap[D]?=some (.deferred (some []))→Q .normal { a with defers:={ target:=.collected D,args:=#[] } :: a.defers } W) :
  (Code.rangeFunc g ps assign body).wpIn Fence.wide n P Q a w:=by
 apply wpIn_rangeFunc
 intro fn hfn
 let R:LoopState→Option Code→Obj:=fun st pe=>.loop { state:=st,pending:=pe,fn:=fn,tmps:=a.tmps,params:=ps,assign:=assign,body:=body,defers:=w.heap.size }
 let D:=w.heap.size
 let L:=w.heap.size+1
 let W1:=(w.alloc (.deferred (some []))).alloc (R .ready none)
 have sz:W1.heap.size=w.heap.size+2:=by simp[W1]
 have atL:W1.heap[L]?=some (R .ready none):=by
  have:=World.alloc_heap_new (w.alloc (.deferred (some []))) (R .ready none)
  rw[World.size_alloc] at this;exact this
 have atD:W1.heap[D]?=some (.deferred (some [])):=(Below.heap_alloc _ _ _ (by simp[D])).trans (World.alloc_heap_new w _)
 have start:I [] W1:=hI.alloc _ (hI.alloc _ h0)
 have low:Below w.heap.size w W1:=((Below.refl _ w).alloc (Nat.le_refl _) _).alloc (by simp) _
 let J:List α→World→Prop:=fun pre W=>I pre W∧W.heap[L]?=some (R .ready none)∧W.heap[D]?=some (.deferred (some []))
 let Jx:List α→World→Prop:=fun _ _=>False
 refine⟨L,[{ target:=.collected D,args:=#[] }],W1,{ target:=.fn (.func gf) lb,args:=#[.func (.yield L) #[] #[]] },W1,gf,#[.func (.yield L) #[] #[]]++lb,W1,
  run_enterLoop_outer _ _ _ _ _,?_,fun _ _=>trivial,?_,fun _=>h1,?_⟩
 ·simp only [resolve,hg]
  simp[go_sem]
 ·simp[invoke,go_sem,eg]
 refine(hseq L J Jx W1 low ?_ ?_ ⟨start,atL,atD⟩).mono ?_
 ·rintro s X Y ⟨i,il,id⟩ m
  exact⟨hIm s X Y i m,hMine X Y L _ m il rfl,hMine X Y D _ m id rfl⟩
 ·
  rintro pre x X ⟨i,il,id⟩ hsp
  have hy:=run_yield (P:=P) (args:=encs x) il (hps x)
  refine⟨_,_,_,_,hy,roundIn_of_wpIn hfn (hassign L x X _ ⟨_,run_beginRound il rfl,?_⟩)⟩
  have ltL:L<X.heap.size:=(Array.getElem?_eq_some_iff.1 il).1
  generalize hX2:X.putObj L (.loop { ({ state:=.ready,pending:=none,fn:=fn,tmps:=a.tmps,params:=ps,assign:=assign,body:=body,defers:=w.heap.size }:Loop) with state:=.busy })=X2
  have bL:X2.heap[L]?=some (R .busy none):=by rw[←hX2];exact World.putObj_heap_same ltL
  have bD:X2.heap[D]?=some (.deferred (some [])):=by rw[←hX2];exact(World.putObj_heap_other (by simp only [D,L];omega)).trans id
  have bK:Kp X X2:=by rw[←hX2];exact hKb _ _ _ _ (by simp only [L];omega) il rfl
  have bI:I pre X2:=by rw[←hX2];exact hI.putObj _ i (by simp only [L];omega) il rfl
  refine wpIn_mono (hbody L pre x X2 bI hsp) ?_
  rintro e a3 X3 hp
  cases e with
  | normal =>
   obtain⟨ko,kk,i3⟩:=hp
   have l3:=ko L _ (by simp only [L];omega) bL rfl
   have d3:=ko D _ (Nat.le_refl _) bD rfl
   refine⟨_,_,run_endRound none l3,.inl ⟨rfl,⟨hI.putObj _ i3 (by simp only [L];omega) l3 rfl,World.putObj_heap_same (Array.getElem?_eq_some_iff.1 l3).1,(World.putObj_heap_other (by simp only [D,L];omega)).trans d3⟩,?_⟩⟩
   exact hKt _ _ _ (hKt _ _ _ bK kk) (hKb _ _ _ _ (by simp only [L];omega) l3 rfl)
  | ret=>exact hp.elim
  | exit id=>exact hp.elim
  | goto t=>exact hp.elim
  | panic ch=>exact hp.elim
  | outgrown=>exact hp.elim
 ·
  rintro e X2 ⟨⟨v,rfl⟩,(⟨xs,hS,i,il,id⟩ | ⟨pre,hSp,hf⟩)⟩
  ·exact⟨none,_,run_endLoop il (by simp),hdone D xs _ (Nat.le_refl _) hS (hI.putObj _ i (by simp only [L];omega) il rfl) ((World.putObj_heap_other (by simp only [D,L];omega)).trans id)⟩
  ·exact hf.elim
end Dz
namespace Dz
open Go.RowKit Go.Maps Ww Tw Kw Jw Xb Xw
def Own (W:World) (z:Nat):Prop:=W.heap.size≤z∨∃ cs T fz,W.heap[z]?=some (.cells cs T fz)∧(T=XT∨T=QT∨T=Ww.U8∨T=Xw.LT)
def Abides (P:World→Prop):Prop:=∀ W W' Z,Kept Z W W'→(∀ z∈Z,Own W z)→P W→P W'
theorem Abides.below {P:World→Prop} (h:Abides P) {W W':World} (hP:P W) (hB:Below W.heap.size W W'):P W':=h W W' [] (Kept.of_below hB) (by simp) hP
theorem Abides.and {P Q:World→Prop} (h:Abides P) (k:Abides Q):Abides fun W=>P W∧Q W:=fun W W' Z hk hz hp=>⟨h W W' Z hk hz hp.1,k W W' Z hk hz hp.2⟩
theorem kn_abides (b n:Nat):Abides fun W=>Yw.KnAt W b n:=fun W W' Z hk hz hp=>hp.block (hk.block _ hp.lt fun e=>by
 rcases hz b e with h | ⟨cs,T,fz,h,_⟩
 ·have:=hp.lt;omega
 ·obtain⟨es,clock,hh,_⟩:=hp
  rw[h] at hh;cases hh)
theorem zry {W:World} {b k B:Nat} {l:Bs} {pv bv:Value} {cs:Array Value} (h:BAt W QT b k B l pv bv cs):∀ z∈b :: bv.ownBlock.toList,Own W z:=by
 intro z hz
 rcases List.mem_cons.1 hz with rfl | hz
 ·exact .inr ⟨_,_,_,h.cells,.inr (.inl rfl)⟩
 ·rcases h.own.2 with ⟨hv,_⟩ | ⟨g,cap,cur,hv,_,hg,_⟩
  ·rw[hv] at hz;simp[Value.ownBlock] at hz
  ·rw[hv] at hz;simp[Value.ownBlock] at hz;subst hz
   exact .inr ⟨_,_,_,hg,.inr (.inr (.inl rfl))⟩
section
variable (xb:Nat) (v0 v1 v2 v3 v4 v5:Value) (Y:List Nat) (I P:World→Prop)
def zvq (d:Int) (f:Nat) (args:Array Value) (r:Value):Prop:=∀ w,ZAt xb v0 v1 v2 v3 v4 v5 w d→I w→(∀ i∈Y,i<w.heap.size) →
 Calls Tryz.prog f args w fun e w'=>e=.returned r∧ZAt xb v0 v1 v2 v3 v4 v5 w' d∧Kept (xb :: Y) w w'∧P w'
structure Zk (w W:World) (d:Int):Prop where
 lx:xb<w.heap.size
 cx:ZAt xb v0 v1 v2 v3 v4 v5 W d
 k:Kept (xb :: Y) w W
end
section
variable {xb:Nat} {v0 v1 v2 v3 v4 v5:Value} {Y:List Nat} {I P:World→Prop} {w W W':World} {d:Int}
theorem Zk.refl (h:ZAt xb v0 v1 v2 v3 v4 v5 w d):Zk xb v0 v1 v2 v3 v4 v5 Y w w d:=⟨h.lt,h,Kept.refl _ _⟩
theorem Zk.fresh {Z:List Nat} (h:Zk xb v0 v1 v2 v3 v4 v5 Y w W d) (hk:Kept Z W W') (hZ:∀ i∈Z,w.heap.size≤i):Zk xb v0 v1 v2 v3 v4 v5 Y w W' d :=
 ⟨h.lx,h.cx.kept hk (fun e=>by have:=hZ xb e;have:=h.lx;omega),⟨hk.os.trans h.k.os,hk.tape.trans h.k.tape,hk.output.trans h.k.output,Nat.le_trans h.k.size hk.size,fun i hi hx=>(hk.block i (Nat.lt_of_lt_of_le hi h.k.size) (fun e=>by have:=hZ i e;omega)).trans (h.k.block i hi hx)⟩⟩
theorem Zk.below (h:Zk xb v0 v1 v2 v3 v4 v5 Y w W d) (hB:Below W.heap.size W W'):Zk xb v0 v1 v2 v3 v4 v5 Y w W' d:=h.fresh (Kept.of_below (X:=[]) hB) (by simp)
theorem Zk.deep (h:Zk xb v0 v1 v2 v3 v4 v5 Y w W d) (e:Int):Zk xb v0 v1 v2 v3 v4 v5 Y w (W.setCell ⟨xb,6,none⟩ (.int .i64 e)) e :=
 ⟨h.lx,heap_set (i:=6) h.cx _,h.k.trans ((Kept.refl _ W).setCell (.inl (by simp)) _)⟩
theorem Zk.call {d':Int} (h:Zk xb v0 v1 v2 v3 v4 v5 Y w W d) (hC:ZAt xb v0 v1 v2 v3 v4 v5 W' d') (hk:Kept (xb :: Y) W W'):Zk xb v0 v1 v2 v3 v4 v5 Y w W' d':=⟨h.lx,hC,h.k.trans hk⟩
theorem own_x (h:ZAt xb v0 v1 v2 v3 v4 v5 W d):Own W xb:=.inr ⟨_,_,_,h,.inl rfl⟩
theorem Abides.deep (hP:Abides P) (h:ZAt xb v0 v1 v2 v3 v4 v5 W d) (hp:P W) (e:Int):P (W.setCell ⟨xb,6,none⟩ (.int .i64 e)) :=
 hP W _ [xb] ((Kept.refl _ W).setCell (.inl (by simp)) _) (fun z hz=>by rw[List.mem_singleton.1 hz];exact own_x h) hp
theorem zus (R V:Bs) (hr:R.length≤1000) (hv:V.length≤1048576) (h1:0≤d) (hd:d<60) (hI:Abides I) (hP:Abides P) (hYx:xb∉Y)
  (HR:zvq xb v0 v1 v2 v3 v4 v5 Y I P (d+1) 197 #[.pointer (some ⟨xb,0,none⟩),.string (str R)] (.tuple #[.string (str V),.string (str [])])) :
  zvq xb v0 v1 v2 v3 v4 v5 Y I P d 116 #[.pointer (some ⟨xb,0,none⟩),.string (str (36 :: R))] (.string (str V)):=by
 intro w hC hIw hYw
 have hlt:=hC.lt
 have c6:=hC.cells.2.2.2.2.2.2
 have f6:=zad hC 6
 have hO1:=(Zk.refl (Y:=Y) hC).deep (d+1)
 have c61:(w.setCell ⟨xb,6,none⟩ (.int .i64 (d+1))).cell? ⟨xb,6,none⟩=some (.int .i64 (d+1)):=hO1.cx.cells.2.2.2.2.2.2
 have HB:=Lib.hid (res_new (w.setCell ⟨xb,6,none⟩ (.int .i64 (d+1))))
 have hsz:(w.setCell ⟨xb,6,none⟩ (.int .i64 (d+1))).heap.size=w.heap.size:=by simp[World.setCell]
 have HO:=Lib.hid (hO1.below ((Below.refl _ _).alloc (Nat.le_refl _) (.cells #[.pointer none,.slice none 0 0] QT)))
 have HI:=Lib.hid (hI.below (hI.deep hC hIw (d+1)) ((Below.refl _ _).alloc (Nat.le_refl _) (.cells #[.pointer none,.slice none 0 0] QT)))
 rw[hsz] at HB
 have hdd:¬ (60:Int)<d+1:=by omega
 have hss:(str (36 :: R)).size≤1000000:=by rw[zan];simp;omega
 have HCut:=Lib.hid fun W=>zmw W (str (36 :: R)) hss 36 [] R (by rw[zam];rfl) (by simp)
 have HR:=Lib.hid HR
 have HII:=Lib.hid hI
 have HPP:=Lib.hid hP
 have HYW:=Lib.hid hYw
 have HYX:=Lib.hid hYx
 have hvs:(str V).size≤1048576:=by rw[zan];exact hv
 generalize str (36 :: R)=sv at *
 clear hC hO1 hss hI hP hIw hYw hYx
 go_enter Tryz.func116,Tryz.ntmps116
 go_wp2_with fail
 refine wp_loop_rounds 2 ?_
 rw[rounds_succ]
 go_wp2_with fail
 generalize (w.setCell ⟨xb,6,none⟩ (.int .i64 (d+1))).alloc (.cells #[.pointer none,.slice none 0 0] QT)=W0 at *
 refine(HCut.out _).mono ?_
 rintro e w1 ⟨rfl,B1⟩
 have HO1:=Lib.hid (HO.out.below B1)
 have HI1:=Lib.hid (HII.out.below HI.out B1)
 have HB1:=Lib.hid (HB.out.below B1)
 clear HB HO HI B1 HCut
 have HA:=Lib.hid (zgr w1 HB1.out (str []) (by simp only [List.length_nil];rw[zan];simp) HB1.out.lt)
 go_wp2_with fail
 refine HA.out.mono ?_
 rintro e w2 ⟨rfl,bv,hB2,hK2⟩
 rw[zam,List.nil_append] at hB2
 have HI2:=Lib.hid (HII.out _ _ _ hK2 (zry HB1.out) HI1.out)
 have HO2:=Lib.hid (HO1.out.fresh hK2 (by simp[Value.ownBlock]))
 have HB2:=Lib.hid hB2
 clear hB2 hK2 HA HB1 HO1 HI1
 go_wp2_with fail
 refine(HR.out _ HO2.out.cx HI2.out (fun i hi=>Nat.lt_of_lt_of_le (HYW.out i hi) HO2.out.k.size)).mono ?_
 rintro e w3 ⟨rfl,hC3,hK3,hP3⟩
 have HO3:=Lib.hid (HO2.out.call hC3 hK3)
 have hYn:w.heap.size∉xb :: Y:=fun e=>by
  rcases List.mem_cons.1 e with e | e
  ·omega
  ·have:=HYW.out _ e;omega
 have hYm:∀ i∈xb :: Y,i<w.heap.size+1:=fun i hi=>by
  rcases List.mem_cons.1 hi with rfl | e
  ·omega
  ·have:=HYW.out _ e;omega
 have HB3:=Lib.hid (HB2.out.kept hK3 hYn hYm)
 have HP3:=Lib.hid hP3
 have HA:=Lib.hid (zgr w3 HB3.out (str V) (by simp only [List.length_nil];omega) (by have:=HB3.out.lt;omega))
 clear hC3 hK3 HB2 HO2 HR HI2 hP3
 go_wp2_with fail
 refine HA.out.mono ?_
 rintro e w4 ⟨rfl,bv4,hB4,hK4⟩
 rw[zam,List.nil_append] at hB4
 have HP4:=Lib.hid (HPP.out _ _ _ hK4 (zry HB3.out) HP3.out)
 have HO4:=Lib.hid (HO3.out.fresh hK4 (by
  intro i hi
  rcases List.mem_cons.1 hi with rfl | hi
  ·exact Nat.le_refl _
  ·have:=HB3.out.fresh i hi;omega))
 have HB4:=Lib.hid hB4
 have HCut:=Lib.hid fun W=>zqb W (str []) 36 (by rw[zam];simp)
 clear hB4 hK4 HA HB3 HO3 HP3
 go_wp2_with fail
 rw[rounds_succ]
 go_wp2_with fail
 refine(HCut.out _).mono ?_
 rintro e w5 ⟨rfl,B5⟩
 have HO5:=Lib.hid (HO4.out.below B5)
 have HB5:=Lib.hid (HB4.out.below B5)
 have HP5:=Lib.hid (HPP.out.below HP4.out B5)
 have HA:=Lib.hid (zgr w5 HB5.out (str []) (by rw[zan];simp only [List.length_nil];omega) (by have:=HB5.out.lt;omega))
 clear HB4 HO4 B5 HCut HP4
 go_wp2_with fail
 refine HA.out.mono ?_
 rintro e w6 ⟨rfl,bv6,hB6,hK6⟩
 rw[zam,List.append_nil] at hB6
 have HP6:=Lib.hid (HPP.out _ _ _ hK6 (zry HB5.out) HP5.out)
 have HO6:=Lib.hid (HO5.out.fresh hK6 (by
  intro i hi
  rcases List.mem_cons.1 hi with rfl | hi
  ·exact Nat.le_refl _
  ·have:=HB5.out.fresh i hi;omega))
 have HB6:=Lib.hid hB6
 have g6:=HO6.out.cx.cells.2.2.2.2.2.2
 have k6:=zad HO6.out.cx 6
 have hl6:=HO6.out.cx.lt
 have hwr:IntKind.i64.wrap (d+1 - 1)=d:=by rw[show d+1 - 1=d by omega];exact IntWalk.i64_in _ (by omega)
 clear hB6 hK6 HA HB5 HO5 HP5
 go_wp2_with fail
 have HP7:=Lib.hid (HPP.out.deep HO6.out.cx HP6.out d)
 have HO7:=Lib.hid (HO6.out.deep d)
 have HB7:=Lib.hid (HB6.out.kept ((Kept.refl [xb] w6).setCell (p:=⟨xb,6,none⟩) (.inl (by simp)) (.int .i64 d)) (by simp;omega) (by simp;omega))
 generalize w6.setCell ⟨xb,6,none⟩ (.int .i64 d)=w7 at *
 refine(zeq _ HB7.out).mono ?_
 rintro e w8 ⟨rfl,hK8⟩
 have HP8:=Lib.hid (HPP.out _ _ _ hK8 (fun z hz=>zry HB7.out z (List.mem_cons_of_mem _ hz)) HP7.out)
 have HO8:=Lib.hid (HO7.out.fresh hK8 (fun i hi=>by have:=HB7.out.fresh i hi;omega))
 clear HO7 HB7 HB6 HO6 hK8 g6 k6 HP6 HP7
 go_wp2_with fail
 go_ret
 exact⟨rfl,HO8.out.cx,HO8.out.k,HP8.out⟩
theorem zvr (N V:Bs) (hN:Flat [41] N) (hl:N.length≤100) (hI:Abides I)
  (HI:zvq xb v0 v1 v2 v3 v4 v5 Y I P d 265 #[.pointer (some ⟨xb,0,none⟩),.string (str N)] (.string (str V))) :
  zvq xb v0 v1 v2 v3 v4 v5 Y I P d 197 #[.pointer (some ⟨xb,0,none⟩),.string (str (40 :: (N++[41])))] (.tuple #[.string (str V),.string (str [])]):=by
 intro w hC hIw hYw
 have HI:=Lib.hid HI
 have HO:=Lib.hid (Zk.refl (Y:=Y) hC)
 have HK:=Lib.hid fun W=>WCut_yes W N [] [41] 41 hN (by decide) (by simp;omega) (by decide)
 have HIW:=Lib.hid hIw
 have HII:=Lib.hid hI
 have HYW:=Lib.hid hYw
 rw[show str [41]=⟨#[41]⟩ from rfl] at HK
 have e1:(str (40 :: (N++[41]))).extract 1 (str (40 :: (N++[41]))).size=str (N++[41]):=zar (by rw[zbs,zam,zam];rfl)
 rw[←e1] at HK
 have hs0:0<(str (40 :: (N++[41]))).size:=by rw[zan];simp
 have hs1:1≤(str (40 :: (N++[41]))).size:=hs0
 have hsm:(str (40 :: (N++[41]))).size≤1000:=by rw[zan];simp;omega
 have q0:(str (40 :: (N++[41])))[0]=40:=rfl
 have qe:=emp_is (l:=40 :: (N++[41])) (by intro h;cases h)
 have qe2:=emp_no (l:=40 :: (N++[41])) (by intro h;cases h)
 have q36:(((str (40 :: (N++[41])))[0].toNat:Int) == 36)=false:=by rw[q0];decide
 have q40:(((str (40 :: (N++[41])))[0].toNat:Int) == 40)=true:=by rw[q0];decide
 clear hC e1 q0 hN hIw hI hYw
 generalize str (40 :: (N++[41]))=sv at *
 go_enter Tryz.func197,Tryz.ntmps197
 go_wp2_with fail
 refine(HK.out _).mono ?_
 rintro e w1 ⟨rfl,B1⟩
 have HO1:=Lib.hid (HO.out.below B1)
 have HI1:=Lib.hid (HII.out.below HIW.out B1)
 have qc:(((41:UInt8).toNat:Int) == 0)=false:=by decide
 clear HK HO B1 q36 q40 qe qe2
 go_wp2_with fail
 refine(HI.out _ HO1.out.cx HI1.out (fun i hi=>Nat.lt_of_lt_of_le (HYW.out i hi) HO1.out.k.size)).mono ?_
 rintro e w4 ⟨rfl,hC4,hK4,hP4⟩
 have HO4:=Lib.hid (HO1.out.call hC4 hK4)
 have HP4:=Lib.hid hP4
 clear hC4 hK4 HO1 HI hP4
 go_wp2_with fail
 go_ret2
 exact⟨rfl,HO4.out.cx,HO4.out.k,HP4.out⟩
end
open Go.Shelf
attribute [local go_sem] Oper.semAt_some
def jnA:List ByteArray→Bs
 | []=>[]
 | x :: r=>by8 x++r.flatMap fun y=>32 :: by8 y
theorem jnA_snoc (l:List ByteArray) (x:ByteArray):jnA (l++[x])=jnA l++(if decide (l≠[])=true then [32] else [])++by8 x:=by
 cases l with
 | nil=>simp[jnA]
 | cons y r=>simp[jnA,List.flatMap_append]
theorem jnA_take {l:List ByteArray} {k:Nat} (h:k<l.length):jnA (l.take (k+1))=jnA (l.take k)++(if decide (k≠0)=true then [32] else [])++by8 l[k]:=by
 rw[List.take_succ_eq_append_getElem h,jnA_snoc]
 congr 2
 cases k with
 | zero=>simp
 | succ k=>simp;intro e;rw[e] at h;simp at h
theorem jnA_mono (l:List ByteArray) (k:Nat):(jnA (l.take k)).length≤(jnA l).length:=by
 induction k with
 | zero=>simp[jnA]
 | succ k ih =>
  by_cases h:k<l.length
  ·have e:l=l.take (k+1)++l.drop (k+1):=(List.take_append_drop _ _).symm
   have hm:∀ a b:List ByteArray,(jnA a).length≤(jnA (a++b)).length:=fun a b=>by
    cases a with
    | nil=>simp[jnA]
    | cons y r=>simp[jnA,List.flatMap_append]
   exact Nat.le_trans (hm _ (l.drop (k+1))) (by rw[←e];exact Nat.le_refl _)
  ·rw[List.take_of_length_le (by omega)];exact Nat.le_refl _
def Holds (n0:Nat) (P:World→Prop):Prop:=OwnFrom n0 fun (_:List (Nat×Nat)) W=>P W
section
variable (xb b0 b1 sb:Nat) (v0 v1 v2 v3 v4 v5:Value) (Y:List Nat) (I P:World→Prop) (p:ByteArray) (L:List ByteArray) (d:Int) (w:World)
def StI (pre:List (Nat×Nat)) (W:World):Prop :=
 Boxed W b0 229 (.pointer (some ⟨xb,0,none⟩))∧Boxed W sb Ww.ST (.string p)∧ZAt xb v0 v1 v2 v3 v4 v5 W d∧Kept (xb :: Y) w W ∧
 ((pre=[]∧W.heap[b1]?=some (.cells #[.pointer none,.slice none 0 0,.bool false] LT (0,0))∧I W) ∨
  (pre≠[]∧P W∧∃ (B:Nat) (q:Bool) (pv bv:Value) (cs:Array Value),LAt W b1 B (jnA L) q pv bv cs∧w.heap.size≤B))
end
theorem lat_block {W W':World} {b B:Nat} {l:Bs} {q:Bool} {pv bv:Value} {cs:Array Value} (h:LAt W b B l q pv bv cs) (h1:W'.heap[b]?=W.heap[b]?) (h2:∀ g,bv.ownBlock=some g→W'.heap[g]?=W.heap[g]?):LAt W' b B l q pv bv cs:=by
 refine⟨⟨h1.trans h.b.cells,h.b.ptr,h.b.buf,h.b.used,?_,h.b.lies,h.b.ne⟩,h.has,h.size⟩
 rcases h.b.own.2 with ⟨hv,hn⟩ | ⟨g,cap,cur,hv,hb,hg,h3⟩
 ·exact⟨h.b.own.1,.inl ⟨hv,hn⟩⟩
 ·exact⟨h.b.own.1,.inr ⟨g,cap,cur,hv,hb,(h2 g (by rw[hv];rfl)).trans hg,h3⟩⟩
theorem zcj {W W':World} {row:Option Nat} {b:Nat} {cs:Array Value} {T:TypeId} {fz:Nat×Nat} (hg:W.grownBy W' row) (hr:∀ r,row=some r→∃ o:Obj,W.heap[r]?=some o∧o.isCells=false) (h:W.heap[b]?=some (.cells cs T fz)):W'.heap[b]?=W.heap[b]? :=
 hg.block b (Array.getElem?_eq_some_iff.1 h).1 (fun e=>by
  obtain⟨o,h1,h2⟩:=hr b e.symm
  rw[h] at h1;cases h1;cases h2)
theorem StI.own {xb b0 b1 sb:Nat} {v0 v1 v2 v3 v4 v5:Value} {Y:List Nat} {I P:World→Prop} {p:ByteArray} {L:List ByteArray} {d:Int} {w:World} {n0 n:Nat} (hI:Holds n0 I) (hP:Holds n0 P) (h0:n0≤n) (hw:w.heap.size≤n):OwnFrom n (StI xb b0 b1 sb v0 v1 v2 v3 v4 v5 Y I P p L d w):=by
 rintro pre W W' row ⟨a1,a2,a3,a4,a5⟩ hg hr
 have hr2:∀ r,row=some r→∃ o:Obj,W.heap[r]?=some o∧o.isCells=false:=fun r e=>(hr r e).2
 have hr0:∀ r,row=some r→n0≤r∧∃ o:Obj,W.heap[r]?=some o∧o.isCells=false:=fun r e=>⟨Nat.le_trans h0 (hr r e).1,(hr r e).2⟩
 refine⟨(zcj hg hr2 a1).trans a1,(zcj hg hr2 a2).trans a2,(zcj hg hr2 a3).trans a3,a4.grown hg (fun r e=>.inr (Nat.le_trans hw (hr r e).1)),?_⟩
 rcases a5 with ⟨e,h1,h2⟩ | ⟨e,h1,B,q,pv,bv,cs,h2,h3⟩
 ·exact .inl ⟨e,(zcj hg hr2 h1).trans h1,hI [] W W' row h2 hg hr0⟩
 ·refine .inr ⟨e,hP [] W W' row h1 hg hr0,B,q,pv,bv,cs,lat_block h2 (zcj hg hr2 h2.b.cells) (fun g hgv=>?_),h3⟩
  rcases h2.b.own.2 with ⟨hv,_⟩ | ⟨g',cap,cur,hv,hb,hg',_⟩
  ·rw[hv] at hgv;cases hgv
  ·rw[hv] at hgv;cases hgv;exact zcj hg hr2 hg'
section
variable {xb kb:Nat} {v0 v1 v2 v3 v4 v5:Value} {Y:List Nat} {I P:World→Prop} {w W W':World} {d:Int}
theorem wildcard_z (p:Bs) (x:Nat×Nat) (L:List ByteArray) (hp:(36:UInt8)∉p) (hps:p.length≤1000) (hx:Wp.items p=[x]) (hpx:Ww.part (str p) x=str p) (h1:0≤d) (hd:d<60) (hL:(jnA L).length≤1048000) (hLn:L.length≤1000000)
  (hI:Abides I) (hP:Abides P) (n0:Nat) (hHI:Holds n0 I) (hHP:Holds n0 P) (hxY:xb∉Y)
  (HF:∀ w,ZAt xb v0 v1 v2 v3 v4 v5 w d→I w→Calls Tryz.prog 261 #[.pointer (some ⟨xb,0,none⟩),.string (str p)] w fun e w'=>∃ v,e=.returned v∧Kept Y w w'∧P w'∧∃ lo,w'.ownsRow lo Ww.ST 1 v L.length (zbb L)) :
  ∀ w,n0≤w.heap.size→(∀ i∈Y,i<n0)→ZAt xb v0 v1 v2 v3 v4 v5 w d→I w →
   Calls Tryz.prog 194 #[.pointer (some ⟨xb,0,none⟩),.string (str p)] w fun e w'=>e=.returned (.string (str (jnA L)))∧ZAt xb v0 v1 v2 v3 v4 v5 w' d∧Kept (xb :: Y) w w'∧P w':=by
 intro w hn0 hYn hC hIw
 have HX:=Lib.hid (plain_z p d hp hps h1 hd xb v0 v1 v2 v3 v4 v5)
 have HII:=Lib.hid hI
 have HPP:=Lib.hid hP
 have HC:=Lib.hid hC
 have HIW:=Lib.hid hIw
 have HF:=Lib.hid HF
 have HYN:=Lib.hid hYn
 have hxl:=hC.lt
 have HHI:=Lib.hid hHI
 have HHP:=Lib.hid hHP
 clear hC hIw hYn hI hP hHI hHP
 refine(callsIn_wide (n:=9)).1 ?_
 refine callsIn_of_wp_marks Tryz.func194 rfl trivial ?_ rfl
 simp only [Tryz.ntmps194,List.size_toArray,List.length_cons,List.length_nil,Nat.reduceAdd,Nat.reduceSub,Array.replicate_succ,Array.replicate_zero,List.push_toArray,List.append_toArray,List.nil_append,List.cons_append]
 gi_wp2_with fail
 have hA0:=(Below.refl w.heap.size w).alloc (Nat.le_refl _) (.cells #[.pointer (some ⟨xb,0,none⟩)] 229)
 have hA1:=hA0.alloc hA0.size (.cells #[.pointer none,.slice none 0 0,.bool false] LT)
 have hb0:=Boxed.new w 229 (.pointer (some ⟨xb,0,none⟩))
 have hr0:=LAt.new (w.alloc (.cells #[.pointer (some ⟨xb,0,none⟩)] 229))
 have HB0:=Lib.hid (hb0.alloc (.cells #[.pointer none,.slice none 0 0,.bool false] LT))
 have HR0:=Lib.hid hr0.b.cells
 have HA1:=Lib.hid hA1
 have HC1:=Lib.hid (HC.out.below hA1)
 have HI1:=Lib.hid (HII.out.below HIW.out hA1)
 clear hA0 hA1 hb0 hr0
 refine⟨trivial,(callsIn_wide.2 (HX.out _ HC1.out)).mono ?_⟩
 rintro e w1 ⟨rfl,hC2,hk2⟩
 have hsA:((w.alloc (.cells #[.pointer (some ⟨xb,0,none⟩)] 229)).alloc (.cells #[.pointer none,.slice none 0 0,.bool false] LT)).heap.size=w.heap.size+2:=by simp
 have HB2:=Lib.hid (show Boxed w1 w.heap.size 229 (.pointer (some ⟨xb,0,none⟩)) from (hk2.block _ (by omega) (by simp;omega)).trans HB0.out)
 have hr2:w1.heap[w.heap.size+1]?=some (.cells #[.pointer none,.slice none 0 0,.bool false] LT (0,0)):=by
  have:=HR0.out
  rw[World.size_alloc] at this
  exact(hk2.block _ (by omega) (by simp;omega)).trans this
 have HR2:=Lib.hid hr2
 have HI2:=Lib.hid (HII.out _ _ _ hk2 (fun z hz=>by rw[List.mem_singleton.1 hz];exact own_x HC1.out) HI1.out)
 have HC2:=Lib.hid hC2
 have HK2:=Lib.hid ((Kept.of_below (X:=xb :: Y) HA1.out).trans (hk2.mono (by simp)))
 have hs2:w.heap.size+2≤w1.heap.size:=by have:=hk2.size;omega
 clear hk2 hC2 hr2 HB0 HR0 HI1 HC1 hsA
 gi_wp2_with (refine⟨trivial,?_⟩;gi_at_call 117;refine(callsIn_wide.2 (Ww.zri _ (str p))).mono ?_;rintro e w' ⟨rfl,rfl⟩)
 have k2:=Boxed.new w1 Ww.ST (.string (str p))
 have A3:=(Below.refl w1.heap.size w1).alloc (Nat.le_refl _) (.cells #[.string (str p)] Ww.ST)
 have hI0:StI xb w.heap.size (w.heap.size+1) w1.heap.size v0 v1 v2 v3 v4 v5 Y I P (str p) L d w [] (w1.alloc (.cells #[.string (str p)] Ww.ST)) :=
  ⟨HB2.out.alloc _,k2,HC2.out.below A3,HK2.out.below A3,.inl ⟨rfl,zaf HR2.out _,HII.out.below HI2.out A3⟩⟩
 refine range_rec (by omega) (gf:=199) (lb:=#[.pointer (some ⟨w1.heap.size,0,none⟩)]) rfl (enters_of Tryz.func199 (by kernel_rfl) rfl)
  (zkv _ (by omega) w1.heap.size (str p) (by show p.toArray.size≤_;rw[List.size_toArray];omega) _ k2) zit (zjd _) (zox (by simp)) (fun _=>rfl)
  (StI xb w.heap.size (w.heap.size+1) w1.heap.size v0 v1 v2 v3 v4 v5 Y I P (str p) L d w) (StI.own HHI.out HHP.out (by have:=HK2.out.size;simp;omega) (by have:=HK2.out.size;simp;omega)) (fun _ X Z h e=>by cases e;exact h)
  hI0
  ?a1 ?assign ?body ?done
 case assign =>
  intro l x W K hK
  gi_wp2
  exact hK
 case body =>
  rintro l pre x' W ⟨a1,a2,a3,a4,a5⟩ hsp
  rw[show by8 (str p)=p from rfl,hx] at hsp
  obtain⟨rfl,rfl⟩:pre=[]∧x'=x:=by
   have hl:=hsp.length_le
   have hpe:pre=[]:=by
    rw[List.length_append] at hl
    exact List.eq_nil_of_length_eq_zero (by simp only [List.length_cons,List.length_nil] at hl;omega)
   subst hpe
   rw[List.nil_append] at hsp
   have:=hsp.eq_of_length rfl
   exact⟨rfl,by simpa using this⟩
  obtain⟨h5,h6⟩:=a5.resolve_right (fun e=>e.1 rfl) |>.2
  have c1:=a1.cell
  have l1:=a1.lt
  have H1:=Lib.hid a1
  have H2:=Lib.hid a2
  have H3:=Lib.hid a3
  have H4:=Lib.hid a4
  have H5:=Lib.hid h5
  have H6:=Lib.hid h6
  clear a1 a2 a3 a4 a5 h5 h6 hsp hI0
  rw[hpx]
  gi_wp2_with fail
  refine⟨trivial,(CallsIn.inRound l (callsIn_wide.2 (HF.out W H3.out H6.out))).mono ?_⟩
  rintro e w3 ⟨v,rfl,hk3,hp3,lo,ho3⟩
  obtain⟨av,cv,rfl⟩:∃ a c,v=.slice a L.length c:=by
   rcases ho3.2 with ⟨h,hn⟩ | ⟨g,cap,_,h,_⟩
   ·exact⟨_,_,by rw[hn];exact h⟩
   ·exact⟨_,_,h⟩
  have hYl:∀ i∈Y,i<w.heap.size:=fun i hi=>by have:=HYN.out i hi;omega
  have hsW:w.heap.size+2≤W.heap.size:=by have:=H5.out;have:=(Array.getElem?_eq_some_iff.1 this).1;omega
  have G1:=Lib.hid (show Boxed w3 w.heap.size 229 (.pointer (some ⟨xb,0,none⟩)) from (hk3.block _ (by omega) (fun e=>by have:=hYl _ e;omega)).trans H1.out)
  have hg5:=(hk3.block _ (Array.getElem?_eq_some_iff.1 H5.out).1 (fun e=>by have:=hYl _ e;omega)).trans H5.out
  have hl2:w1.heap.size<W.heap.size:=H2.out.lt
  have G2:=Lib.hid (show Boxed w3 w1.heap.size Ww.ST (.string (str p)) from (hk3.block _ hl2 (fun e=>by have:=hYl _ e;omega)).trans H2.out)
  have G3:=Lib.hid (H3.out.kept hk3 hxY)
  have G4:=Lib.hid (H4.out.trans (hk3.mono (by simp +contextual)))
  have GP:=Lib.hid hp3
  have GO:=Lib.hid ho3
  have hs3:=hk3.size
  have GL:Hid (LAt w3 (w.heap.size+1) w3.heap.size [] false (.pointer none) (.slice none 0 0) #[.pointer none,.slice none 0 0,.bool false]):=Lib.hid ⟨⟨hg5,rfl,rfl,.inl rfl,World.ownsRow_nil _ _ _ _,liesL,by decide⟩,rfl,rfl⟩
  have GR:Hid (RecKeep (w1.alloc (.cells #[.string (str p)] Ww.ST)).heap.size W w3):=Lib.hid fun k o hk ho _=>(hk3.block k (Array.getElem?_eq_some_iff.1 ho).1 (fun e=>by have:=hYl _ e;simp at hk;omega)).trans ho
  clear hk3 hp3 ho3 hg5 c1 l1
  gi_wp2_with fail
  gi_loopw [20] (fun v20 wr=>∃ (k:Nat) (Z:List Nat) (pv bv:Value) (cs:Array Value),v20=.int .i64 k∧k≤L.length∧LAt wr (w.heap.size+1) w3.heap.size (jnA (L.take k)) (decide (k≠0)) pv bv cs∧Kept Z w3 wr∧∀ i∈Z,i=w.heap.size+1∨w3.heap.size≤i) (fun v20 _=>L.length - (intOf v20).toNat)
  case atStart=>exact⟨0,[],_,_,_,rfl,Nat.zero_le _,GL.out,Kept.refl _ _,by simp⟩
  case round =>
   obtain⟨k,Z,pv,bv,cs,rfl,hk,hLA,hkz,hZ⟩:=hrel
   have hb1:w.heap.size+1<w3.heap.size:=by have:=(Array.getElem?_eq_some_iff.1 GL.out.b.cells).1;exact this
   by_cases hlt:k<L.length
   ·have hki:(k:Int)<(L.length:Int):=by omega
    have hk0:(0:Int)≤(k:Int):=Int.natCast_nonneg _
    obtain⟨g,rfl,hgl,hgc⟩:∃ g,av=some ⟨g,0,none⟩∧g<wr.heap.size∧wr.cell? ⟨g,k,none⟩=some (.string L[k]):=by
     rcases GO.out.2 with ⟨_,hn⟩ | ⟨g,cap,cur,hv,_,hg,_⟩
     ·omega
     ·cases hv
      have hgz:g∉Z:=fun e=>by
       rcases hZ g e with e | e
       ·subst e
        have h7:=GL.out.b.cells
        rw[hg] at h7;injection h7 with h7;injection h7 with _ h7
        revert h7;decide
       ·have:=(Array.getElem?_eq_some_iff.1 hg).1;omega
      refine⟨g,rfl,Nat.lt_of_lt_of_le (Array.getElem?_eq_some_iff.1 hg).1 hkz.size,?_⟩
      have h8:=GO.out.cells (g:=g) rfl k (.string L[k]) (by rw[Ww.zsy _ hlt])
      rw[Addr.add_lit,Nat.zero_add] at h8
      exact(World.cell?_of_block (w:=w3) (hkz.block g (Array.getElem?_eq_some_iff.1 hg).1 hgz)).trans h8
    have hjk:=jnA_take hlt
    have hjl:=jnA_mono L (k+1)
    rw[hjk,List.length_append,List.length_append] at hjl
    have hbz:(by8 L[k]).length=L[k].size:=zab _
    have HPut:=Lib.hid (put_any wr hLA L[k] (by omega) (by have:=hkz.size;omega))
    have HJK:=Lib.hid hjk
    have HKZ:=Lib.hid hkz
    have HZ:=Lib.hid hZ
    clear hLA hkz hZ hjk hjl hbz
    gi_wp2_with fail
    refine⟨trivial,(CallsIn.inRound l (callsIn_wide.2 HPut.out)).mono ?_⟩
    rintro e w4 ⟨rfl,Z',bv',cs',hLA',hkz',hZ'⟩
    have HL4:=Lib.hid hLA'
    have HK4:=Lib.hid (zkd HKZ.out hkz')
    have HZ4:=Lib.hid hZ'
    clear hLA' hkz' hZ' HPut hgc hgl
    gi_wp2_with fail
    go_roundw
    case rel=>exact⟨k+1,Z++Z',_,bv',cs',by go_num,hlt,by rw[HJK.out];exact HL4.out,HK4.out,fun i hi=>by
     rcases List.mem_append.1 hi with h | h
     ·exact HZ.out i h
     ·exact HZ4.out i h⟩
    case measure=>simp[intOf];omega
   ·obtain rfl:k=L.length:=by omega
    rw[List.take_length] at hLA
    have HLA:=Lib.hid hLA
    have HKZ:=Lib.hid hkz
    have HZ:=Lib.hid hZ
    clear hLA hkz hZ
    gi_wp2_with fail
    have kz:∀ (k':Nat),k'≠w.heap.size+1→k'<w3.heap.size→wr.heap[k']?=w3.heap[k']?:=fun k' h1 h2=>HKZ.out.block k' h2 (fun e=>by rcases HZ.out k' e with e | e<;>omega)
    have hpw:∀ z∈Z,Own w3 z:=fun z hz=>by
     rcases HZ.out z hz with h | h
     ·subst h;exact .inr ⟨_,_,_,GL.out.b.cells,.inr (.inr (.inr rfl))⟩
     ·exact .inl h
    have hxz:xb∉Z:=fun e=>by rcases HZ.out xb e with h | h<;>omega
    have hs1:w1.heap.size<w3.heap.size:=G2.out.lt
    have hk4:Kept (xb :: Y) w wr:=⟨HKZ.out.os.trans G4.out.os,HKZ.out.tape.trans G4.out.tape,HKZ.out.output.trans G4.out.output,Nat.le_trans G4.out.size HKZ.out.size,fun i hi hx=>(kz i (by omega) (by omega)).trans (G4.out.block i hi hx)⟩
    refine⟨?_,?_,?_⟩
    ·exact fun k' o hk' ho hc=>(kz k' (by simp at hk';omega) (Array.getElem?_eq_some_iff.1 (GR.out k' o hk' ho hc)).1).trans (GR.out k' o hk' ho hc)
    ·exact(kz _ (by omega) hs1).trans (G2.out.trans H2.out.symm)
    ·exact⟨(kz _ (by omega) (by omega)).trans G1.out,(kz _ (by omega) hs1).trans G2.out,G3.out.kept HKZ.out hxz,hk4,.inr ⟨by simp,HPP.out _ _ _ HKZ.out hpw GP.out,_,_,_,_,_,HLA.out,by omega⟩⟩
 case done =>
  rintro D xs W hD rfl ⟨a1,a2,a3,a4,a5⟩ hK
  rw[show by8 (str p)=p from rfl,hx] at a5
  obtain⟨h5,B,q,pv,bv,cs,h6,h7⟩:=a5.resolve_left (fun e=>by simpa using e.1) |>.2
  clear a5 hI0
  have H1:=Lib.hid a1
  have H3:=Lib.hid a3
  have H4:=Lib.hid a4
  have H5:=Lib.hid h5
  have H6:=Lib.hid h6
  clear a1 a2 a3 a4 h5 h6 k2 A3
  gi_wp2_with (refine⟨trivial,(callsIn_wide.2 (zeq W H6.out.b)).mono ?_⟩;rintro e w' ⟨rfl,hk'⟩)
  have hz:∀ z∈bv.ownBlock.toList,(∃ cs' fz',W.heap[z]?=some (.cells cs' Ww.U8 fz'))∧w.heap.size≤z:=fun z hz=>by
   rcases H6.out.b.own.2 with ⟨hv,_⟩ | ⟨g,cap,cur,hv,hb,hg,_⟩
   ·rw[hv] at hz;cases hz
   ·rw[hv] at hz
    obtain rfl:z=g:=by simpa[Value.ownBlock] using hz
    exact⟨⟨_,_,hg⟩,by omega⟩
  have hDl:D<W.heap.size:=(Array.getElem?_eq_some_iff.1 hK).1
  have hK':w'.heap[D]?=some (.deferred (some [])):=(hk'.block D hDl (fun e=>by
   obtain⟨⟨_,_,h⟩,_⟩:=hz D e
   rw[hK] at h;cases h)).trans hK
  have hxz:xb∉bv.ownBlock.toList:=fun e=>by have:=(hz xb e).2;omega
  have hP':P w':=HPP.out _ _ _ hk' (fun z h=>by
   obtain⟨⟨_,_,h⟩,_⟩:=hz z h
   exact .inr ⟨_,_,_,h,.inr (.inr (.inl rfl))⟩) H5.out
  have hk6:Kept (xb :: Y) w w':=⟨hk'.os.trans H4.out.os,hk'.tape.trans H4.out.tape,hk'.output.trans H4.out.output,Nat.le_trans H4.out.size hk'.size,fun i hi hx=>(hk'.block i (Nat.lt_of_lt_of_le hi H4.out.size) (fun e=>by have:=(hz i e).2;omega)).trans (H4.out.block i hi hx)⟩
  have hwD:w.heap.size≤D:=by have:=HK2.out.size;simp at hD;omega
  refine⟨by simp,.inl ⟨_,_,rfl,run_takeDeferred hK',?_⟩⟩
  exact⟨_,results_tmp rfl _ _ _,rfl,(World.putObj_heap_other (by omega)).trans (H3.out.kept hk' hxz),hk6.grown (grownBy_putObj' w' D _) (fun r e=>.inr (by cases e;exact hwD)),HHP.out.putObj (s:=[]) _ hP' (by omega) hK' rfl⟩
end
end Dz
end Go.Proofs.YtgdpbnfgcabneaaGreatDoor

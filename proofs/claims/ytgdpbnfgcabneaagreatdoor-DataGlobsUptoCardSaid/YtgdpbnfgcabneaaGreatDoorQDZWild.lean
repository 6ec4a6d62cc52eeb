/- Part of the proof. -/
import Derived.Test.YtgdpbnfgcabneaaGreatDoorQYRef
import Derived.Test.YtgdpbnfgcabneaaGreatDoorQDZStar
set_option maxRecDepth 100000
set_option maxHeartbeats 40000000
namespace Go.Proofs.YtgdpbnfgcabneaaGreatDoor
namespace Yw
open Go.RowKit Go.Maps Ww Tw Kw Jw Xb Xw
def IdxC (s:Bs) (i:Int):Prop:=∀ w:World,Calls Tryz.prog 310 #[.string (str s),.string ⟨#[32,9]⟩] w fun e w'=>e=.returned (.int .i64 i)∧Below w.heap.size w w'
def LeftC (s:Bs):Prop:=∀ w:World,Calls Tryz.prog 311 #[.string (str s)] w fun e w'=>e=.returned (.string (str (Yp.zgs s)))∧Below w.heap.size w w'
theorem kf_enter0 (args:Array Value) (w:World):(callFunc (kf 0) args).run Tryz.prog w=.ok (.enter (kf 0) args) w:=by kernel_rfl
theorem kf_enter1 (args:Array Value) (w:World):(callFunc (kf 1) args).run Tryz.prog w=.ok (.enter (kf 1) args) w:=by kernel_rfl
theorem kf_enter2 (args:Array Value) (w:World):(callFunc (kf 2) args).run Tryz.prog w=.ok (.enter (kf 2) args) w:=by kernel_rfl
theorem kf_enter3 (args:Array Value) (w:World):(callFunc (kf 3) args).run Tryz.prog w=.ok (.enter (kf 3) args) w:=by kernel_rfl
theorem kf_enter4 (args:Array Value) (w:World):(callFunc (kf 4) args).run Tryz.prog w=.ok (.enter (kf 4) args) w:=by kernel_rfl
theorem kf_enter {j:Nat} (hj:j<5) (args:Array Value) (w:World):(callFunc (kf j) args).run Tryz.prog w=.ok (.enter (kf j) args) w :=
 match j,hj with
 | 0,_=>kf_enter0 args w
 | 1,_=>kf_enter1 args w
 | 2,_=>kf_enter2 args w
 | 3,_=>kf_enter3 args w
 | 4,_=>kf_enter4 args w
section
variable {C:Cp}
end
end Yw
namespace Yp
theorem itA_open:∀ (t:Bs) (f k:Nat),f<k→∃ y r,Wp.itA f k t=(f,y) :: r
 | [],f,k,h=>⟨k,[],by unfold Wp.itA;rw[if_pos h]⟩
 | c :: r,f,k,h=>by
  unfold Wp.itA
  by_cases hb:Wp.zaw c=true
  ·rw[if_pos hb,if_pos h];exact⟨_,_,rfl⟩
  ·rw[if_neg hb];exact itA_open r f (k+1) (by omega)
theorem itA_left:∀ (t:Bs) (k:Nat),(Wp.itA k k t=[]∧zgs t=[])∨∃ y r,Wp.itA k k t=(k+(t.length - (zgs t).length),y) :: r∧zgs t=t.drop (t.length - (zgs t).length)
 | [],k=>.inl ⟨by unfold Wp.itA;rw[if_neg (Nat.lt_irrefl _)],rfl⟩
 | c :: r,k=>by
  have hle:(zgs r).length≤r.length:=(List.dropWhile_sublist _).length_le
  by_cases hb:Wp.zaw c=true
  ·have e1:Wp.itA k k (c :: r)=Wp.itA (k+1) (k+1) r:=by rw[Wp.itA,if_pos hb,if_neg (Nat.lt_irrefl _)]
   have e2:zgs (c :: r)=zgs r:=by unfold zgs;rw[List.dropWhile_cons,if_pos hb]
   rw[e1,e2]
   rcases itA_left r (k+1) with ⟨h1,h2⟩ | ⟨y,r',h1,h2⟩
   ·exact .inl ⟨h1,h2⟩
   ·refine .inr ⟨y,r',?_,?_⟩
    ·rw[h1,List.length_cons,show k+1+(r.length - (zgs r).length)=k+(r.length+1 - (zgs r).length) by omega]
    ·rw[List.length_cons,show r.length+1 - (zgs r).length=(r.length - (zgs r).length)+1 by omega,List.drop_succ_cons];exact h2
  ·have e1:Wp.itA k k (c :: r)=Wp.itA k (k+1) r:=by rw[Wp.itA,if_neg hb]
   have e2:zgs (c :: r)=c :: r:=by unfold zgs;rw[List.dropWhile_cons,if_neg hb]
   obtain⟨y,r',h⟩:=itA_open r k (k+1) (Nat.lt_succ_self _)
   refine .inr ⟨y,r',?_,?_⟩
   ·rw[e1,e2,h,Nat.sub_self,Nat.add_zero]
   ·rw[e2,Nat.sub_self,List.drop_zero]
end Yp
namespace Yw
open Go.RowKit Go.Shelf Go.Maps Ww Tw
attribute [local go_sem] Oper.semAt_some
def LfI (w:World) (s:ByteArray) (pre:List (Nat×Nat)) (W:World):Prop :=
 pre=[]∧Boxed W w.heap.size ST (.string s)∧Boxed W (w.heap.size+1) ST (.string ⟨#[]⟩)∧Boxed W (w.heap.size+2) ST (.string s)∧Below w.heap.size w W
def LfX (w:World) (s:ByteArray) (c:Code) (pre:List (Nat×Nat)) (W:World):Prop :=
 (c=.ret∧pre.length=1)∧Boxed W (w.heap.size+1) ST (.string (s.extract (pre.getD 0 (0,0)).1 s.size))∧Below w.heap.size w W
theorem LfI.own (w:World) (s:ByteArray) (B:Nat) (hB:w.heap.size≤B):OwnFrom B (LfI w s) :=
 OwnFrom.and (Own.from (fun _ _ _ _ h _ _=>h) _) (OwnFrom.and (Own.from (boxed_own w.heap.size ST (fun _:List (Nat×Nat)=>.string s)) _) (OwnFrom.and (Own.from (boxed_own (w.heap.size+1) ST (fun _:List (Nat×Nat)=>.string ⟨#[]⟩)) _) (OwnFrom.and (Own.from (boxed_own (w.heap.size+2) ST (fun _:List (Nat×Nat)=>.string s)) _) (ownFrom_below (Nat.le_refl _) hB))))
theorem LfX.own (w:World) (s:ByteArray) (c:Code) (B:Nat) (hB:w.heap.size≤B):OwnFrom B (LfX w s c) :=
 OwnFrom.and (Own.from (fun _ _ _ _ h _ _=>h) _) (OwnFrom.and (Own.from (boxed_own (w.heap.size+1) ST (fun pre:List (Nat×Nat)=>.string (s.extract (pre.getD 0 (0,0)).1 s.size))) _) (ownFrom_below (Nat.le_refl _) hB))
def leftS (s:ByteArray):ByteArray:=match Wp.items (by8 s) with
 | []=>⟨#[]⟩
 | x :: _=>s.extract x.1 s.size
theorem leftS_is (s:Bs):leftS (str s)=str (Yp.zgs s):=by
 unfold leftS Wp.items
 rw[zam]
 rcases Yp.itA_left s 0 with ⟨h1,h2⟩ | ⟨y,r,h1,h2⟩
 ·rw[h1,h2];rfl
 ·rw[h1]
  dsimp only
  rw[Nat.zero_add]
  exact zar (by rw[zbs,zam,zam];exact h2.symm)
theorem ztk (w:World) (s:ByteArray) (hs:s.size≤1000000000):Calls Tryz.prog 311 #[.string s] w fun e w'=>e=.returned (.string (leftS s))∧Below w.heap.size w w':=by
 refine(callsIn_wide (n:=9)).1 ?_
 refine callsIn_of_wp_marks Tryz.func311 rfl trivial ?_ rfl
 simp only [Tryz.ntmps311,List.size_toArray,List.length_cons,List.length_nil,Nat.reduceAdd,Nat.reduceSub,Array.replicate_succ,Array.replicate_zero,List.push_toArray,List.append_toArray,List.nil_append,List.cons_append]
 gi_wp2_with (refine⟨trivial,?_⟩;gi_at_call 117;refine(callsIn_wide.2 (Ww.zri _ s)).mono ?_;rintro e w' ⟨rfl,rfl⟩)
 have k0:=Boxed.new w ST (.string s)
 have k1:=Boxed.new (w.alloc (.cells #[.string s] ST)) ST (.string ⟨#[]⟩)
 simp only [World.size_alloc] at k1
 have k2:=Boxed.new ((w.alloc (.cells #[.string s] ST)).alloc (.cells #[.string ⟨#[]⟩] ST)) ST (.string s)
 simp only [World.size_alloc] at k2
 have hB0:Below w.heap.size w (((w.alloc (.cells #[.string s] ST)).alloc (.cells #[.string ⟨#[]⟩] ST)).alloc (.cells #[.string s] ST)):=(((Below.refl _ w).alloc (Nat.le_refl _) _).alloc (by simp) _).alloc (by simp;omega) _
 refine zjj (by omega) (gf:=199) (lb:=#[.pointer (some ⟨w.heap.size+2,0,none⟩)]) rfl (enters_of Tryz.func199 (by kernel_rfl) rfl)
  (zkv _ (by omega) (w.heap.size+2) s (by omega) _ k2) zit (zjd _) (zox (by simp)) (fun _=>rfl)
  (LfI w s) (LfX w s) (LfI.own w s _ (by simp;omega)) (fun c=>LfX.own w s c _ (by simp;omega)) (fun _ X Y h e=>by cases e;exact h)
  ⟨rfl,(k0.alloc _).alloc _,k1.alloc _,k2,hB0⟩
  ?a1 ?assign ?body ?done ?stop
 case assign =>
  intro l x W K hK
  gi_wp2
  exact hK
 case body =>
  rintro l pre x W ⟨rfl,hs0,hv,hs1,hB⟩ hsp
  have cs:=hs0.cell
  have cv:=hv.cell
  have fv:=hv.frozen
  have hx:x.1<x.2∧x.2≤s.size:=by
   obtain⟨r,hr⟩:=hsp
   have:=Wp.items_in (u:=by8 s) (x:=x) (by rw[←hr];simp)
   rwa[zab] at this
  have hx1:(x.1:Int)≤s.size:=by omega
  clear k0 k1 k2 hB0
  gi_wp2
  exact⟨KeepsOthers.setCell _ _ _,⟨rfl,rfl⟩,hv.set _,hB.setCell (p:=⟨w.heap.size+1,0,none⟩) (by simp) _⟩
 case done =>
  rintro D xs W hD hxs ⟨rfl,hs0,hv,hs1,hB⟩ hK
  have cv:=hv.cell
  have fv:=hv.frozen
  have HE:Hid (leftS s=⟨#[]⟩):=Lib.hid (by unfold leftS;rw[←hxs])
  have hD':w.heap.size+3≤D:=by simp at hD;omega
  have hKO:KeepsOthers W (W.setCell ⟨w.heap.size+1,0,none⟩ (.string ⟨#[]⟩)):=KeepsOthers.setCell _ _ _
  have HK2:=Lib.hid (hKO.same D _ hK rfl)
  have HV2:=Lib.hid (hv.set (.string ⟨#[]⟩))
  have HB2:=Lib.hid (hB.setCell (p:=⟨w.heap.size+1,0,none⟩) (by simp) (.string ⟨#[]⟩))
  clear k0 k1 k2 hB0 hxs hKO hv hs1 hs0 hB hK
  gi_wp2
  refine⟨by simp,.inl ⟨_,_,rfl,run_takeDeferred HK2.out,?_⟩⟩
  have hcell:=cell_kept HV2.out.cell (grownBy_putObj' (W.setCell ⟨w.heap.size+1,0,none⟩ (.string ⟨#[]⟩)) D (.deferred none)) (fun r e=>by cases e;exact⟨_,HK2.out,rfl⟩)
  exact⟨.string ⟨#[]⟩,by simp[results,go_sem,hcell],by rw[HE.out],HB2.out.trans (belowK_b (w:=w) (Nat.le_refl _) _ D _ _ (by omega) HK2.out rfl rfl)⟩
 case stop =>
  rintro D c pre W hD hpre ⟨⟨rfl,hl⟩,hv,hB⟩ hK
  have cv:=hv.cell
  have HE:Hid (leftS s=s.extract (pre.getD 0 (0,0)).1 s.size):=Lib.hid (by
   obtain⟨r,hr⟩:=hpre
   match pre,hl with
   | [x],_ =>
    unfold leftS
    rw[←hr];rfl)
  have hD':w.heap.size+3≤D:=by simp at hD;omega
  have HK2:=Lib.hid hK
  have HB2:=Lib.hid hB
  have HV2:=Lib.hid hv
  clear k0 k1 k2 hB0 hpre hl hv hB hK
  gi_wp2
  refine⟨by simp,.inl ⟨_,_,rfl,run_takeDeferred HK2.out,?_⟩⟩
  have hcell:=cell_kept HV2.out.cell (grownBy_putObj' W D (.deferred none)) (fun r e=>by cases e;exact⟨_,HK2.out,rfl⟩)
  exact⟨.string (s.extract (pre.getD 0 (0,0)).1 s.size),by simp only [List.getD] at hcell;simp[results,go_sem,hcell],by rw[HE.out],HB2.out.trans (belowK_b (w:=w) (Nat.le_refl _) _ D _ _ (by omega) HK2.out rfl rfl)⟩
theorem left_gen (s:Bs) (hs:s.length≤100000):LeftC s:=fun w=>by
 have h:=ztk w (str s) (by rw[zan];omega)
 rw[leftS_is] at h
 exact h
end Yw
namespace Dz
open Go.RowKit Go.Maps Ww Tw Kw Jw Xb Xw Yw
section
variable {xb kb:Nat} {v0 v1 v2 v4 v5:Value} {Y:List Nat} {I P:World→Prop} {w W W':World} {d:Int}
theorem inside_z (s V:Bs) (k:Nat) (_hs:s.length≤100000) (HX:IdxC s (k:Int)) (hi:0<k) (hks:k≤s.length) (hn:s.take k=kn 4) (HL:LeftC (s.drop k)) (hI:Abides I) (hkn:∀ w,I w→KnAt w kb 5)
  (HF:zvq xb v0 v1 v2 (.map (some kb)) v4 v5 Y I P d 194 #[.pointer (some ⟨xb,0,none⟩),.string (str (Yp.zgs (s.drop k)))] (.string (str V))) :
  zvq xb v0 v1 v2 (.map (some kb)) v4 v5 Y I P d 265 #[.pointer (some ⟨xb,0,none⟩),.string (str s)] (.string (str V)):=by
 intro w hC hIw hYw
 obtain⟨i,hik⟩:∃ i:Int,i=(k:Int):=⟨_,rfl⟩
 rw[←hik] at HX
 have HO:=Lib.hid (Zk.refl (Y:=Y) hC)
 have HX:=Lib.hid HX
 have HL:=Lib.hid HL
 have HF:=Lib.hid HF
 have HIW:=Lib.hid hIw
 have HII:=Lib.hid hI
 have HYW:=Lib.hid hYw
 have HKN:=Lib.hid hkn
 have hki:(0:Int)<i:=by omega
 have e1:(str s).extract 0 k=str (s.take k):=zar (by rw[zbx,zam,zam];simp)
 have e2:(str s).extract k (str s).size=str (s.drop k):=zar (by rw[zbs,zam,zam])
 have HE1:=Lib.hid e1
 have HE2:=Lib.hid e2
 have hsz:(str s).size=s.length:=zan s
 have hkk:i.toNat=k:=by omega
 have hk0:¬ i<0:=by omega
 have hk1:¬ ((str s).size:Int)<i:=by omega
 have hk2:i≤((str s).size:Int):=by omega
 clear e1 e2
 clear hC hIw hI hYw
 go_enter Tryz.func265,Tryz.ntmps265
 go_wp2_with fail
 refine(HX.out _).mono ?_
 rintro e w1 ⟨rfl,B1⟩
 have HO1:=Lib.hid (HO.out.below B1)
 have HI1:=Lib.hid (HII.out.below HIW.out B1)
 clear HX HO B1 HIW
 go_wp2_with fail
 have hT0:(fun (_:Bool) (_:World)=>True) false w1.drew:=trivial
 refine zew 8 (fun _ _=>True) (by kernel_rfl) ?_
 refine zaj (i:=0) [0,2,7,8] (v:=.string (str s)) (by rfl) rfl (by rfl) (by kernel_rfl) (by kernel_rfl) (by kernel_rfl) (by kernel_rfl) (by kernel_rfl) (fun c a w h=>h) (Or.inl ⟨by rfl,?_⟩) hT0 ?_
 ·rintro W hW;go_simp
 simp only [Act.put,List.setIfInBounds_toArray]
 refine zaj (i:=1) [1,2,7,8] (v:=.int .i64 i) (by rfl) rfl (by rfl) (by kernel_rfl) (by kernel_rfl) (by kernel_rfl) (by kernel_rfl) (by kernel_rfl) (fun c a w h=>h) (Or.inl ⟨by rfl,?_⟩) hT0 ?_
 ·rintro W hW;go_simp
 simp only [Act.put]
 refine zaj (i:=2) [2,7,8] (v:=.string (str (s.take k))) (by rfl) rfl (by rfl) (by kernel_rfl) (by kernel_rfl) (by kernel_rfl) (by kernel_rfl) (by kernel_rfl) (fun c a w h=>h) (Or.inl ⟨by rfl,?_⟩) hT0 ?_
 ·rintro W hW;rw[←HE1.out];go_simp
 simp only [Act.put]
 refine zaj (i:=3) [3,5,6,8] (v:=.string (str s)) (by rfl) rfl (by rfl) (by kernel_rfl) (by kernel_rfl) (by kernel_rfl) (by kernel_rfl) (by kernel_rfl) (fun c a w h=>h) (Or.inl ⟨by rfl,?_⟩) hT0 ?_
 ·rintro W hW;go_simp
 simp only [Act.put]
 refine zaj (i:=4) [4,5,6,8] (v:=.int .i64 i) (by rfl) rfl (by rfl) (by kernel_rfl) (by kernel_rfl) (by kernel_rfl) (by kernel_rfl) (by kernel_rfl) (fun c a w h=>h) (Or.inl ⟨by rfl,?_⟩) hT0 ?_
 ·rintro W hW;go_simp
 simp only [Act.put]
 refine zaj (i:=5) [5,6,8] (v:=.string (str (s.drop k))) (by rfl) rfl (by rfl) (by kernel_rfl) (by kernel_rfl) (by kernel_rfl) (by kernel_rfl) (by kernel_rfl) (fun c a w h=>h) (Or.inl ⟨by rfl,?_⟩) hT0 ?_
 ·rintro W hW;rw[←HE2.out];go_simp
 simp only [Act.put]
 refine zbe (i:=6) (by kernel_rfl) rfl false (by rfl) (fun K hK=>?_)
 go_simp
 refine(HL.out _).mono ?_
 rintro e w2 ⟨rfl,B2⟩
 have HO2:=Lib.hid ((HO1.out.below (Below.refl _ w1).drew).below B2)
 have HI2:=Lib.hid (HII.out.below (HII.out.below HI1.out (Below.refl _ w1).drew) B2)
 clear HL HO1 B2 HI1
 dsimp only
 refine hK.out _ _ trivial ?_
 clear hK K
 refine zbe (i:=7) (by kernel_rfl) rfl false (by rfl) (fun K hK=>?_)
 go_simp
 refine hK.out _ _ trivial ?_
 clear hK K
 refine zbe (i:=8) (by kernel_rfl) rfl true (by rfl) (fun K hK=>?_)
 go_simp
 refine hK.out _ _ trivial ?_
 clear hK K
 refine zet (by kernel_rfl) ?_ _
 have hc3:=HO2.out.cx.cells.2.2.2.1
 have HKn:=Lib.hid (HKN.out _ HI2.out)
 go_wp2_with (first | (at_lookup;refine zua (k:=4) (b:=kb) HKn.out (by decide) (by rfl) _ _ (by rfl) (by rfl) (by rfl) ?_) | fail)
 rw[kf_enter (by decide:4<5)]
 go_simp
 refine(HF.out _ HO2.out.cx HI2.out (fun i hi=>Nat.lt_of_lt_of_le (HYW.out i hi) HO2.out.k.size)).mono ?_
 rintro e w9 ⟨rfl,hCC,hK,hP⟩
 have HOO:=Lib.hid (HO2.out.call hCC hK)
 have HPP:=Lib.hid hP
 clear hCC hK HO2 hP
 go_wp2_with fail
 go_ret
 exact⟨rfl,HOO.out.cx,HOO.out.k,HPP.out⟩
end
end Dz
end Go.Proofs.YtgdpbnfgcabneaaGreatDoor

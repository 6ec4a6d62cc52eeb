/- Part of the proof. -/
import Derived.Test.YtgdpbnfgcabneaaGreatDoorQWBlank
set_option maxRecDepth 100000
set_option maxHeartbeats 40000000
namespace Go.Proofs.YtgdpbnfgcabneaaGreatDoor
namespace Ww
open Go.RowKit Go.Shelf
attribute [local go_sem] Oper.semAt_some
abbrev ST:TypeId:=9
def part (s:ByteArray) (x:Nat×Nat):ByteArray:=s.extract x.1 x.2
def KeepB (B:Nat) (X Y:World):Prop:=Y.heap[B]?=X.heap[B]?
theorem zjo {s:ByteArray} {k:Nat} {c:UInt8} (h:k<s.size) (hc:(by8 s)[k]?=some c):c=s[k]:=by
 rw[zcc h] at hc;exact(Option.some.inj hc).symm
theorem zoc {s:ByteArray} {k:Nat} (h:k<s.size) (hb:Wp.zaw s[k]=true):∀ c,(by8 s)[k]?=some c→Wp.zaw c=true:=fun c hc=>by rw[zjo h hc];exact hb
theorem zkh (s:ByteArray):∀ c,(by8 s)[s.size]?=some c→Wp.zaw c=true:=fun c hc=>by
 rw[List.getElem?_eq_none (by rw[zab];exact Nat.le_refl _)] at hc;cases hc
theorem go_on {s:ByteArray} {f k:Nat} (h:k<s.size) (hb:Wp.zaw s[k]=false):Wp.zfb (by8 s) f k=Wp.zfb (by8 s) f (k+1) :=
 Wp.restI_in (c:=s[k]) (by rw[zab];exact h) (by have:=zcc h;rw[List.getElem?_eq_getElem (by rw[zab];exact h)] at this;exact Option.some.inj this) hb
theorem zlx {pre R L:List (Nat×Nat)} {x:Nat×Nat} (h:L=pre++x :: R):(pre++[x]) <+: L:=⟨R,by rw[h];simp⟩
theorem each1_in (n:Nat) (hn1:1≤n) (l B:Nat) (s:ByteArray) (hs:s.size≤1000000000) (J Jx:List (Nat×Nat)→World→Prop)
  (hY:∀ pre x X,J pre X→(pre++[x]) <+: Wp.items (by8 s)→YieldAt Fence.wide (n - 1) Tryz.prog l #[.int .i64 (x.1:Int),.string (part s x)] X fun e Y =>
   (e=.returned (.bool true)∧J (pre++[x]) Y∧KeepB B X Y)∨(e=.returned (.bool false)∧Jx (pre++[x]) Y))
  (W:World) (h1:Boxed W B ST (.string s)) (h0:J [] W) :
  CallsIn Fence.wide n Tryz.prog 199 #[.func (.yield l) #[] #[],.pointer (some ⟨B,0,none⟩)] W fun e Y=>(∃ v,e=.returned v) ∧
   ((∃ ys,ys=Wp.items (by8 s)∧J ys Y)∨(∃ pre,pre <+: Wp.items (by8 s)∧Jx pre Y)):=by
 refine callsIn_of_wp Tryz.func199 rfl trivial ?_ rfl
 simp only [Tryz.ntmps199,List.size_toArray,List.length_cons,List.length_nil,Nat.reduceAdd,Nat.reduceSub,Array.replicate_succ,Array.replicate_zero,List.push_toArray,List.append_toArray,List.nil_append,List.cons_append]
 gi_wp2
 gi_loopw [3,4] (fun vf vi wr=>∃ (pre:List (Nat×Nat)) (f k:Nat),vf=.int .i64 f∧vi=.int .i64 k∧f≤k∧k≤s.size+1∧Wp.items (by8 s)=pre++Wp.zfb (by8 s) f k∧Boxed wr B ST (.string s)∧J pre wr)
  (fun _ vi _=>s.size+1 - (intOf vi).toNat)
 case atStart=>exact⟨[],0,0,rfl,rfl,Nat.le_refl _,Nat.zero_le _,(Wp.zno _).symm,h1,h0⟩
 case round =>
  obtain⟨pre,f,k,rfl,rfl,hfk,hk,hp,b1,hj⟩:=hrel
  have c1:=b1.cell
  by_cases hlt:k<s.size
  ·cases hb:Wp.zaw s[k] with
   | false =>
    have HB:=Lib.hid hb
    have HP:Hid (Wp.items (by8 s)=pre++Wp.zfb (by8 s) f (k+1)):=Lib.hid (by rw[hp,go_on hlt hb])
    clear hb hp
    gi_wp2_with (refine⟨trivial,?_⟩;gi_at_call 200;refine(callsIn_wide.2 (zod _ s[k] _ HB)).mono ?_;rintro e w' ⟨rfl,rfl⟩)
    go_roundw
    case rel=>exact⟨pre,f,k+1,rfl,by go_num,by omega,by omega,HP.out,b1,hj⟩
    case measure=>simp[intOf];omega
   | true =>
    have HB:=Lib.hid hb
    by_cases hf:f<k
    ·have hr:=Wp.zjz (u:=by8 s) (f:=f) (k:=k) (by rw[zab];omega) (zoc hlt hb) hf
     rw[hr] at hp
     have HP:=Lib.hid hp
     obtain⟨fn,tmps,assign,body,hy,hR⟩:=hY pre (f,k) wr hj (zlx hp)
     dsimp only [part] at hy
     clear hb hp hr
     gi_wp2_with (refine⟨trivial,?_⟩;gi_at_call 200;refine(callsIn_wide.2 (zod _ s[k] _ HB)).mono ?_;rintro e w' ⟨rfl,rfl⟩)
     refine hR.mono ?_
     rintro e Y (⟨rfl,hj2,hkp⟩ | ⟨rfl,hx⟩)
     ·have d1:Boxed Y B ST (.string s):=hkp.trans b1
      have e1:=d1.cell
      clear c1 hy
      gi_wp2
      go_roundw
      case rel=>exact⟨pre++[(f,k)],k+1,k+1,by go_num,by go_num,Nat.le_refl _,by omega,by rw[HP.out];simp,d1,hj2⟩
      case measure=>simp[intOf];omega
     ·gi_wp2
      refine bodyPost_ret (results_none rfl _ _ _) rfl ?_
      exact⟨⟨_,rfl⟩,.inr ⟨pre++[(f,k)],zlx HP.out,hx⟩⟩
    ·have hr:=Wp.zmm (u:=by8 s) (f:=f) (k:=k) (by rw[zab];omega) (zoc hlt hb) hf
     rw[hr] at hp
     have HP:=Lib.hid hp
     clear hb hp hr
     gi_wp2_with (refine⟨trivial,?_⟩;gi_at_call 200;refine(callsIn_wide.2 (zod _ s[k] _ HB)).mono ?_;rintro e w' ⟨rfl,rfl⟩)
     refine⟨(fun _ h=>by cases h),?_⟩
     gi_wp2
     go_roundw
     case rel=>exact⟨pre,k+1,k+1,by go_num,by go_num,Nat.le_refl _,by omega,HP.out,b1,hj⟩
     case measure=>simp[intOf];omega
  ·by_cases hle:k=s.size
   ·subst hle
    by_cases hf:f<s.size
    ·have hr:=Wp.zjz (u:=by8 s) (f:=f) (k:=s.size) (by rw[zab];omega) (zkh s) hf
     rw[hr] at hp
     have HP:=Lib.hid hp
     obtain⟨fn,tmps,assign,body,hy,hR⟩:=hY pre (f,s.size) wr hj (zlx hp)
     dsimp only [part] at hy
     clear hp hr
     have tok:True:=trivial
     gi_wp2_with (have _t:=tok;refine⟨trivial,?_⟩;clear tok _t)
     refine hR.mono ?_
     rintro e Y (⟨rfl,hj2,hkp⟩ | ⟨rfl,hx⟩)
     ·have d1:Boxed Y B ST (.string s):=hkp.trans b1
      have e1:=d1.cell
      clear c1 hy
      gi_wp2
      go_roundw
      case rel=>exact⟨pre++[(f,s.size)],s.size+1,s.size+1,by go_num,by go_num,Nat.le_refl _,by omega,by rw[HP.out];simp,d1,hj2⟩
      case measure=>simp[intOf]
     ·gi_wp2
      refine bodyPost_ret (results_none rfl _ _ _) rfl ?_
      exact⟨⟨_,rfl⟩,.inr ⟨pre++[(f,s.size)],zlx HP.out,hx⟩⟩
    ·have hr:=Wp.zmm (u:=by8 s) (f:=f) (k:=s.size) (by rw[zab];omega) (zkh s) hf
     rw[hr] at hp
     have HP:=Lib.hid hp
     clear hp hr
     have tok:True:=trivial
     gi_wp2_with (have _t:=tok;refine⟨trivial,?_⟩;clear tok _t)
     refine⟨(fun _ h=>by cases h),?_⟩
     gi_wp2
     go_roundw
     case rel=>exact⟨pre,s.size+1,s.size+1,by go_num,by go_num,Nat.le_refl _,by omega,HP.out,b1,hj⟩
     case measure=>simp[intOf]
   ·obtain rfl:k=s.size+1:=by omega
    rw[Wp.zpv (by rw[zab];omega),List.append_nil] at hp
    have HP:=Lib.hid hp.symm
    clear hp
    gi_wp2
    go_end0
    exact⟨⟨_,rfl⟩,.inl ⟨pre,HP.out,hj⟩⟩
theorem zri (w:World) (s:ByteArray) :
  Calls Tryz.prog 117 #[.string s] w fun e w' =>
   e=.returned (.func (.func 199) #[] #[.pointer (some ⟨w.heap.size,0,none⟩)])∧w.alloc (.cells #[.string s] ST)=w':=by
 go_enter Tryz.func117,Tryz.ntmps117
 go_wp2
 go_ret
 exact⟨rfl,rfl⟩
def MineE (X Y:World):Prop:=X=Y
theorem zkv (n:Nat) (hn1:1≤n) (B:Nat) (s:ByteArray) (hs:s.size≤1000000000) (w:World) (h1:Boxed w B ST (.string s)) :
  Iters n Tryz.prog 199 #[.pointer (some ⟨B,0,none⟩)] (fun x:Nat×Nat=>#[.int .i64 (x.1:Int),.string (part s x)]) MineE (KeepB B)
   (fun ys=>ys=Wp.items (by8 s)) (fun pre=>pre <+: Wp.items (by8 s)) w:=fun l J Jx W hW _ hY h0 =>
 each1_in n hn1 l B s hs J Jx hY W ((hW.block _ h1.lt).trans h1) h0
theorem zit (X Y:World) (k:Nat) (o:Obj) (h:MineE X Y) (hk:X.heap[k]?=some o) (_:o.isCells=false):Y.heap[k]?=some o:=by
 cases h;exact hk
theorem zjd (B:Nat) (X Y Z:World) (h:KeepB B X Y) (k:KeepB B Y Z):KeepB B X Z:=Eq.trans k h
theorem zox {B:Nat} {w:World} (hB:B<w.heap.size) (W:World) (l:Nat) (o o':Obj) (hl:w.heap.size≤l) (_:W.heap[l]?=some o) (_:o.isCells=false):KeepB B W (W.putObj l o') :=
 World.putObj_heap_other (by omega)
attribute [local go_sem] Oper.semAt_some
theorem zjk:(Tryz.prog.info? ST).map (fun i=>(i.zero,i.size,i.bytes))=some (some (.string ByteArray.empty),1,16):=by kernel_rfl
theorem zbn {w:World} {base b':Nat} {e:TypeId} {size:Nat} {v:Value} {n:Nat} {xs:List Value} (h:w.ownsRow base e size v n xs) (hb:b'≤base):w.ownsRow b' e size v n xs:=by
 refine⟨h.1,?_⟩
 rcases h.2 with h | ⟨g,cap,cur,h1,h2,h3⟩
 ·exact .inl h
 ·exact .inr ⟨g,cap,cur,h1,Nat.le_trans hb h2,h3⟩
def zbg (s:ByteArray):List ByteArray:=(Wp.items (by8 s)).map (part s)
theorem zla (s:ByteArray):(zbg s).length=(Wp.items (by8 s)).length:=by simp[zbg]
theorem zhx (s:ByteArray):(Wp.items (by8 s)).length≤s.size:=by have:=Wp.zte (by8 s);rwa[zab] at this
def SpI (w:World) (s:ByteArray) (pre:List (Nat×Nat)) (W:World):Prop :=
 (∃ v,Boxed W w.heap.size 27 v∧W.ownsRow (w.heap.size+2) ST 1 v pre.length (zbb (pre.map (part s)))∧True)∧Boxed W (w.heap.size+1) ST (.string s)∧Below w.heap.size w W
theorem SpI.own (w:World) (s:ByteArray) (B:Nat) (hB:w.heap.size≤B):OwnFrom B (SpI w s) :=
 OwnFrom.and (Own.from (holdsRow_own (w.heap.size+2) w.heap.size 27 ST 1 (fun pre:List (Nat×Nat)=>pre.length) (fun pre=>zbb (pre.map (part s))) (fun _ _=>True)) _)
  (OwnFrom.and (Own.from (boxed_own (w.heap.size+1) ST (fun _:List (Nat×Nat)=>.string s)) _) (ownFrom_below (Nat.le_refl _) hB))
theorem zfv (w:World) (s:ByteArray) (hs:s.size≤100000000) :
  Calls Tryz.prog 62 #[.string s] w fun e w'=>∃ v,e=.returned v∧w'.ownsRow (w.heap.size+2) ST 1 v (zbg s).length (zbb (zbg s))∧Below w.heap.size w w':=by
 obtain⟨i0,hi,hz0,hz1,hz2⟩:=info_parts zjk
 have hil:=zhx s
 refine(callsIn_wide (n:=9)).1 ?_
 refine callsIn_of_wp_marks Tryz.func62 rfl trivial ?_ rfl
 simp only [Tryz.ntmps62,List.size_toArray,List.length_cons,List.length_nil,Nat.reduceAdd,Nat.reduceSub,Array.replicate_succ,Array.replicate_zero,List.push_toArray,List.append_toArray,List.nil_append,List.cons_append]
 gi_wp2_with (refine⟨trivial,?_⟩;gi_at_call 117;refine(callsIn_wide.2 (zri _ s)).mono ?_;rintro e w' ⟨rfl,rfl⟩)
 have k0:=Boxed.new w 27 (.slice none 0 0)
 have k1:=Boxed.new (w.alloc (.cells #[.slice none 0 0] 27)) ST (.string s)
 simp only [World.size_alloc] at k1
 have hB0:Below w.heap.size w ((w.alloc (.cells #[.slice none 0 0] 27)).alloc (.cells #[.string s] ST)):=((Below.refl _ w).alloc (Nat.le_refl _) _).alloc (by simp) _
 refine zjj (by omega) (gf:=199) (lb:=#[.pointer (some ⟨w.heap.size+1,0,none⟩)]) rfl (enters_of Tryz.func199 (by kernel_rfl) rfl)
  (zkv _ (by omega) (w.heap.size+1) s (by omega) _ k1) zit (zjd _) (zox (by simp)) (fun _=>rfl)
  (SpI w s) (fun _ _ _=>False) (SpI.own w s _ (by simp;omega)) (fun _ _ _ _ _ h _ _=>h) (fun _ X Y h e=>by cases e;exact h)
  ⟨⟨_,k0.alloc _,World.ownsRow_nil _ _ _ _,trivial⟩,k1,hB0⟩
  (fun x=>{ tmps:=#[.string s,undef,.slice none 0 0,.pointer (some ⟨w.heap.size,0,none⟩),undef,.string (part s x),.string s,.func (.func 199) #[] #[.pointer (some ⟨w.heap.size+1,0,none⟩)],.int .i64 (x.1:Int),.string (part s x),undef,undef,undef,undef,undef],defers:=[] }) ?assign ?body ?done ?stop
 case assign =>
  intro l x W K hK
  gi_wp2
  exact hK
 case body =>
  rintro l pre x W ⟨⟨v,hv,hrow,_⟩,hs1,hB⟩ hsp
  have hpl:(pre++[x]).length≤(Wp.items (by8 s)).length:=hsp.length_le
  simp only [List.length_append,List.length_singleton] at hpl
  have cv0:=hv.cell
  have fv0:=hv.frozen
  clear k0 k1 hB0
  gi_wp2_with (gi_at_builtin;refine wpListIn_append_own _ rfl _ _ 27 rfl (w.heap.size+2) ST i0 (.string ByteArray.empty) 1 16 Tryz.underlying27 hi hz0 hz1 hz2 rfl (by decide) _ _ _ rfl (hrow.alloc _) ⟨W.heap.size,0,none⟩ 1 1 [.string (part s x)] rfl rfl (cell_one_new _ _ _) (by simp[Value.oneCell']) (by unfold maxLen;omega) (by omega) (by have:=hs1.lt;simp;omega) ?_;intro v' w1 hown' hgrow _;obtain⟨g',cap',rfl⟩:=ownsRow_succ hown';obtain⟨hv1,hv2,_,hk2,hb2⟩:=hv.appended (by decide) (zbn hrow (Nat.le_add_right _ 2)) hB.size (Nat.le_refl _) (zbn hown' (Nat.le_add_right _ 2)) hgrow;have hr2:=hown'.kept (grownBy_setCell' w1 w.heap.size (.slice (some ⟨g',0,none⟩) (pre.length+1) cap')) (.inr (hv1.not_row (by decide) hown').symm);have hc1:=hv1.cell;have hf1:=hv1.frozen)
  have hs2:=((hs1.alloc (.cells #[.string (part s x)] ST)).kept hgrow (fun e=>by have:=(hrow.lt _ e.symm).1;omega)).other (B':=w.heap.size) (by omega) (.slice (some ⟨g',0,none⟩) (pre.length+1) cap')
  refine⟨hk2,hs2.trans hs1.symm,⟨_,hv2,?_,trivial⟩,hs2,hB.trans hb2⟩
  rw[List.map_append,List.length_append]
  simpa[zbb] using hr2
 case done =>
  rintro D xs W hD rfl ⟨⟨v,hv,hrow,_⟩,hs1,hB⟩ hK
  have hvc:=hv.cell
  clear k0 k1 hB0
  gi_wp2
  refine⟨by simp,.inl ⟨_,_,rfl,run_takeDeferred hK,?_⟩⟩
  exact⟨_,results_tmp rfl _ _ _,v,rfl,by rw[zla];exact ownsRow_putObj hrow _ hK rfl,hB.trans (belowK_b (w:=w) (Nat.le_refl _) W D _ _ (by simp at hD;omega) hK rfl rfl)⟩
 case stop =>
  rintro D c pre W _ _ h _
  exact h.elim
end Ww
end Go.Proofs.YtgdpbnfgcabneaaGreatDoor

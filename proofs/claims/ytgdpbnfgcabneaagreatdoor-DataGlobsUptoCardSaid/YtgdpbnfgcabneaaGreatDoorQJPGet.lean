/- Part of the proof. -/
import Derived.Lib.FrozenHead2
import Derived.Test.YtgdpbnfgcabneaaGreatDoorQJBase
set_option maxRecDepth 100000
set_option maxHeartbeats 40000000
namespace Go.Proofs.YtgdpbnfgcabneaaGreatDoor
namespace Jw
open Go.RowKit Ww Tw Kw
section
variable {P:Program} {w:World}
variable {ops:Array Oper} {rest:List Oper} {o:Oper} {a:Act} {Q:Exit→Act→World→Prop}
end
abbrev BT:TypeId:=301
abbrev U8:TypeId:=5
structure BldAt (w:World) (b:Nat) (O:List Nat) (l:Bs) (pv bv:Value):Prop where
 cells:w.heap[b]?=some (.cells #[pv,bv] BT (0,0))
 used:pv=.pointer none∨pv=.pointer (some ⟨b,0,none⟩)
 own:w.ownsRowF 0 U8 1 bv l.length (Lib.byteCells l)
 owns:O=b :: bv.ownBlock.toList
section
variable {w w':World} {b:Nat} {O:List Nat} {l:Bs} {pv bv:Value}
theorem BldAt.lt (h:BldAt w b O l pv bv):b<w.heap.size:=(Array.getElem?_eq_some_iff.1 h.cells).1
theorem BldAt.ltO (h:BldAt w b O l pv bv):∀ i∈O,i<w.heap.size:=by
 intro i hi
 rw[h.owns] at hi
 rcases List.mem_cons.1 hi with rfl | hi
 ·exact h.lt
 ·exact(h.own.lt i (by simpa using hi)).2
theorem BldAt.block (h:BldAt w b O l pv bv) (hb:∀ i∈O,w'.heap[i]?=w.heap[i]?):BldAt w' b O l pv bv:=by
 have h1:w'.heap[b]?=w.heap[b]?:=hb b (by rw[h.owns];simp)
 refine⟨h1.trans h.cells,h.used,⟨h.own.1,?_⟩,h.owns⟩
 rcases h.own.2 with hn | ⟨g,cap,cur,fz,hv,hbg,hg,rest⟩
 ·exact .inl hn
 ·exact .inr ⟨g,cap,cur,fz,hv,hbg,(hb g (by rw[h.owns,hv];simp[Value.ownBlock])).trans hg,rest⟩
theorem BldAt.cells_of (h:BldAt w b O l pv bv):∀ i∈O,∃ cs T fz,w.heap[i]?=some (.cells cs T fz)∧(T=BT∨T=U8):=by
 intro i hi
 rw[h.owns] at hi
 rcases List.mem_cons.1 hi with rfl | hi
 ·exact⟨_,_,_,h.cells,.inl rfl⟩
 ·rcases h.own.2 with ⟨hv,_⟩ | ⟨g,cap,cur,fz,hv,hbg,hg,rest⟩
  ·rw[hv] at hi;simp[Value.ownBlock] at hi
  ·rw[hv] at hi
   simp[Value.ownBlock] at hi
   subst hi
   exact⟨_,_,_,hg,.inr rfl⟩
end
abbrev PT:TypeId:=163
abbrev PV:TypeId:=64
abbrev PK:TypeId:=158
structure KE where
 v:Jp.V
 g:Option Nat
def gP (g:Option Nat):Value:=.pointer (g.map fun b=>⟨b,0,none⟩)
def keV (e:KE):Value:=.agg #[.string (str e.v.n),.string (str e.v.x),.bool e.v.s,.int .i64 e.v.f,gP e.g]
def keD (e:KE):DataW Unit:=.agg [.lit (.string e.v.n),.lit (.string e.v.x),.lit (.bool e.v.s),.lit (.int .i64 e.v.f),match e.g with | none=>.nil | some b=>.lit (.int .i64 (b:Int))]
def keElem:Value→Option (DataW Unit×List MemPlace)
 | .agg cs=>match cs.toList with
  | [.string n,.string x,.bool s,.int .i64 f,.pointer none]=>some (keD ⟨⟨by8 n,by8 x,s,f⟩,none⟩,[])
  | [.string n,.string x,.bool s,.int .i64 f,.pointer (some ⟨b,0,none⟩)]=>some (keD ⟨⟨by8 n,by8 x,s,f⟩,some b⟩,[])
  | _=>none
 | _=>none
theorem keElem_mk (e:KE):keElem (keV e)=some (keD e,[]):=by
 obtain⟨v,g⟩:=e
 cases g with
 | none=>rfl
 | some b=>rfl
theorem keElem_inv (v:Value) (z:DataW Unit×List MemPlace) (h:keElem v=some z):∃ e,v=keV e∧z=(keD e,[]):=by
 unfold keElem at h
 split at h
 ·rename_i cs
  split at h
  ·rename_i n x s f e
   cases h
   refine⟨⟨⟨by8 n,by8 x,s,f⟩,none⟩,?_,rfl⟩
   unfold keV
   congr 1
   exact Array.toList_inj.1 e
  ·rename_i n x s f b e
   cases h
   refine⟨⟨⟨by8 n,by8 x,s,f⟩,some b⟩,?_,rfl⟩
   unfold keV
   congr 1
   exact Array.toList_inj.1 e
  ·cases h
 ·cases h
theorem keD_inj (a b:KE) (h:keD a=keD b):a=b:=by
 obtain⟨⟨n,x,s,f⟩,g⟩:=a
 obtain⟨⟨n',x',s',f'⟩,g'⟩:=b
 unfold keD at h
 simp only [DataW.agg.injEq,List.cons.injEq,DataW.lit.injEq,Lit.string.injEq,Lit.int.injEq,Lit.bool.injEq,and_true,true_and] at h
 obtain⟨rfl,rfl,rfl,rfl,h⟩:=h
 have:g=g':=by
  cases g with
  | none =>
   cases g' with
   | none=>rfl
   | some b=>cases h
  | some a =>
   cases g' with
   | none=>cases h
   | some b=>simp at h;rw[Int.ofNat.inj h]
 rw[this]
def ke0:KE:=⟨⟨[],[],false,0⟩,none⟩
def KK:Kind KE:=⟨160,158,keV,keD,keElem,ke0,keElem_mk,keElem_inv,keD_inj,Tryz.underlying160,fun w=>by kernel_rfl⟩
def chV (n:Int):Value:=.int .i64 n
def chD (n:Int):DataW Unit:=.lit (.int .i64 n)
def chElem:Value→Option (DataW Unit×List MemPlace)
 | .int .i64 n=>some (chD n,[])
 | _=>none
theorem chElem_inv (v:Value) (z:DataW Unit×List MemPlace) (h:chElem v=some z):∃ n,v=chV n∧z=(chD n,[]):=by
 unfold chElem at h
 split at h
 ·cases h;exact⟨_,rfl,rfl⟩
 ·cases h
def CK:Kind Int:=⟨161,214,chV,chD,chElem,0,fun _=>rfl,chElem_inv,fun a b h=>by unfold chD at h;simpa using h,Tryz.underlying161,fun w=>by kernel_rfl⟩
structure Grown (w:World) (E:List (Bs×KE)) (O:Bs→List Nat):Prop where
 at_:∀ e∈E,∀ b,e.2.g=some b→∃ pv bv,BldAt w b (O e.1) e.2.v.x pv bv
 apart:∀ e∈E,∀ e'∈E,e.1≠e'.1→e.2.g≠none→e'.2.g≠none→∀ i∈O e.1,i∉O e'.1
structure TabAt (w:World) (tb:Nat) (X:List Nat) (E:List (Bs×KE)) (M:List (Bs×Int)) (all:Bool) (mv mn:Option Nat) (O:Bs→List Nat):Prop where
 cells:w.heap[tb]?=some (.cells #[.map mv,.map mn,.bool all] PT (0,0))
 vars:MOpt KK w mv E
 named:MOpt CK w mn M
 ne:∀ b,mv=some b→mn≠some b
 keys:∀ e∈E,e.1=e.2.v.n
 grown:Grown w E O
 tX:tb∈X
 vX:∀ b,mv=some b→b∈X
 nX:∀ b,mn=some b→b∈X
 oX:∀ e∈E,e.2.g≠none→∀ i∈O e.1,i∈X
def Tab (w:World) (tb:Nat) (X:List Nat) (L:List Jp.V) (M:List (Bs×Int)) (all:Bool):Prop:=∃ E mv mn O,TabAt w tb X E M all mv mn O∧E.map (fun e=>e.2.v)=L
section
variable {w w':World} {tb:Nat} {X:List Nat} {E:List (Bs×KE)} {M:List (Bs×Int)} {all:Bool} {mv mn:Option Nat} {O:Bs→List Nat} {L:List Jp.V}
theorem Grown.block (h:Grown w E O) (hb:∀ e∈E,e.2.g≠none→∀ i∈O e.1,w'.heap[i]?=w.heap[i]?):Grown w' E O :=
 ⟨fun e he b hg=>by
  obtain⟨pv,bv,hB⟩:=h.at_ e he b hg
  exact⟨pv,bv,hB.block (hb e he (by rw[hg];simp))⟩,h.apart⟩
theorem Grown.ltO (h:Grown w E O):∀ e∈E,e.2.g≠none→∀ i∈O e.1,i<w.heap.size:=fun e he hg i hi=>by
 cases hq:e.2.g with
 | none=>exact absurd hq hg
 | some b =>
  obtain⟨pv,bv,hB⟩:=h.at_ e he b hq
  exact hB.ltO i hi
theorem Grown.kind (h:Grown w E O):∀ e∈E,e.2.g≠none→∀ i∈O e.1,∃ cs T fz,w.heap[i]?=some (.cells cs T fz)∧T≠PT:=fun e he hg i hi=>by
 cases hq:e.2.g with
 | none=>exact absurd hq hg
 | some b =>
  obtain⟨pv,bv,hB⟩:=h.at_ e he b hq
  obtain⟨cs,T,fz,h1,h2⟩:=hB.cells_of i hi
  refine⟨cs,T,fz,h1,?_⟩
  rcases h2 with rfl | rfl<;>decide
theorem TabAt.lt (h:TabAt w tb X E M all mv mn O):tb<w.heap.size:=(Array.getElem?_eq_some_iff.1 h.cells).1
theorem TabAt.c0 (h:TabAt w tb X E M all mv mn O):w.cell? ⟨tb,0,none⟩=some (.map mv):=zaa h.cells rfl
theorem TabAt.c1 (h:TabAt w tb X E M all mv mn O):w.cell? ⟨tb,1,none⟩=some (.map mn):=zaa h.cells rfl
theorem TabAt.c2 (h:TabAt w tb X E M all mv mn O):w.cell? ⟨tb,2,none⟩=some (.bool all):=zaa h.cells rfl
theorem TabAt.block (h:TabAt w tb X E M all mv mn O) (hb:∀ i∈X,i<w.heap.size→w'.heap[i]?=w.heap[i]?):TabAt w' tb X E M all mv mn O :=
 ⟨(hb _ h.tX h.lt).trans h.cells,h.vars.block fun b e=>hb b (h.vX b e) (h.vars.lt b e),h.named.block fun b e=>hb b (h.nX b e) (h.named.lt b e),h.ne,h.keys,
  h.grown.block fun e he hg i hi=>hb i (h.oX e he hg i hi) (h.grown.ltO e he hg i hi),h.tX,h.vX,h.nX,h.oX⟩
theorem TabAt.kept {Y:List Nat} (h:TabAt w tb X E M all mv mn O) (hk:Kept Y w w') (hx:∀ i∈X,i∉Y):TabAt w' tb X E M all mv mn O:=h.block fun i hi hl=>hk.block i hl (hx i hi)
theorem TabAt.below (h:TabAt w tb X E M all mv mn O) (hk:Below w.heap.size w w'):TabAt w' tb X E M all mv mn O:=h.block fun i _ hl=>hk.block i hl
theorem Tab.kept {Y:List Nat} (h:Tab w tb X L M all) (hk:Kept Y w w') (hx:∀ i∈X,i∉Y):Tab w' tb X L M all:=by
 obtain⟨E,mv,mn,O,h,e⟩:=h
 exact⟨E,mv,mn,O,h.kept hk hx,e⟩
theorem Tab.below (h:Tab w tb X L M all) (hk:Below w.heap.size w w'):Tab w' tb X L M all:=by
 obtain⟨E,mv,mn,O,h,e⟩:=h
 exact⟨E,mv,mn,O,h.below hk,e⟩
theorem get_map (hk:∀ e∈E,e.1=e.2.v.n) (p:Bs):Jp.getA (E.map fun e=>e.2.v) p=(Kp.get E p).map fun e=>e.2.v:=by
 induction E with
 | nil=>rfl
 | cons a r ih =>
  have h1:=hk a (by simp)
  have ih:=ih fun e he=>hk e (by simp[he])
  show (if a.2.v.n=p then some a.2.v else Jp.getA (r.map fun e=>e.2.v) p)=_
  unfold Kp.get
  rw[List.find?_cons]
  by_cases h:a.2.v.n=p
  ·rw[if_pos h,show (a.1 == p)=true by rw[h1];simpa using h];rfl
  ·rw[if_neg h,show (a.1 == p)=false by rw[h1];simpa using h,ih];rfl
end
theorem less_lt:∀ (a b:Bs),Op.bytesLess a b=decide (a<b)
 | [],[]=>by simp[Op.bytesLess]
 | [],_ :: _=>by simp[Op.bytesLess]
 | _ :: _,[]=>by simp[Op.bytesLess]
 | a :: r,b :: s=>by
  rw[Op.bytesLess,less_lt r s]
  simp only [List.cons_lt_cons_iff]
  by_cases h1:a<b<;>by_cases h2:a=b<;>by_cases h3:r<s<;>simp[h1,h2,h3]
theorem ins_step (v x:Jp.V) (d:Bool) (r:List Jp.V):Jp.insA v d (x :: r)=(if d=false∧Op.bytesLess x.n v.n=false then [v] else [])++(if x.n=v.n then [] else [x])++Jp.insA v (d || !Op.bytesLess x.n v.n) r:=rfl
theorem znr {v:Jp.V}:∀ {l:List Jp.V},(∀ x∈l,x.n≠v.n)→Jp.insA v true l=l
 | [],_=>rfl
 | x :: r,h=>by
  rw[ins_step,if_neg (by simp),if_neg (h x (by simp))]
  simp[znr (v:=v) (l:=r) fun y hy=>h y (by simp[hy])]
theorem ins_map {v:Jp.V} {g:Option Nat}:∀ {E:List (Bs×KE)},Kp.Sorted E→(∀ e∈E,e.1=e.2.v.n)→(Kp.ins E (v.n,⟨v,g⟩)).map (fun e=>e.2.v)=Jp.insA v false (E.map fun e=>e.2.v)
 | [],_,_=>rfl
 | a :: r,hs,hk=>by
  obtain⟨h1,h2⟩:=List.pairwise_cons.1 hs
  have ha:=hk a (by simp)
  have hk':∀ e∈r,e.1=e.2.v.n:=fun e he=>hk e (by simp[he])
  have ih:=ins_map (v:=v) (g:=g) h2 hk'
  rw[List.map_cons,ins_step,less_lt,←ha]
  unfold Kp.ins
  by_cases e1:a.1=v.n
  ·have hd:∀ x∈r.map (fun e=>e.2.v),x.n≠v.n:=fun x hx=>by
    obtain⟨e,he,rfl⟩:=List.mem_map.1 hx
    rw[←hk' e he,←e1]
    exact fun h=>Kp.zjs (h1 e he) h.symm
   rw[if_pos e1,if_pos e1,e1,if_pos ⟨rfl,by simp[Kp.zdd]⟩]
   simp[Kp.zdd,znr hd]
  ·rw[if_neg e1,if_neg e1]
   by_cases e2:v.n<a.1
   ·have hn:¬ a.1<v.n:=fun h=>Kp.zdd _ (Kp.ziq e2 h)
    have hd:∀ x∈r.map (fun e=>e.2.v),x.n≠v.n:=fun x hx=>by
     obtain⟨e,he,rfl⟩:=List.mem_map.1 hx
     rw[←hk' e he]
     exact fun h=>Kp.zdd _ (Kp.ziq e2 (h▸h1 e he))
    rw[if_pos e2,if_pos ⟨rfl,by simp[hn]⟩]
    simp[hn,znr hd]
   ·have hn:a.1<v.n:=Kp.lt_or e2 fun h=>e1 h.symm
    rw[if_neg e2,if_neg (by simp[hn])]
    simp[hn,ih]
end Jw
namespace Jw
open Go.RowKit Ww Tw
def zeroV:Array Value:=#[.string ⟨#[]⟩,.string ⟨#[]⟩,.bool false,.int .i64 0]
def gV (o:Option Jp.V):Ending:=match o with | none=>.returned (.tuple #[.agg zeroV,.bool false]) | some v=>.returned (.tuple #[.agg (vA v),.bool true])
theorem getA_drop {l:List Jp.V} {k:Bs} {i:Nat} (h:i<l.length) (hn:¬ l[i].n=k):Jp.getA (l.drop i) k=Jp.getA (l.drop (i+1)) k:=by
 rw[List.drop_eq_getElem_cons h]
 show (if l[i].n=k then some l[i] else Jp.getA (l.drop (i+1)) k)=_
 rw[if_neg hn]
theorem getA_hit {l:List Jp.V} {k:Bs} {i:Nat} (h:i<l.length) (hn:l[i].n=k):Jp.getA (l.drop i) k=some l[i]:=by
 rw[List.drop_eq_getElem_cons h]
 show (if l[i].n=k then some l[i] else Jp.getA (l.drop (i+1)) k)=_
 rw[if_pos hn]
theorem one_v (v:Jp.V):(vA v).all (·.oneCell')=true:=by simp[vA,Value.oneCell']
theorem one_z:zeroV.all (·.oneCell')=true:=by simp[zeroV,Value.oneCell']
def GRel (w:World) (vl:Value) (l:List Jp.V) (k:Bs) (vi:Value) (wr:World):Prop :=
 ∃ i:Nat,vi=.int .i64 i∧i≤l.length∧wr.cell? ⟨w.heap.size,0,none⟩=some vl∧wr.heap[w.heap.size+1]?=some (.cells zeroV VT (0,0))∧Below w.heap.size w wr∧Jp.getA l k=Jp.getA (l.drop i) k
theorem Get_any (w:World) (lo:Nat) (vl vy vn:Value) (all:Bool) (l:List Jp.V) (k:Bs) (hl:w.ownsRow lo VT 4 vl l.length (vsC l)) (hz:l.length≤100000) :
  Calls Tryz.prog 18 #[.agg #[vl,vy,vn,.bool all],.string (str k)] w fun e w'=>e=gV (Jp.getA l k)∧Below w.heap.size w w':=by
 obtain⟨a,c,rfl⟩:=zac hl
 have HL:=Lib.hid hl
 have HB:=Lib.hid (((Below.refl w.heap.size w).alloc (Nat.le_refl _) (.cells #[.slice a l.length c,vy,vn,.bool all] TT)).alloc (by simp) (.cells zeroV VT))
 have HT:Hid (((w.alloc (.cells #[.slice a l.length c,vy,vn,.bool all] TT)).alloc (.cells zeroV VT)).heap[w.heap.size]?=some (.cells #[.slice a l.length c,vy,vn,.bool all] TT (0,0))) :=
  Lib.hid ((((Below.refl (w.alloc (.cells #[.slice a l.length c,vy,vn,.bool all] TT)).heap.size _).alloc (Nat.le_refl _) (.cells zeroV VT)).block w.heap.size (by simp)).trans (zah w _))
 have HRB:Hid (((w.alloc (.cells #[.slice a l.length c,vy,vn,.bool all] TT)).alloc (.cells zeroV VT)).heap[w.heap.size+1]?=some (.cells zeroV VT (0,0))):=Lib.hid (by
  have:=zah (w.alloc (.cells #[.slice a l.length c,vy,vn,.bool all] TT)) (.cells zeroV VT)
  rw[World.size_alloc] at this;exact this)
 clear hl
 go_enter Tryz.func18,Tryz.ntmps18
 go_wp2_with fail
 go_loopw [6] (fun vi wr=>GRel w (.slice a l.length c) l k vi wr) (fun vi _=>l.length - (intOf vi).toNat)
 case atStart=>exact⟨0,rfl,Nat.zero_le _,zaa HT.out rfl,HRB.out,HB.out,rfl⟩
 case round =>
  clear HB HT HRB
  obtain⟨i,rfl,hi,h0,hbx,hB,hg⟩:=hrel
  have HBX:=Lib.hid hbx
  have HB:=Lib.hid hB
  have hbl:=(Array.getElem?_eq_some_iff.1 hbx).1
  by_cases hlt:i<l.length
  ·obtain⟨g,rfl,hc,hgl,_,x0,x1,x2,x3⟩:=zth HL.out hlt
   have p0:=(hB.cell (p:=⟨g,i * 4,none⟩) hgl).trans x0
   have p1:=(hB.cell (p:=⟨g,i * 4+1,none⟩) hgl).trans x1
   have p2:=(hB.cell (p:=⟨g,i * 4+2,none⟩) hgl).trans x2
   have p3:=(hB.cell (p:=⟨g,i * 4+3,none⟩) hgl).trans x3
   have hki:(i:Int)<l.length:=by omega
   have hk0:(0:Int)≤(i:Int):=Int.natCast_nonneg _
   by_cases hk:l[i].n=k
   ·have HG:Hid (Jp.getA l k=some l[i]):=Lib.hid (hg.trans (getA_hit hlt hk))
    have hq:=zeg (a:=str l[i].n) (b:=str k) (by rw[zam,zam];exact hk)
    clear x0 x1 x2 x3 hg hbx hB hk
    generalize l[i]=x at *
    go_wp2_with (refine wpList_store_row rfl VT _ _ rfl (w.heap.size+1) (vA x) rfl rfl VT zeroV HBX.out sizeV rfl (one_v x) ?_)
    (try simp only [Exit.inBlock,Exit.then])
    refine bodyPost_ret (zal Tryz.results18 _ _ (w.heap.size+1) VT (vA x) (0,0) _ (.bool true) rfl rfl (setRow_heap _ _ _ _ _ _ HBX.out) undV rfl sizeV) rfl ?_
    rw[HG.out]
    exact⟨rfl,below_setRow HB.out (by omega) _⟩
   ·have HG:Hid (Jp.getA l k=Jp.getA (l.drop (i+1)) k):=Lib.hid (hg.trans (getA_drop hlt hk))
    have hq:=zhq (a:=str l[i].n) (b:=str k) (by rw[zam,zam];exact hk)
    clear x0 x1 x2 x3 hg hbx hB hk
    generalize l[i]=x at *
    go_wp2_with fail
    go_roundw
    case rel=>exact⟨i+1,by go_num,hlt,h0,HBX.out,HB.out,HG.out⟩
    case measure=>simp[intOf];omega
  ·obtain rfl:i=l.length:=by omega
   have HG:Hid (Jp.getA l k=none):=Lib.hid (hg.trans (by rw[List.drop_length];rfl))
   have hki:¬ (l.length:Int)<l.length:=by omega
   clear hg hbx hB
   go_wp2_with (refine wpList_store_row rfl VT _ _ rfl (w.heap.size+1) zeroV rfl rfl VT zeroV HBX.out sizeV rfl one_z ?_)
   (try simp only [Exit.inBlock,Exit.then])
   refine bodyPost_ret (zal Tryz.results18 _ _ (w.heap.size+1) VT zeroV (0,0) _ (.bool false) rfl rfl (setRow_heap _ _ _ _ _ _ HBX.out) undV rfl sizeV) rfl ?_
   rw[HG.out]
   exact⟨rfl,below_setRow HB.out (by omega) _⟩
theorem emp_yes {l:Bs} (h:l=[]):(str l).toList=[]:=by rw[zau];exact h
theorem emp_no {l:Bs} (h:¬ l=[]):¬ (str l).toList=[]:=by rw[zau];exact h
theorem emp_is {l:Bs} (h:¬ l=[]):(str l).toList.isEmpty=false:=by
 cases h':(str l).toList with
 | nil=>exact absurd h' (emp_no h)
 | cons=>rfl
open Kw
theorem Grown.nil (w:World) (O:Bs→List Nat):Grown w [] O:=⟨fun e h=>(by cases h),fun e h=>(by cases h)⟩
theorem zpg (w:World) (v:Jp.V):Calls Tryz.prog 91 #[.agg (vA v)] w fun e w'=>e=.returned (.bool (!Jp.zha v))∧Below w.heap.size w w':=by
 have HB:=Lib.hid ((Below.refl w.heap.size w).alloc (Nat.le_refl _) (.cells (vA v) PV))
 have hb:=zah w (.cells (vA v) PV)
 have c0:=zaa (i:=0) hb rfl
 have c1:=zaa (i:=1) hb rfl
 have c2:=zaa (i:=2) hb rfl
 have c3:=zaa (i:=3) hb rfl
 clear hb
 unfold vA at *
 by_cases h0:v.n=[]
 ·have HR:Hid (Jp.zha v=false):=Lib.hid (by unfold Jp.zha;rw[h0];rfl)
  have e0:=emp_yes h0
  clear h0
  go_enter Tryz.func91,Tryz.ntmps91
  go_wp2_with fail
  go_ret
  exact⟨zao (by rw[HR.out];rfl),HB.out⟩
 ·have e0:=emp_no h0
  have e1:=emp_is h0
  by_cases h1:0≤v.f
  ·by_cases h2:v.f≤4
   ·have HR:Hid (Jp.zha v=true):=Lib.hid (by
     unfold Jp.zha
     rw[decide_eq_true h1,decide_eq_true h2]
     cases hn:v.n with
     | nil=>exact absurd hn h0
     | cons=>rfl)
    have k1:¬ v.f<0:=by omega
    have k2:¬ 4<v.f:=by omega
    clear h0
    go_enter Tryz.func91,Tryz.ntmps91
    go_wp2_with fail
    go_ret
    exact⟨zao (by rw[HR.out];rfl),HB.out⟩
   ·have HR:Hid (Jp.zha v=false):=Lib.hid (by
     unfold Jp.zha
     rw[decide_eq_false h2,Bool.and_false,Bool.and_false])
    have k1:¬ v.f<0:=by omega
    have k2:4<v.f:=by omega
    clear h0
    go_enter Tryz.func91,Tryz.ntmps91
    go_wp2_with fail
    go_ret
    exact⟨zao (by rw[HR.out];rfl),HB.out⟩
  ·have HR:Hid (Jp.zha v=false):=Lib.hid (by
    unfold Jp.zha
    rw[decide_eq_false h1,Bool.false_and,Bool.and_false])
   have k1:v.f<0:=by omega
   clear h0
   go_enter Tryz.func91,Tryz.ntmps91
   go_wp2_with fail
   go_ret
   exact⟨zao (by rw[HR.out];rfl),HB.out⟩
theorem PGet_at (w:World) {tb:Nat} {X:List Nat} {E:List (Bs×KE)} {M:List (Bs×Int)} {all:Bool} {mv mn:Option Nat} {O:Bs→List Nat} (h:TabAt w tb X E M all mv mn O) (p:ByteArray) (hp:p.size≤maxLen) (v:Jp.V) (q:Option Addr) (b:Bool)
  (hV:Hid (keV (valA KK E (by8 p))=.agg #[.string (str v.n),.string (str v.x),.bool v.s,.int .i64 v.f,.pointer q]∧(Kp.get E (by8 p)).isSome=b)) :
  Calls Tryz.prog 17 #[.pointer (some ⟨tb,0,none⟩),.string p] w fun e w'=>e=.returned (.tuple #[.agg (vA v),.bool b])∧Below w.heap.size w w':=by
 have c0:=h.c0
 have hlt:=h.lt
 have hM:=h.vars.below ((Below.refl w.heap.size w).alloc (Nat.le_refl _) (.cells zeroV PV))
 clear h
 go_enter Tryz.func17,Tryz.ntmps17
 go_wp2_with (at_lookup;refine zii (K:=KK) _ rfl _ _ rfl rfl rfl hM hp (.agg #[.string (str v.n),.string (str v.x),.bool v.s,.int .i64 v.f,.pointer q]) b hV ?_)
 exact bodyPost_ret (v:=.tuple #[.agg (vA v),.bool b]) (by simp[results,Tryz.results17,go_sem];rfl) rfl ⟨rfl,(((Below.refl _ w).alloc (Nat.le_refl _) _).alloc (by simp) _)⟩
theorem TabAt.got {w:World} {tb:Nat} {X:List Nat} {E:List (Bs×KE)} {M:List (Bs×Int)} {all:Bool} {mv mn:Option Nat} {O:Bs→List Nat} (h:TabAt w tb X E M all mv mn O) (p:Bs) :
  (Jp.getA (E.map fun e=>e.2.v) p=none∧valA KK E p=ke0∧(Kp.get E p).isSome=false)∨∃ e∈E,Kp.get E p=some e∧e.1=p∧Jp.getA (E.map fun e=>e.2.v) p=some e.2.v∧valA KK E p=e.2∧(Kp.get E p).isSome=true:=by
 have hg:=get_map h.keys p
 cases hq:Kp.get E p with
 | none =>
  refine .inl ⟨by rw[hg,hq];rfl,?_,rfl⟩
  unfold valA;rw[hq];rfl
 | some e =>
  have he:=(Kp.zgm h.vars.sorted).1 hq
  refine .inr ⟨e,he.1,rfl,he.2,by rw[hg,hq];rfl,?_,rfl⟩
  unfold valA;rw[hq];rfl
theorem PGet_any (w:World) {tb:Nat} {X:List Nat} {L:List Jp.V} {M:List (Bs×Int)} {all:Bool} (h:Tab w tb X L M all) (p:ByteArray) (hp:p.size≤maxLen) :
  Calls Tryz.prog 17 #[.pointer (some ⟨tb,0,none⟩),.string p] w fun e w'=>e=gV (Jp.getA L (by8 p))∧Below w.heap.size w w':=by
 obtain⟨E,mv,mn,O,h,rfl⟩:=h
 rcases h.got (by8 p) with ⟨h1,h2,h3⟩ | ⟨e,he,h0,hk,h1,h2,h3⟩
 ·rw[h1]
  exact PGet_at w h p hp Jp.zero none false (Lib.hid ⟨by rw[h2];rfl,h3⟩)
 ·rw[h1]
  obtain⟨e1,v,g⟩:=e
  dsimp only at *
  exact PGet_at w h p hp v _ true (Lib.hid ⟨by rw[h2];rfl,h3⟩)
end Jw
end Go.Proofs.YtgdpbnfgcabneaaGreatDoor

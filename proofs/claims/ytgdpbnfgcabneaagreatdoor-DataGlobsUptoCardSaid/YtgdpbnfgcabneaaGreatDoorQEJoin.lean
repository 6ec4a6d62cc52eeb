/- Part of the proof. -/
import Derived.Test.YtgdpbnfgcabneaaGreatDoorQWSplit
set_option maxRecDepth 100000
set_option maxHeartbeats 40000000
namespace Go.Proofs.YtgdpbnfgcabneaaGreatDoor
namespace Ww
open Go.RowKit
abbrev IT:TypeId:=3
theorem zck {w:World} {b1 b2:Nat} {e1 e2:TypeId} {s1 s2:Nat} {v1 v2:Value} {n1 n2:Nat} {x1 x2:List Value} (h1:w.ownsRow b1 e1 s1 v1 n1 x1) (h2:w.ownsRow b2 e2 s2 v2 n2 x2) (hne:e1≠e2):v1.ownBlock=none∨v1.ownBlock≠v2.ownBlock:=by
 rcases h1.2 with ⟨rfl,_⟩ | ⟨g,cap,cur,rfl,_,hg,_⟩
 ·exact .inl rfl
 ·refine .inr fun e=>?_
  rcases h2.2 with ⟨rfl,_⟩ | ⟨g',cap',cur',rfl,_,hg',_⟩
  ·cases e
  ·have:g=g':=by simpa[Value.ownBlock] using e
   subst this
   rw[hg] at hg'
   cases hg'
   exact hne rfl
def RsRel (w:World) (s:ByteArray) (vo va vf vi:Value) (wr:World):Prop :=
 ∃ (pre:List (Nat×Nat)) (f k:Nat) (a1:Option Addr) (c1:Nat) (a2:Option Addr) (c2:Nat),vo=.slice a1 pre.length c1∧va=.slice a2 pre.length c2∧vf=.int .i64 f∧vi=.int .i64 k∧f≤k∧k≤s.size+1 ∧
  Wp.items (by8 s)=pre++Wp.zfb (by8 s) f k∧wr.ownsRow w.heap.size ST 1 (.slice a1 pre.length c1) pre.length (zbb (pre.map (part s)))∧wr.ownsRow w.heap.size IT 1 (.slice a2 pre.length c2) pre.length (zhd (pre.map (·.1)))∧Below w.heap.size w wr
theorem RsRel.add {w wr w1 w2:World} {s:ByteArray} {pre:List (Nat×Nat)} {f k:Nat} {a1 a2 b1 b2:Option Addr} {c1 c2 d1 d2:Nat} {o1 o2:Obj} (hk:k≤s.size)
  (hp:Wp.items (by8 s)=pre++(f,k) :: Wp.zfb (by8 s) (k+1) (k+1))
  (hB:Below w.heap.size w wr)
  (h1:wr.ownsRow w.heap.size ST 1 (.slice a1 pre.length c1) pre.length (zbb (pre.map (part s)))) (h2:wr.ownsRow w.heap.size IT 1 (.slice a2 pre.length c2) pre.length (zhd (pre.map (·.1))))
  (hr1:w1.ownsRow w.heap.size ST 1 (.slice b1 (pre.length+1) d1) (pre.length+1) (zbb (pre.map (part s))++[.string (s.extract f k)])) (hg1:(wr.alloc o1).grownBy w1 (Value.slice a1 pre.length c1).ownBlock)
  (hr2:w2.ownsRow w.heap.size IT 1 (.slice b2 (pre.length+1) d2) (pre.length+1) (zhd (pre.map (·.1))++[.int .i64 (f:Int)])) (hg2:(w1.alloc o2).grownBy w2 (Value.slice a2 pre.length c2).ownBlock) :
  RsRel w s (.slice b1 (pre.length+1) d1) (.slice b2 (pre.length+1) d2) (.int .i64 ((k:Int)+1)) (.int .i64 ((k:Int)+1)) w2:=by
 have e:(pre++[(f,k)]).length=pre.length+1:=by simp
 have hB1:=(hB.alloc hB.size o1).grown hg1 (by have:=hB.size;simp;omega) fun j ej=>(h1.lt j ej).1
 have h2':w1.ownsRow w.heap.size IT 1 (.slice a2 pre.length c2) pre.length (zhd (pre.map (·.1))):=(h2.alloc o1).kept hg1 (zck (h2.alloc o1) (h1.alloc o1) (by decide))
 refine⟨pre++[(f,k)],k+1,k+1,b1,d1,b2,d2,by rw[e],by rw[e],by go_num,by go_num,Nat.le_refl _,by omega,by rw[hp];simp,?_,?_,(hB1.alloc hB1.size o2).grown hg2 (by have:=hB1.size;simp;omega) fun j ej=>(h2'.lt j ej).1⟩
 ·rw[e,List.map_append]
  have:zbb (pre.map (part s)++List.map (part s) [(f,k)])=zbb (pre.map (part s))++[.string (s.extract f k)]:=by simp[zbb,part]
  rw[this]
  exact(hr1.alloc o2).kept hg2 (zck (hr1.alloc o2) (h2'.alloc o2) (by decide))
 ·rw[e,List.map_append]
  have:zhd (pre.map (·.1)++List.map (·.1) [(f,k)])=zhd (pre.map (·.1))++[.int .i64 (f:Int)]:=by simp[zhd]
  rw[this]
  exact hr2
end Ww
namespace Ew
open Go.RowKit Ww
abbrev ST:TypeId:=9
def part (s:ByteArray) (x:Nat×Nat):ByteArray:=s.extract x.1 x.2
theorem zjo {s:ByteArray} {k:Nat} {c:UInt8} (h:k<s.size) (hc:(by8 s)[k]?=some c):c=s[k]:=by
 rw[zcc h] at hc;exact(Option.some.inj hc).symm
theorem zoc {s:ByteArray} {k:Nat} (h:k<s.size) (hb:Wp.zaw s[k]=true):∀ c,(by8 s)[k]?=some c→Wp.zaw c=true:=fun c hc=>by rw[zjo h hc];exact hb
theorem zkh (s:ByteArray):∀ c,(by8 s)[s.size]?=some c→Wp.zaw c=true:=fun c hc=>by
 rw[List.getElem?_eq_none (by rw[zab];exact Nat.le_refl _)] at hc;cases hc
theorem go_on {s:ByteArray} {f k:Nat} (h:k<s.size) (hb:Wp.zaw s[k]=false):Wp.zfb (by8 s) f k=Wp.zfb (by8 s) f (k+1) :=
 Wp.restI_in (c:=s[k]) (by rw[zab];exact h) (by have:=zcc h;rw[List.getElem?_eq_getElem (by rw[zab];exact h)] at this;exact Option.some.inj this) hb
theorem zjk:(Tryz.prog.info? ST).map (fun i=>(i.zero,i.size,i.bytes))=some (some (.string ByteArray.empty),1,16):=by kernel_rfl
def zbg (s:ByteArray):List ByteArray:=(Wp.items (by8 s)).map (part s)
theorem zla (s:ByteArray):(zbg s).length=(Wp.items (by8 s)).length:=by simp[zbg]
theorem zhx (s:ByteArray):(Wp.items (by8 s)).length≤s.size:=by have:=Wp.zte (by8 s);rwa[zab] at this
theorem zcs (w:World) (c:UInt8) (b:Bool) (hb:Hid (Wp.zaw c=b)):Calls Tryz.prog 63 #[.int .u8 (c.toNat:Int)] w fun e w'=>e=.returned (.bool b)∧w=w':=by
 by_cases h1:c=32
 ·subst h1
  obtain rfl:true=b:=hb.out
  go_enter Tryz.func63,Tryz.ntmps63
  go_wp2_with fail
  go_ret
  exact⟨rfl,rfl⟩
 ·by_cases h2:c=9
  ·subst h2
   obtain rfl:true=b:=hb.out
   go_enter Tryz.func63,Tryz.ntmps63
   go_wp2_with fail
   go_ret
   exact⟨rfl,rfl⟩
  ·by_cases h3:c=10
   ·subst h3
    obtain rfl:true=b:=hb.out
    go_enter Tryz.func63,Tryz.ntmps63
    go_wp2_with fail
    go_ret
    exact⟨rfl,rfl⟩
   ·have hb1:((c.toNat:Int) == 32)=false:=eq_false (b:=32) h1
    have hb2:((c.toNat:Int) == 9)=false:=eq_false (b:=9) h2
    have hb3:((c.toNat:Int) == 10)=false:=eq_false (b:=10) h3
    obtain rfl:false=b:=by rw[←hb.out];simp[Wp.zaw,h1,h2,h3]
    clear h1 h2 h3 hb
    go_enter Tryz.func63,Tryz.ntmps63
    go_wp2_with fail
    go_ret
    exact⟨rfl,rfl⟩
abbrev IT:TypeId:=3
theorem infoI:(Tryz.prog.info? IT).map (fun i=>(i.zero,i.size,i.bytes))=some (some (.int .i64 0),1,8):=by kernel_rfl
def startsS (s:ByteArray):List Nat:=(Wp.items (by8 s)).map (·.1)
theorem zck {w:World} {b1 b2:Nat} {e1 e2:TypeId} {s1 s2:Nat} {v1 v2:Value} {n1 n2:Nat} {x1 x2:List Value} (h1:w.ownsRow b1 e1 s1 v1 n1 x1) (h2:w.ownsRow b2 e2 s2 v2 n2 x2) (hne:e1≠e2):v1.ownBlock=none∨v1.ownBlock≠v2.ownBlock:=by
 rcases h1.2 with ⟨rfl,_⟩ | ⟨g,cap,cur,rfl,_,hg,_⟩
 ·exact .inl rfl
 ·refine .inr fun e=>?_
  rcases h2.2 with ⟨rfl,_⟩ | ⟨g',cap',cur',rfl,_,hg',_⟩
  ·cases e
  ·have:g=g':=by simpa[Value.ownBlock] using e
   subst this
   rw[hg] at hg'
   cases hg'
   exact hne rfl
theorem zuo {w w1:World} {b1 b2:Nat} {v1 v2:Value} {n1 n2:Nat} {x1 x2:List Value} {o:Obj} (h2:w.ownsRow b2 IT 1 v2 n2 x2) (h1:w.ownsRow b1 ST 1 v1 n1 x1) (hg:(w.alloc o).grownBy w1 v1.ownBlock):w1.ownsRow b2 IT 1 v2 n2 x2 :=
 (h2.alloc o).kept hg (zck (h2.alloc o) (h1.alloc o) (by decide))
def RsRel (w:World) (s:ByteArray) (vo va vf vi:Value) (wr:World):Prop :=
 ∃ (pre:List (Nat×Nat)) (f k:Nat) (a1:Option Addr) (c1:Nat) (a2:Option Addr) (c2:Nat),vo=.slice a1 pre.length c1∧va=.slice a2 pre.length c2∧vf=.int .i64 f∧vi=.int .i64 k∧f≤k∧k≤s.size+1 ∧
  Wp.items (by8 s)=pre++Wp.zfb (by8 s) f k∧wr.ownsRow w.heap.size ST 1 (.slice a1 pre.length c1) pre.length (zbb (pre.map (part s)))∧wr.ownsRow w.heap.size IT 1 (.slice a2 pre.length c2) pre.length (zhd (pre.map (·.1)))∧Below w.heap.size w wr
theorem RsRel.add {w wr w1 w2:World} {s:ByteArray} {pre:List (Nat×Nat)} {f k:Nat} {a1 a2 b1 b2:Option Addr} {c1 c2 d1 d2:Nat} {o1 o2:Obj} (hk:k≤s.size)
  (hp:Wp.items (by8 s)=pre++(f,k) :: Wp.zfb (by8 s) (k+1) (k+1))
  (hB:Below w.heap.size w wr)
  (h1:wr.ownsRow w.heap.size ST 1 (.slice a1 pre.length c1) pre.length (zbb (pre.map (part s)))) (h2:wr.ownsRow w.heap.size IT 1 (.slice a2 pre.length c2) pre.length (zhd (pre.map (·.1))))
  (hr1:w1.ownsRow w.heap.size ST 1 (.slice b1 (pre.length+1) d1) (pre.length+1) (zbb (pre.map (part s))++[.string (s.extract f k)])) (hg1:(wr.alloc o1).grownBy w1 (Value.slice a1 pre.length c1).ownBlock)
  (hr2:w2.ownsRow w.heap.size IT 1 (.slice b2 (pre.length+1) d2) (pre.length+1) (zhd (pre.map (·.1))++[.int .i64 (f:Int)])) (hg2:(w1.alloc o2).grownBy w2 (Value.slice a2 pre.length c2).ownBlock) :
  RsRel w s (.slice b1 (pre.length+1) d1) (.slice b2 (pre.length+1) d2) (.int .i64 ((k:Int)+1)) (.int .i64 ((k:Int)+1)) w2:=by
 have e:(pre++[(f,k)]).length=pre.length+1:=by simp
 have hB1:=(hB.alloc hB.size o1).grown hg1 (by have:=hB.size;simp;omega) fun j ej=>(h1.lt j ej).1
 have h2':w1.ownsRow w.heap.size IT 1 (.slice a2 pre.length c2) pre.length (zhd (pre.map (·.1))):=(h2.alloc o1).kept hg1 (zck (h2.alloc o1) (h1.alloc o1) (by decide))
 refine⟨pre++[(f,k)],k+1,k+1,b1,d1,b2,d2,by rw[e],by rw[e],by go_num,by go_num,Nat.le_refl _,by omega,by rw[hp];simp,?_,?_,(hB1.alloc hB1.size o2).grown hg2 (by have:=hB1.size;simp;omega) fun j ej=>(h2'.lt j ej).1⟩
 ·rw[e,List.map_append]
  have:zbb (pre.map (part s)++List.map (part s) [(f,k)])=zbb (pre.map (part s))++[.string (s.extract f k)]:=by simp[zbb,part]
  rw[this]
  exact(hr1.alloc o2).kept hg2 (zck (hr1.alloc o2) (h2'.alloc o2) (by decide))
 ·rw[e,List.map_append]
  have:zhd (pre.map (·.1)++List.map (·.1) [(f,k)])=zhd (pre.map (·.1))++[.int .i64 (f:Int)]:=by simp[zhd]
  rw[this]
  exact hr2
theorem zgn (w:World) (s:ByteArray) (hs:s.size≤100000000) :
  Calls Tryz.prog 19 #[.string s] w fun e w'=>∃ v1 v2,e=.returned (.tuple #[v1,v2])∧w'.ownsRow w.heap.size ST 1 v1 (zbg s).length (zbb (zbg s))∧Rd w' w'.heap.size v2 (zhd (startsS s))∧Below w.heap.size w w':=by
 obtain⟨i0,hi,hz0,hz1,hz2⟩:=info_parts zjk
 obtain⟨j0,hj,hy0,hy1,hy2⟩:=info_parts infoI
 have hil:=zhx s
 go_enter Tryz.func19,Tryz.ntmps19
 go_wp2_with fail
 go_loopw [4,5,6,7] (fun vo va vf vi wr=>RsRel w s vo va vf vi wr) (fun _ _ _ vi _=>s.size+1 - (intOf vi).toNat)
 case atStart=>exact⟨[],0,0,none,0,none,0,rfl,rfl,rfl,rfl,Nat.le_refl _,Nat.zero_le _,(Wp.zno _).symm,World.ownsRow_nil _ _ _ _,World.ownsRow_nil _ _ _ _,Below.refl _ _⟩
 case round =>
  obtain⟨pre,f,k,a1,c1,a2,c2,rfl,rfl,rfl,rfl,hfk,hk,hp,h1,h2,hB⟩:=hrel
  have hpl:pre.length≤(Wp.items (by8 s)).length:=by rw[hp];simp
  by_cases hlt:k<s.size
  ·have hne:((k:Int) == (s.size:Int))=false:=beq_eq_false_iff_ne.2 (by omega)
   cases hb:Wp.zaw s[k] with
   | false =>
    have HB:=Lib.hid hb
    have HP:Hid (Wp.items (by8 s)=pre++Wp.zfb (by8 s) f (k+1)):=Lib.hid (by rw[hp,go_on hlt hb])
    clear hb hp
    go_wp2_with fail
    refine(zcs _ s[k] _ HB).mono ?_
    rintro e w' ⟨rfl,rfl⟩
    go_wp2_with fail
    go_roundw
    case rel=>exact⟨pre,f,k+1,a1,c1,a2,c2,rfl,rfl,rfl,by go_num,by omega,by omega,HP.out,h1,h2,hB⟩
    case measure=>simp[intOf];omega
   | true =>
    have HB:=Lib.hid hb
    by_cases hf:f<k
    ·have hr:=Wp.zjz (u:=by8 s) (f:=f) (k:=k) (by rw[zab];omega) (zoc hlt hb) hf
     rw[hr] at hp
     have HN:=Lib.hid fun w1 w2 b1 b2 d1 d2 o1 o2=>@RsRel.add w wr w1 w2 s pre f k a1 a2 b1 b2 c1 c2 d1 d2 o1 o2 (by omega) hp hB h1 h2
     clear hb hp hr
     go_wp2_with fail
     refine(zcs _ s[k] _ HB).mono ?_
     rintro e w' ⟨rfl,rfl⟩
     go_wp2_with (first
      | (at_builtin;refine wpList_append_own _ rfl _ _ 75 rfl w.heap.size IT j0 (.int .i64 0) 1 8 Tryz.underlying75 hj hy0 hy1 hy2 rfl (by decide) _ _ _ rfl (h2'.alloc _) ⟨w1.heap.size,0,none⟩ 1 1 [.int .i64 (f:Int)] rfl rfl (cell_one_new _ _ _) (by simp[Value.oneCell']) (by unfold maxLen;omega) (by omega) (by have:=hB.size;have:=hgrow1.size;simp at this ⊢;omega) ?_;intro v'' w2 hown2 hgrow2 _;obtain⟨b2,d2,rfl⟩:=zac hown2)
      | (at_builtin;refine wpList_append_own _ rfl _ _ 27 rfl w.heap.size ST i0 (.string ByteArray.empty) 1 16 Tryz.underlying27 hi hz0 hz1 hz2 rfl (by decide) _ _ _ rfl (h1.alloc _) ⟨wr.heap.size,0,none⟩ 1 1 [.string (s.extract f k)] rfl rfl (cell_one_new _ _ _) (by simp[Value.oneCell']) (by unfold maxLen;omega) (by omega) (by have:=hB.size;simp;omega) ?_;intro v' w1 hown1 hgrow1 _;obtain⟨b1,d1,rfl⟩:=zac hown1;go_must (have h2':=zuo h2 h1 hgrow1)))
     go_roundw
     case rel=>exact HN.out _ _ _ _ _ _ _ _ hown1 hgrow1 hown2 hgrow2
     case measure=>simp[intOf];omega
    ·have hr:=Wp.zmm (u:=by8 s) (f:=f) (k:=k) (by rw[zab];omega) (zoc hlt hb) hf
     rw[hr] at hp
     have HP:=Lib.hid hp
     clear hb hp hr
     go_wp2_with fail
     refine(zcs _ s[k] _ HB).mono ?_
     rintro e w' ⟨rfl,rfl⟩
     go_wp2_with fail
     go_roundw
     case rel=>exact⟨pre,k+1,k+1,a1,c1,a2,c2,rfl,rfl,by go_num,by go_num,Nat.le_refl _,by omega,HP.out,h1,h2,hB⟩
     case measure=>simp[intOf];omega
  ·by_cases hle:k=s.size
   ·subst hle
    have hne:((s.size:Int) == (s.size:Int))=true:=beq_self_eq_true _
    by_cases hf:f<s.size
    ·have hr:=Wp.zjz (u:=by8 s) (f:=f) (k:=s.size) (by rw[zab];omega) (zkh s) hf
     rw[hr] at hp
     have HN:=Lib.hid fun w1 w2 b1 b2 d1 d2 o1 o2=>@RsRel.add w wr w1 w2 s pre f s.size a1 a2 b1 b2 c1 c2 d1 d2 o1 o2 (by omega) hp hB h1 h2
     clear hp hr
     go_wp2_with (first
      | (at_builtin;refine wpList_append_own _ rfl _ _ 75 rfl w.heap.size IT j0 (.int .i64 0) 1 8 Tryz.underlying75 hj hy0 hy1 hy2 rfl (by decide) _ _ _ rfl (h2'.alloc _) ⟨w1.heap.size,0,none⟩ 1 1 [.int .i64 (f:Int)] rfl rfl (cell_one_new _ _ _) (by simp[Value.oneCell']) (by unfold maxLen;omega) (by omega) (by have:=hB.size;have:=hgrow1.size;simp at this ⊢;omega) ?_;intro v'' w2 hown2 hgrow2 _;obtain⟨b2,d2,rfl⟩:=zac hown2)
      | (at_builtin;refine wpList_append_own _ rfl _ _ 27 rfl w.heap.size ST i0 (.string ByteArray.empty) 1 16 Tryz.underlying27 hi hz0 hz1 hz2 rfl (by decide) _ _ _ rfl (h1.alloc _) ⟨wr.heap.size,0,none⟩ 1 1 [.string (s.extract f s.size)] rfl rfl (cell_one_new _ _ _) (by simp[Value.oneCell']) (by unfold maxLen;omega) (by omega) (by have:=hB.size;simp;omega) ?_;intro v' w1 hown1 hgrow1 _;obtain⟨b1,d1,rfl⟩:=zac hown1;go_must (have h2':=zuo h2 h1 hgrow1)))
     go_roundw
     case rel=>exact HN.out _ _ _ _ _ _ _ _ hown1 hgrow1 hown2 hgrow2
     case measure=>simp[intOf]
    ·have hr:=Wp.zmm (u:=by8 s) (f:=f) (k:=s.size) (by rw[zab];omega) (zkh s) hf
     rw[hr] at hp
     have HP:=Lib.hid hp
     clear hp hr
     go_wp2_with fail
     go_roundw
     case rel=>exact⟨pre,s.size+1,s.size+1,a1,c1,a2,c2,rfl,rfl,by go_num,by go_num,Nat.le_refl _,by omega,HP.out,h1,h2,hB⟩
     case measure=>simp[intOf]
   ·obtain rfl:k=s.size+1:=by omega
    rw[Wp.zpv (by rw[zab];omega),List.append_nil] at hp
    have HW:Hid (zbb (zbg s)=zbb (pre.map (part s))∧zhd (startsS s)=zhd (pre.map (·.1))∧(zbg s).length=pre.length):=Lib.hid ⟨by unfold zbg;rw[hp],by unfold startsS;rw[hp],by unfold zbg;rw[hp,List.length_map]⟩
    have R1:=Lib.hid h1
    have R2:=Lib.hid (Rd.of_own h2)
    clear hp h1 h2
    go_wp2_with fail
    go_ret2
    exact⟨_,_,rfl,by rw[HW.out.1,HW.out.2.2];exact R1.out,by rw[HW.out.2.1];exact R2.out,hB⟩
abbrev U8:TypeId:=5
theorem zux:(Tryz.prog.info? U8).map (fun i=>(i.zero,i.size,i.bytes))=some (some (.int .u8 0),1,1):=by kernel_rfl
theorem zlh (wr:World) (x:Value) (T:TypeId):∀ (j:Nat) (u:Value),[x][j]?=some u→(wr.alloc (.cells #[x] T)).cell? ((⟨wr.heap.size,0,none⟩:Addr).add j)=some u:=by
 intro j u hj
 rw[Addr.add_lit,World.cell?_alloc_at _ _ _ _ (by simp)]
 match j,hj with
 | 0,hj=>simpa using hj
def zbp (xs:List ByteArray):ByteArray:=⟨(Lib.join (xs.map (·.data.toList)) [32]).toArray⟩
def jn (l:List ByteArray):List UInt8:=Lib.join (l.map (·.data.toList)) [32]
theorem joinS_is (l:List ByteArray):zbp l=⟨(jn l).toArray⟩:=rfl
theorem jn_first {l:List ByteArray} (h:0<l.length):jn (l.take (0+1))=l[0].data.toList:=by
 rw[List.take_succ_eq_append_getElem h]
 simp[jn,Lib.join_one]
theorem jn_next {l:List ByteArray} {k:Nat} (h:k<l.length) (h0:0<k):jn (l.take (k+1))=jn (l.take k)++[32]++l[k].data.toList:=by
 rw[List.take_succ_eq_append_getElem h]
 cases hr:l.take k with
 | nil =>
  have:=congrArg List.length hr
  rw[List.length_take,List.length_nil] at this;omega
 | cons x r =>
  simp[jn,Lib.join_cons,Lib.joinTail]
def zlp (l:List UInt8):List Value:=l.map fun b=>Value.int .u8 (b.toNat:Int)
theorem zpk (a b:List UInt8):zlp (a++b)=zlp a++zlp b:=by simp[zlp]
def JnRel (w:World) (l:List ByteArray) (v i:Value) (wr:World):Prop :=
 ∃ (k:Nat) (q:List UInt8) (a:Option Addr) (c:Nat),k≤l.length∧i=.int .i64 k∧v=.slice a q.length c∧q=jn (l.take k)∧q.length≤k * 100001 ∧
  wr.ownsRow w.heap.size U8 1 (.slice a q.length c) q.length (zlp q)∧Below w.heap.size w wr
theorem JnRel.next {w w1:World} {l:List ByteArray} {k m:Nat} {q':List UInt8} {a:Option Addr} {c:Nat} (hk:k<l.length) (hq:q'=jn (l.take (k+1))) (hm:q'.length=m) (hl:m≤(k+1) * 100001)
  (hr:w1.ownsRow w.heap.size U8 1 (.slice a m c) m (zlp q')) (hB:Below w.heap.size w w1):JnRel w l (.slice a m c) (.int .i64 ((k:Int)+1)) w1:=by
 subst hm
 exact⟨k+1,q',a,c,hk,by go_num,rfl,hq,hl,hr,hB⟩
theorem zmv (w:World) (v:Value) (l:List ByteArray) (hr:Rd w w.heap.size v (zbb l)) (hl:l.length≤100000) (hs:∀ x∈l,x.size≤100000) :
  Calls Tryz.prog 20 #[v] w fun e w'=>e=.returned (.string (zbp l))∧Below w.heap.size w w':=by
 obtain⟨i0,hi,hz0,hz1,hz2⟩:=info_parts zux
 have HR:=Lib.hid hr
 obtain⟨a0,c0,rfl,hc0⟩:=hr.shape
 have HS:=Lib.hid hs
 clear hs hr
 rw[zop] at *
 go_enter Tryz.func20,Tryz.ntmps20
 go_wp2
 go_loopw [3,4] (fun v i wr=>JnRel w l v i wr) (fun _ i _=>l.length - (intOf i).toNat)
 case atStart=>exact⟨0,[],none,0,Nat.zero_le _,rfl,rfl,rfl,Nat.zero_le _,World.ownsRow_nil _ _ _ _,Below.refl _ _⟩
 case round =>
  obtain⟨k,q,a,c,hk,rfl,rfl,hq,hql,hrow,hB⟩:=hrel
  by_cases hlt:k<l.length
  ·obtain⟨b,o,c',hv,hc',hb,hx⟩:=HR.out.open_ (by rw[zop];omega)
   simp only [zop] at hv hc'
   obtain⟨rfl,_,rfl⟩:=(Value.slice.injEq ..).mp hv
   have hcx:wr.cell? ⟨b,o+k,none⟩=some (.string l[k]):=(hB.cell (p:=⟨b,o+k,none⟩) hb).trans (hx k _ (zsy l hlt))
   have hsz:=HS.out _ (List.getElem_mem hlt)
   have hszd:l[k].data.toList.length=l[k].size:=(Lib.size_eq _).symm
   clear hx
   by_cases h0:0<k
   ·have HQ:Hid (q++[32]++l[k].data.toList=jn (l.take (k+1))∧(q++[32]++l[k].data.toList).length=q.length+1+l[k].size):=Lib.hid ⟨by rw[hq,jn_next hlt h0],by rw[List.length_append,List.length_append,hszd];rfl⟩
    have hcx1:∀ o1,(wr.alloc o1).cell? ⟨b,o+k,none⟩=some (.string l[k]):=fun o1=>((hB.alloc hB.size o1).cell (p:=⟨b,o+k,none⟩) hb).trans ((hB.cell (p:=⟨b,o+k,none⟩) hb).symm.trans hcx)
    clear hq hszd
    go_wp2_with (first
     | (at_builtin;refine wpList_append_own _ rfl _ _ 116 rfl w.heap.size U8 i0 (.int .u8 0) 1 1 Tryz.underlying116 hi hz0 hz1 hz2 rfl (by decide) _ _ _ rfl (hrow.alloc _) ⟨wr.heap.size,0,none⟩ 1 1 [.int .u8 32] rfl rfl (zlh _ _ _) (by simp[Value.oneCell']) (by unfold maxLen;omega) (by omega) (by have:=hB.size;simp;omega) ?_;intro v' w1 hown' hgrow _;obtain⟨a2,c2,rfl⟩:=zac hown';have hB1:=(hB.alloc hB.size (.cells #[.int .u8 32] U8)).grown hgrow (by have:=hB.size;simp;omega) (fun j ej=>(hrow.lt j ej).1);have hcx2:w1.cell? ⟨b,o+k,none⟩=some (.string l[k]):=(hB1.cell (p:=⟨b,o+k,none⟩) hb).trans ((hB.cell (p:=⟨b,o+k,none⟩) hb).symm.trans hcx))
     | (at_builtin;refine Lib.wpList_append_own_string _ rfl _ _ 116 9 rfl w.heap.size U8 i0 Tryz.underlying116 Tryz.underlying9 hi hz0 hz1 hz2 _ _ _ rfl hown' l[k] rfl (by unfold maxLen;omega) (by omega) hB1.size ?_;intro v'' w2 hown2 hgrow2 _;obtain⟨a3,c3,rfl⟩:=zac hown2))
    go_roundw
    case rel =>
     refine JnRel.next hlt HQ.out.1 HQ.out.2 (by omega) ?_ (hB1.grown hgrow2 hB1.size fun j ej=>(hown'.lt j ej).1)
     rw[zpk,zpk]
     exact hown2
    case measure=>simp[intOf];omega
   ·obtain rfl:k=0:=by omega
    have HQ:Hid (l[0].data.toList=jn (l.take (0+1))∧l[0].data.toList.length=0+l[0].size):=Lib.hid ⟨by rw[jn_first hlt],by rw[hszd,Nat.zero_add]⟩
    have hq0:q=[]:=hq
    rw[Nat.add_zero] at hcx
    subst hq0
    clear hq hszd
    go_wp2_with (at_builtin;refine Lib.wpList_append_own_string _ rfl _ _ 116 9 rfl w.heap.size U8 i0 Tryz.underlying116 Tryz.underlying9 hi hz0 hz1 hz2 _ _ _ rfl hrow l[0] rfl (by unfold maxLen;simp;omega) (by simp;omega) hB.size ?_;intro v'' w2 hown2 hgrow2 _;obtain⟨a3,c3,rfl⟩:=zac hown2)
    go_roundw
    case rel=>exact JnRel.next hlt HQ.out.1 (by rw[HQ.out.2];exact Nat.zero_add _) (by omega) (by simpa[zlp,Lib.strCells] using hown2) (hB.grown hgrow2 hB.size fun j ej=>(hrow.lt j ej).1)
    case measure=>simp[intOf];omega
  ·obtain rfl:k=l.length:=by omega
   rw[List.take_of_length_le (Nat.le_refl _)] at hq
   have HE:Hid (zbp l=⟨q.toArray⟩):=Lib.hid (by rw[joinS_is,hq])
   by_cases h0:0<q.length
   ·obtain⟨g,rfl,_⟩:=zny hrow h0
    have hconv:=run_convert_bytes_back (P:=Tryz.prog) wr 116 9 5 ⟨g,0,none⟩ c q Tryz.underlying116 Tryz.underlying5 Tryz.underlying9
     (fun j hj=>by
      have:=ztg hrow (j:=j) (u:=.int .u8 (q[j].toNat:Int)) (by simp[zlp,hj])
      rw[Addr.add_lit,Nat.zero_add]
      exact this)
    clear hq hrow
    go_wp2
    go_ret
    exact⟨by rw[HE.out];rfl,hB⟩
   ·have h1:q=[]:=List.eq_nil_of_length_eq_zero (by omega)
    subst h1
    have hconv:∀ a,(convert 116 9 (.slice a 0 c)).run Tryz.prog wr=.ok (.string ⟨#[]⟩) wr:=fun a=>by
     rw[run_convert_bytes_string wr _ _ 5 a 0 c Tryz.underlying116 Tryz.underlying5 Tryz.underlying9]
     cases a<;>simp[Conv.bytesToString]<;>rfl
    have hconv1:=hconv a
    clear hq hrow hconv
    go_wp2
    go_ret
    exact⟨by rw[HE.out];rfl,hB⟩
end Ew
end Go.Proofs.YtgdpbnfgcabneaaGreatDoor

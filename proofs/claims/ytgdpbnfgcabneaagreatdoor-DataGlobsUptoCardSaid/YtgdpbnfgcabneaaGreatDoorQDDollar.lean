/- Part of the proof. -/
import Derived.Test.YtgdpbnfgcabneaaGreatDoorQDFind
import Derived.Test.YtgdpbnfgcabneaaGreatDoorQEJoin
set_option maxRecDepth 100000
set_option maxHeartbeats 40000000
namespace Go.Proofs.YtgdpbnfgcabneaaGreatDoor
namespace Dw
open Go.RowKit
open Ww (by8 zar zab zbi Rd zbb)
open Tw (zbx zau zbc)
theorem ext_snoc {s:ByteArray} {i:Nat} (_h:i<s.size):s.extract 0 i++s.extract i (i+1)=s.extract 0 (i+1):=zar (by
 rw[zbc,zbx,zbx,zbx]
 simp only [List.drop_zero,Nat.sub_zero]
 rw[show i+1 - i=1 by omega,List.take_add])
theorem Rtext_plain (w:World) (v0 v1 v2 v3 v4 v5 vi:Value) (s:ByteArray) (d:Nat) (hs:s.size≤1000) (hd:d<60) (hn:∀ i (h:i<s.size),s[i]≠36) :
  Calls Tryz.prog 159 #[.agg #[v0,v1,v2,v3,v4,v5],.string s,vi,.int .i64 d] w fun e w'=>e=.returned (.tuple #[.string s,.int .i64 0])∧Below w.heap.size w w':=by
 have hd1:¬ (60:Int)<(d:Int)+1:=by omega
 have hB0:=fun o=>(Below.refl w.heap.size w).alloc (Nat.le_refl _) o
 have HB0:=Lib.hid hB0
 have HNo:=Lib.hid hn
 clear hB0 hn
 go_enter Tryz.func159,Tryz.ntmps159
 go_wp2_with fail
 go_loopw [10,11] (fun v10 v11 wr=>∃ i:Nat,v11=.int .i64 i∧v10=.string (s.extract 0 i)∧i≤s.size∧Below w.heap.size w wr) (fun _ v11 _=>s.size - (intOf v11).toNat)
 case atStart=>exact⟨0,rfl,by rw[show s.extract 0 0=⟨#[]⟩ from zar (by rw[zbx];rfl)],Nat.zero_le _,HB0.out _⟩
 case round =>
  obtain⟨i,rfl,rfl,hi,hB⟩:=hrel
  have hk0:(0:Int)≤(i:Int):=Int.natCast_nonneg _
  have hex:(s.extract 0 i).size=i:=by rw[ByteArray.size_extract];omega
  by_cases hlt:i<s.size
  ·have hki:(i:Int)<(s.size:Int):=by omega
   have hki2:(i:Int)+1≤(s.size:Int):=by omega
   have hcb:((s[i].toNat:Int) == 36)=false:=beq_eq_false_iff_ne.2 fun h=>HNo.out i hlt (by
    have:s[i].toNat=36:=by omega
    exact UInt8.toNat_inj.1 this)
   have HE:=Lib.hid (ext_snoc hlt)
   have hcat:(s.extract 0 i).size+(s.extract i (i+1)).size≤2000:=by rw[ByteArray.size_extract,ByteArray.size_extract];omega
   have hw1:((i:Int)+1).toNat=i+1:=by omega
   have hle1:(i:Int)≤(i:Int)+1:=by omega
   clear hex
   go_wp2_with fail
   go_roundw
   case rel=>exact⟨i+1,by go_num,rfl,hlt,hB⟩
   case measure=>simp[intOf];omega
  ·obtain rfl:i=s.size:=by omega
   have HE:Hid (s.extract 0 s.size=s):=Lib.hid (zar (by rw[zbx,List.drop_zero,Nat.sub_zero,←zab,List.take_length]))
   rw[HE.out]
   have hm:¬ (1048576:Int)<(s.size:Int):=by omega
   clear hex
   go_wp2_with fail
   go_ret2
   exact⟨rfl,hB⟩
end Dw
namespace Dw
open Go.RowKit
open Ww (by8 zar zab zbi Rd zbb)
open Tw (zbx zau zbc)
open Ew (zgn)
theorem zaa {w:World} {n i:Nat} {cs:Array Value} {T:TypeId} {v:Value} (h:w.heap[n]?=some (.cells cs T (0,0))) (hv:cs[i]?=some v):w.cell? ⟨n,i,none⟩=some v:=by simp[World.cell?,h,hv]
theorem zkx:∀ (t acc:List UInt8),(∀ c∈t,Wp.zaw c=false)→Wp.wl acc t=if acc++t=[] then [] else [acc++t]
 | [],acc,_=>by unfold Wp.wl;rw[List.append_nil]
 | c :: t,acc,h=>by
  have e1:Wp.wl acc (c :: t)=if Wp.zaw c=true then (if acc=[] then Wp.wl [] t else acc :: Wp.wl [] t) else Wp.wl (acc++[c]) t:=rfl
  rw[e1,h c (by simp),if_neg Bool.false_ne_true,zkx t (acc++[c]) fun d hd=>h d (by simp[hd])]
  simp
structure Pat (p:ByteArray):Prop where
 ne:p.size≠0
 word:∀ c∈by8 p,Wp.zaw c=false
 no:∀ c∈by8 p,c≠36∧c≠35∧c≠40∧c≠41∧c≠123∧c≠125∧c≠92
 size:p.size≤40
theorem Pat.words {p:ByteArray} (h:Pat p):Ew.zbg p=[p]:=by
 have h1:(Ew.zbg p).map (·.data.toList)=Wp.wl [] (by8 p):=by
  rw[←Wp.items_wl]
  unfold Ew.zbg
  rw[List.map_map]
  refine List.map_congr_left fun x hx=>?_
  show (p.extract x.1 x.2).data.toList=_
  rw[ByteArray.data_extract,Array.toList_extract,List.extract_eq_take_drop]
  rfl
 have hne:by8 p≠[]:=fun e=>h.ne (by rw[←zab,e];rfl)
 rw[zkx _ _ h.word,List.nil_append,if_neg hne] at h1
 generalize Ew.zbg p=l at *
 have hl:l.length=1:=by have:=congrArg List.length h1;rwa[List.length_map] at this
 obtain⟨x,rfl⟩:=List.length_eq_one_iff.1 hl
 have:x=p:=zar (List.cons.inj h1).1
 rw[this]
theorem Rlist_any (w:World) (p:ByteArray) (h:Pat p) :
  Calls Tryz.prog 405 #[.string p] w fun e w'=>∃ a c,e=.returned (.slice a 1 c)∧Hid (w'.ownsRow w.heap.size ST 1 (.slice a 1 c) 1 [.string p])∧Below w.heap.size w w':=by
 have HS:=Lib.hid (zgn w p (by have:=h.size;omega))
 rw[h.words] at HS
 clear h
 go_enter Tryz.func405,Tryz.ntmps405
 go_wp2_with fail
 refine HS.out.mono ?_
 rintro e w1 ⟨v1,v2,rfl,ho,_,B1⟩
 obtain⟨a,c,rfl⟩:=zga ho
 have HO:=Lib.hid ho
 clear ho
 go_wp2_with fail
 go_ret
 exact⟨_,_,rfl,HO,B1⟩
theorem step_app {ops:Array Oper} {o:Oper} {a:Act} {w:World} {K:Act→World→Prop} {Q:Exit→Act→World→Prop} {E:Prop} (hgd:o.guard=none) (s x:Operand)
  (ho:o.op=.call { callee:=.builtin .append,args:=#[s,x],argTypes:=#[27,27] }) (base:Nat) (v:Value) (n:Nat) (ss tt:List ByteArray) (hs:a.eval s=v) (hown:w.ownsRow base ST 1 v n (strC ss)) (hn:ss.length=n)
  (u:Value) (hx:a.eval x=u) (ht:TlAt w u tt) (hm:ss.length+tt.length≤1000000) (hb:base≤w.heap.size)
  (h:∀ v' w',w'.ownsRow base ST 1 v' (n+tt.length) (strC (ss++tt))→w.grownBy w' v.ownBlock→K (a.put o.dst v') w') :
  if Region.wanted o (yielded ops a.tmps)=true then Oper.wp Tryz.prog o a w K Q else E:=by
 obtain⟨i0,hi,hz0,hz1,hz2⟩:=info_parts zjk
 obtain⟨ap,c,rfl,hc,ht⟩:=ht
 refine zdn hgd s x 27 ho base ST i0 (.string ByteArray.empty) 16 Tryz.underlying27 hi hz0 hz1 hz2 rfl v n (strC ss) hs hown ap tt.length c (strC tt) hx (zdx tt)
  (by
   rcases ht with ⟨h1,h2,h3⟩ | ⟨b,q,rfl,_,hx⟩
   ·exact .inl ⟨h1,h2,h3⟩
   ·exact .inr ⟨_,rfl,fun j u hu=>by rw[Addr.add_lit];exact hx j u hu⟩)
  (fun u hu=>zki hu) (by unfold maxLen;omega) (by omega) hb ?_
 intro v' w' o' g'
 refine h v' w' ?_ g'
 rw[show strC (ss++tt)=strC ss++strC tt by simp[strC]]
 exact o'
theorem found_tot {p:ByteArray} {ps:List ByteArray}:∀ s∈zbw p ps,s∈ps:=fun _s hs=>(List.mem_filter.1 hs).1
theorem Rwild_any (w:World) (v0 v1 v2 v3 v4 pv vi:Value) (ps:List ByteArray) (p:ByteArray) (d:Nat) (hP:TlAt w pv ps) (hl:ps.length≤100000) (hps:∀ s∈ps,s.size≤100000) (h:Pat p) (hd:d<60) :
  Calls Tryz.prog 367 #[.agg #[v0,v1,v2,v3,v4,pv],.string p,vi,.int .i64 d] w fun e w'=>e=.returned (.tuple #[.string (Ew.zbp (zbw p ps)),.int .i64 0])∧Below w.heap.size w w':=by
 have hn36:∀ i (hi:i<p.size),p[i]≠36:=fun i hi=>by
  have:=zbi hi
  exact(h.no _ (by rw[←List.take_append_drop i (by8 p),this];simp)).1
 have HTx:=Lib.hid fun W=>Rtext_plain W v0 v1 v2 v3 v4 pv vi p d (by have:=h.size;omega) hd hn36
 have HLs:=Lib.hid fun W=>Rlist_any W p h
 obtain⟨w0,hw⟩:∃ w0,w0=w.alloc (.cells #[v0,v1,v2,v3,v4,pv] ET):=⟨_,rfl⟩
 have HB0:Hid (Below w.heap.size w w0):=Lib.hid (by rw[hw];exact(Below.refl w.heap.size w).alloc (Nat.le_refl _) _)
 have HC0:Hid (∀ W,Below w0.heap.size w0 W→W.cell? ⟨w.heap.size,0,none⟩=some v0∧W.cell? ⟨w.heap.size,1,none⟩=some v1∧W.cell? ⟨w.heap.size,2,none⟩=some v2∧W.cell? ⟨w.heap.size,3,none⟩=some v3∧W.cell? ⟨w.heap.size,4,none⟩=some v4∧W.cell? ⟨w.heap.size,5,none⟩=some pv):=Lib.hid fun W hW=>by
  have hb:w0.heap[w.heap.size]?=some (.cells #[v0,v1,v2,v3,v4,pv] ET (0,0)):=by rw[hw];exact heap_alloc_last w _
  have hb2:=(hW.block w.heap.size (Array.getElem?_eq_some_iff.1 hb).1).trans hb
  exact⟨zaa hb2 rfl,zaa hb2 rfl,zaa hb2 rfl,zaa hb2 rfl,zaa hb2 rfl,zaa hb2 rfl⟩
 have HF:=Lib.hid fun W (hW:Below w.heap.size w W)=>zuh W v0 v1 v2 v3 v4 pv ps p (hP.below hW) hl (fun s hs=>Nat.le_trans (hps s hs) (by decide)) (by have:=h.size;omega)
 have HJ:=Lib.hid fun W u (hr:Rd W W.heap.size u (zbb (zbw p ps)))=>Ew.zmv W u (zbw p ps) hr (by have:=zmr p ps;omega) (fun x hx=>hps x (found_tot x hx))
 have hfl:=zmr p ps
 clear hP hps h hn36
 go_enter Tryz.func367,Tryz.ntmps367
 go_wp2_with fail
 rw[←hw]
 have HW:=Lib.hid hw
 clear hw
 refine(HTx.out w0).mono ?_
 rintro e w1 ⟨rfl,B1⟩
 have HB1:=Lib.hid B1
 clear B1
 go_wp2_with fail
 refine(HLs.out _).mono ?_
 rintro e w2 ⟨a,c,rfl,ho,B2⟩
 obtain⟨g,rfl,hg,hx⟩:∃ g,a=some ⟨g,0,none⟩∧g<w2.heap.size∧w2.cell? ⟨g,0,none⟩=some (.string p):=by
  rcases ho.out.2 with ⟨_,h0⟩ | ⟨g,cap,cur,hv,_,hg,_⟩
  ·exact absurd h0 (by simp)
  ·cases hv
   have c0:=ho.out.cells (g:=g) rfl 0 _ rfl
   rw[Addr.add_lit] at c0
   exact⟨g,rfl,(Array.getElem?_eq_some_iff.1 hg).1,c0⟩
 have HB2:=Lib.hid (HB1.out.trans (B2.mono HB1.out.size))
 have HX:=Lib.hid fun W (hW:Below w2.heap.size w2 W)=>(hW.cell (p:=⟨g,0,none⟩) hg).trans hx
 clear ho hx B2
 have HS:Hid (∀ W,Below w2.heap.size w2 W→W.cell? ⟨g,0,none⟩=some (.string p)∧W.cell? ⟨w.heap.size,0,none⟩=some v0∧W.cell? ⟨w.heap.size,1,none⟩=some v1∧W.cell? ⟨w.heap.size,2,none⟩=some v2∧W.cell? ⟨w.heap.size,3,none⟩=some v3∧W.cell? ⟨w.heap.size,4,none⟩=some v4∧W.cell? ⟨w.heap.size,5,none⟩=some pv):=Lib.hid fun W hW=>⟨HX.out W hW,HC0.out W (HB2.out.trans (hW.mono HB2.out.size))⟩
 have HBw:=Lib.hid (HB0.out.trans (HB2.out.mono HB0.out.size))
 go_wp2_with fail
 go_loopw [13,14] (fun v13 v14 wr=>Below w2.heap.size w2 wr∧(v13=.slice none 0 0∧v14=.int .i64 0∨v14=.int .i64 1∧∃ a c,v13=.slice a (zbw p ps).length c∧Rd wr wr.heap.size (.slice a (zbw p ps).length c) (zbb (zbw p ps)))) (fun _ v14 _=>1 - (intOf v14).toNat)
 case atStart=>exact⟨Below.refl _ _,.inl ⟨rfl,rfl⟩⟩
 case round =>
  obtain⟨hB,hcase⟩:=hrel
  rcases hcase with ⟨rfl,rfl⟩ | ⟨rfl,a,c,rfl,hrd⟩
  ·have S5:=HS.out wr.drew hB.drew
   have HBd:=Lib.hid (HBw.out.trans (hB.drew.mono HBw.out.size))
   have HBr:=Lib.hid hB.drew
   clear hB
   go_wp2_with fail
   go_region_held3 (fun W=>W.cell? ⟨g,0,none⟩=some (.string p)∧W.cell? ⟨w.heap.size,0,none⟩=some v0∧W.cell? ⟨w.heap.size,1,none⟩=some v1∧W.cell? ⟨w.heap.size,2,none⟩=some v2∧W.cell? ⟨w.heap.size,3,none⟩=some v3∧W.cell? ⟨w.heap.size,4,none⟩=some v4∧W.cell? ⟨w.heap.size,5,none⟩=some pv)
    (first | exact S8 | exact S7 | exact S5)
    (first
     | (go_at_call 14;refine(HF.out _ HBd.out).mono ?_;rintro e w7 ⟨a7,c7,rfl,ho7,B7⟩;have HB7:=Lib.hid (HBr.out.trans (B7.mono HBr.out.size));have S7:=HS.out w7 HB7.out;have HT7:=Lib.hid (TlAt.of_own ho7.out);clear ho7 B7)
     | (refine step_app rfl _ _ rfl w7.heap.size (.slice none 0 0) 0 [] (zbw p ps) (by simp[go_sem]) (World.ownsRow_nil _ _ _ _) rfl _ (by simp[go_sem]) HT7.out (by simp;omega) (Nat.le_refl _) ?_;intro v8 w8 hown8 hgrow8;obtain⟨a8,c8,rfl⟩:=zga hown8;have HB8:=Lib.hid (HB7.out.grown hgrow8 HB7.out.size (fun j e=>(by cases e)));have S8:=HS.out w8 HB8.out;have HO8:=Lib.hid hown8;clear hown8 hgrow8))
   go_wp2_with fail
   go_roundw
   case rel=>exact⟨HB8.out,.inr ⟨rfl,a8,c8,by simp,by show Rd _ _ _ (strC (zbw p ps));simpa using Ww.Rd.of_own HO8.out⟩⟩
   case measure=>decide
  ·have HJ1:=Lib.hid (HJ.out wr _ hrd)
   have HBe:=Lib.hid hB
   clear hrd hB
   generalize (zbw p ps).length=n at *
   go_wp2_with fail
   refine HJ1.out.mono ?_
   rintro e w9 ⟨rfl,B9⟩
   go_wp2_with fail
   go_ret2
   exact⟨rfl,HBw.out.trans ((HBe.out.trans (B9.mono HBe.out.size)).mono HBw.out.size)⟩
end Dw
namespace Dw
open Go.RowKit
open Ww (by8 zar zab zbi Rd zbb)
open Tw (zbx zau zbc)
def inS (p:ByteArray):ByteArray:=⟨#[119,105,108,100,99,97,114,100,32]⟩++p
theorem u8_ne {a b:UInt8} (h:a≠b):((a.toNat:Int) == (b.toNat:Int))=false:=beq_eq_false_iff_ne.2 fun e=>h (UInt8.toNat_inj.1 (by omega))
theorem Rspace_any (w:World) (s:ByteArray) (k:Nat) (hk:k<s.size) (hs:s.size≤1000) (h32:s[k]=32) (hb:∀ i (h:i<s.size),i<k→s[i]≠32∧s[i]≠9) :
  Calls Tryz.prog 361 #[.string s] w fun e w'=>e=.returned (.int .i64 k)∧w=w':=by
 have HNo:=Lib.hid hb
 have H32:=Lib.hid h32
 clear hb h32
 go_enter Tryz.func361,Tryz.ntmps361
 go_wp2_with fail
 go_loopw [3] (fun v3 wr=>∃ i:Nat,v3=.int .i64 i∧i≤k∧wr=w) (fun v3 _=>k - (intOf v3).toNat)
 case atStart=>exact⟨0,rfl,Nat.zero_le _,rfl⟩
 case round =>
  obtain⟨i,rfl,hi,rfl⟩:=hrel
  have hk0:(0:Int)≤(i:Int):=Int.natCast_nonneg _
  have hlt:i<s.size:=by omega
  have hki:(i:Int)<(s.size:Int):=by omega
  by_cases hik:i=k
  ·subst hik
   have hc1:((s[i].toNat:Int) == 32)=true:=by rw[H32.out];rfl
   go_wp2_with fail
   go_ret
   exact⟨rfl,rfl⟩
  ·obtain⟨n1,n2⟩:=HNo.out i hlt (by omega)
   have hc1:((s[i].toNat:Int) == 32)=false:=u8_ne (b:=32) n1
   have hc2:((s[i].toNat:Int) == 9)=false:=u8_ne (b:=9) n2
   clear n1 n2
   go_wp2_with fail
   go_roundw
   case rel=>exact⟨i+1,by go_num,by omega,trivial⟩
   case measure=>simp[intOf];omega
def strN:Value→Nat
 | .string s=>s.size
 | _=>0
theorem Rleft_any (w:World) (p:ByteArray) (h:Pat p) :
  Calls Tryz.prog 362 #[.string (⟨#[32]⟩++p)] w fun e w'=>e=.returned (.string p)∧w=w':=by
 obtain⟨s,hs⟩:∃ s,(⟨#[32]⟩++p:ByteArray)=s:=⟨_,rfl⟩
 have hb:by8 s=32 :: by8 p:=by rw[←hs,zbc];rfl
 have hz:s.size=p.size+1:=by rw[←zab,hb,List.length_cons,zab]
 have hpz:=h.size
 have hp0:0<p.size:=Nat.pos_of_ne_zero h.ne
 have hl0:0<s.size:=by omega
 have hs0:s[0]'hl0=32:=by
  have:=zbi (s:=s) (k:=0) hl0
  rw[hb] at this
  exact(List.cons.inj this).1.symm
 have hpw:Wp.zaw (p[0]'hp0)=false:=h.word _ (by
  have:=zbi (s:=p) (k:=0) hp0
  rw[List.drop_zero] at this
  rw[this];simp)
 have hE1:(s.toList == [])=false:=by rw[zau,hb];rfl
 have hE2:(p.toList == [])=false:=by
  rw[zau,beq_eq_false_iff_ne]
  intro e
  have:=zab p
  rw[e] at this
  have:p.size=0:=this.symm
  omega
 have e1:s.extract 1 s.size=p:=zar (by rw[zbx,hb,hz];show List.take (p.size+1 - 1) (by8 p)=by8 p;rw[List.take_of_length_le];rw[zab];omega)
 have HBl1:Hid (∀ W,Calls Tryz.prog 63 #[.int .u8 ((s[0]'hl0).toNat:Int)] W fun e w'=>e=.returned (.bool true)∧W=w'):=Lib.hid fun W=>Ww.zcs W _ true (Lib.hid (by rw[hs0];rfl))
 have HBl2:Hid (∀ W,Calls Tryz.prog 63 #[.int .u8 ((p[0]'hp0).toNat:Int)] W fun e w'=>e=.returned (.bool false)∧W=w'):=Lib.hid fun W=>Ww.zcs W _ false (Lib.hid hpw)
 have hsz:(1:Int)≤(s.size:Int):=by omega
 have hzz:p.size<s.size:=by omega
 rw[hs]
 clear hs hb hz hs0 hpw h
 go_enter Tryz.func362,Tryz.ntmps362
 go_wp2_with fail
 go_loopw [0] (fun v0 wr=>wr=w∧(v0=.string s∨v0=.string p)) (fun v0 _=>strN v0)
 case atStart=>exact⟨rfl,.inl rfl⟩
 case round =>
  obtain⟨rfl,rfl | rfl⟩:=hrel
  ·go_wp2_with fail
   refine(HBl1.out _).mono ?_
   rintro e w1 ⟨rfl,rfl⟩
   go_wp2_with fail
   go_roundw
   case rel=>exact⟨trivial,.inr rfl⟩
   case measure=>exact hzz
  ·go_wp2_with fail
   refine(HBl2.out _).mono ?_
   rintro e w1 ⟨rfl,rfl⟩
   go_wp2_with fail
   go_ret
   exact⟨rfl,rfl⟩
theorem zvm (w:World) (v0 v1 v2 v3 v4 pv vi:Value) (ps:List ByteArray) (p:ByteArray) (d:Nat) (hP:TlAt w pv ps) (hl:ps.length≤100000) (hps:∀ s∈ps,s.size≤100000) (h:Pat p) (hd:d<60) :
  Calls Tryz.prog 293 #[.agg #[v0,v1,v2,v3,v4,pv],.string (inS p),vi,.int .i64 d] w fun e w'=>e=.returned (.tuple #[.string (Ew.zbp (zbw p ps)),.int .i64 0])∧Below w.heap.size w w':=by
 obtain⟨s,hs⟩:∃ s,inS p=s:=⟨_,rfl⟩
 have hb:by8 s=[119,105,108,100,99,97,114,100]++32 :: by8 p:=by rw[←hs];unfold inS;rw[zbc];rfl
 have hpz:=h.size
 have hz:s.size=p.size+9:=by
  rw[←zab,hb,List.length_append]
  show 8+((by8 p).length+1)=_
  rw[zab];omega
 have hl8:8<s.size:=by omega
 have hat:∀ i (hi:i<s.size) (x:UInt8),([119,105,108,100,99,97,114,100,32]:List UInt8)[i]?=some x→s[i]=x:=fun i hi x hx=>by
  have h1:(by8 s)[i]?=some (s[i]):=by
   have:=zbi (s:=s) (k:=i) hi
   rw[←List.head?_drop,this];rfl
  rw[hb,show ([119,105,108,100,99,97,114,100]++32 :: by8 p:List UInt8)=[119,105,108,100,99,97,114,100,32]++by8 p by simp,List.getElem?_append_left (by have:=(List.getElem?_eq_some_iff.1 hx).1;exact this),hx] at h1
  exact(Option.some.inj h1).symm
 have HSp:=Lib.hid fun W=>Rspace_any W s 8 hl8 (by omega) (hat 8 hl8 32 rfl) (fun i hi h8=>by
  rcases (show i=0∨i=1∨i=2∨i=3∨i=4∨i=5∨i=6∨i=7 by omega) with rfl | rfl | rfl | rfl | rfl | rfl | rfl | rfl
  all_goals (rw[hat _ hi _ rfl];decide))
 have e1:s.extract 0 8=⟨#[119,105,108,100,99,97,114,100]⟩:=zar (by rw[zbx,hb];rfl)
 have e2:s.extract 8 s.size=⟨#[32]⟩++p:=zar (by rw[zbx,hb,zbc,hz];show List.take (p.size+9 - 8) (32 :: by8 p)=32 :: by8 p;rw[List.take_of_length_le];rw[List.length_cons,zab];omega)
 have HLf:=Lib.hid fun W=>Rleft_any W p h
 obtain⟨s2,hs2⟩:∃ s2,(⟨#[32]⟩++p:ByteArray)=s2:=⟨_,rfl⟩
 rw[hs2] at e2 HLf
 obtain⟨w0,hw⟩:∃ w0,w0=w.alloc (.cells #[v0,v1,v2,v3,v4,pv] ET):=⟨_,rfl⟩
 have HB0:Hid (Below w.heap.size w w0):=Lib.hid (by rw[hw];exact(Below.refl w.heap.size w).alloc (Nat.le_refl _) _)
 have HS:Hid (∀ W,Below w0.heap.size w0 W→W.cell? ⟨w.heap.size,0,none⟩=some v0∧W.cell? ⟨w.heap.size,1,none⟩=some v1∧W.cell? ⟨w.heap.size,2,none⟩=some v2∧W.cell? ⟨w.heap.size,3,none⟩=some v3∧W.cell? ⟨w.heap.size,4,none⟩=some v4∧W.cell? ⟨w.heap.size,5,none⟩=some pv):=Lib.hid fun W hW=>by
  have hb:w0.heap[w.heap.size]?=some (.cells #[v0,v1,v2,v3,v4,pv] ET (0,0)):=by rw[hw];exact heap_alloc_last w _
  have hb2:=(hW.block w.heap.size (Array.getElem?_eq_some_iff.1 hb).1).trans hb
  exact⟨zaa hb2 rfl,zaa hb2 rfl,zaa hb2 rfl,zaa hb2 rfl,zaa hb2 rfl,zaa hb2 rfl⟩
 have HWd:=Lib.hid fun W (hW:Below w.heap.size w W)=>Rwild_any W v0 v1 v2 v3 v4 pv vi ps p d (hP.below hW) hl hps h hd
 have hsz8:(8:Int)≤(s.size:Int):=by omega
 have S0:=HS.out w0 (Below.refl _ _)
 rw[hs]
 clear hP hps h hs hb hz hat hs2
 go_enter Tryz.func293,Tryz.ntmps293
 go_wp2_with fail
 rw[←hw]
 have HW:=Lib.hid hw
 clear hw
 refine(HSp.out _).mono ?_
 rintro e w1 ⟨rfl,rfl⟩
 go_wp2_with fail
 refine(HLf.out _).mono ?_
 rintro e w1 ⟨rfl,rfl⟩
 go_wp2_with fail
 refine(HWd.out w0 HB0.out).mono ?_
 rintro e w2 ⟨rfl,B2⟩
 go_wp2_with fail
 go_ret2
 exact⟨rfl,HB0.out.trans (B2.mono HB0.out.size)⟩
end Dw
namespace Ww
open Go.RowKit
def hasB (s:ByteArray) (c:UInt8):Bool:=(by8 s).contains c
theorem zqh (w:World) (s:ByteArray) (c:UInt8) (hs:s.size≤1000000) :
  Calls Tryz.prog 255 #[.string s,.int .u8 (c.toNat:Int)] w fun e w'=>e=.returned (.bool (hasB s c))∧w=w':=by
 go_enter Tryz.func255,Tryz.ntmps255
 go_wp2
 go_loop [5] (fun v=>∃ k:Nat,v=.int .i64 k∧k≤s.size∧((by8 s).drop k).contains c=(by8 s).contains c) (fun v=>s.size - (intOf v).toNat)
 case atStart=>exact⟨0,rfl,Nat.zero_le _,rfl⟩
 case round =>
  obtain⟨k,rfl,hk,hl⟩:=hrel
  by_cases h0:k<s.size
  ·rw[zbi h0,List.contains_cons] at hl
   by_cases hc:s[k]=c
   ·have hb:=eq_true hc
    have HT:Hid (hasB s c=true):=Lib.hid (by unfold hasB;rw[←hl,hc];simp)
    clear hc hl
    go_wp2
    go_ret
    exact⟨zao HT.out.symm,rfl⟩
   ·have hb:=eq_false hc
    have HT:Hid (((by8 s).drop (k+1)).contains c=(by8 s).contains c):=Lib.hid (by rw[←hl,beq_eq_false_iff_ne.2 (fun h=>hc h.symm),Bool.false_or])
    clear hc hl
    go_wp2
    go_round
    case rel=>exact⟨k+1,by go_num,by omega,HT.out⟩
    case measure=>simp[intOf];omega
  ·rw[List.drop_of_length_le (by rw[zab];omega)] at hl
   have HT:Hid (hasB s c=false):=Lib.hid hl.symm
   clear hl
   go_wp2
   go_ret
   exact⟨zao HT.out.symm,rfl⟩
def cutI (s stops:ByteArray):Int:=match Wp.cutA (by8 stops) [] (by8 s) 0 with | some k=>(k:Int) | none=>-1
def zkc (s stops:ByteArray) (w:World) (e:Ending) (w':World):Prop:=e=.returned (.int .i64 (cutI s stops))∧w=w'
def RCutRel (s stops:ByteArray) (v i:Value):Prop :=
 ∃ (k:Nat) (o:ByteArray),v=.string o∧i=.int .i64 k∧k≤s.size∧o.size≤k∧Wp.cutA (by8 stops) (by8 o) ((by8 s).drop k) k=Wp.cutA (by8 stops) [] (by8 s) 0
theorem zpm {o:ByteArray} (h:o.toList=[]):by8 o=[]:=by rw[Lib.toList_data] at h;exact h
theorem zpl {o:ByteArray} (h:by8 o=[]):o.toList=[]:=by rw[Lib.toList_data];exact h
theorem RCut_hit {w:World} {s stops o:ByteArray} {k:Nat} (hlt:k<s.size) (hC:Wp.cutA (by8 stops) (by8 o) ((by8 s).drop k) k=Wp.cutA (by8 stops) [] (by8 s) 0) (ho:o.toList=[]) (hh:hasB stops s[k]=true) :
  zkc s stops w (.returned (.int .i64 k)) w:=by
 refine⟨?_,rfl⟩
 unfold cutI
 rw[←hC,zpm ho,zbi hlt,Wp.zgi hh]
theorem RCut_miss {s stops o o':ByteArray} {k:Nat} (hlt:k<s.size) (hl:o.size≤k) (hC:Wp.cutA (by8 stops) (by8 o) ((by8 s).drop k) k=Wp.cutA (by8 stops) [] (by8 s) 0) (hh:¬ (o.toList=[]∧hasB stops s[k]=true)) (ho:by8 o'=Wp.next (by8 o) s[k]) :
  RCutRel s stops (.string o') (.int .i64 ((k:Int)+1)):=by
 refine⟨k+1,o',rfl,by go_num,hlt,?_,?_⟩
 ·have:=Wp.next_len (by8 o) s[k]
  rw[←ho,zab,zab] at this;omega
 ·rw[←hC,zbi hlt,Wp.zfc (fun h=>hh ⟨zpl h.1,h.2⟩),ho]
theorem by8_append (a b:ByteArray):by8 (a++b)=by8 a++by8 b:=by
 show (a++b).data.toList=_
 rw[ByteArray.data_append,Array.toList_append];rfl
theorem zqf {p:ByteArray} {k:Nat} (h:k<p.size):by8 (p.extract k (k+1))=[p[k]]:=by
 show (p.extract k (k+1)).data.toList=_
 rw[ByteArray.data_extract,Array.toList_extract,List.extract_eq_take_drop,Nat.add_sub_cancel_left]
 show ((by8 p).drop k).take 1=_
 rw[zbi h];rfl
theorem zmn {o:ByteArray} (h:o.size - 1<o.size):(by8 o).getLast?=some o[o.size - 1]:=by
 rw[List.getLast?_eq_getElem?,zab,zcc h]
theorem cut_is (o:ByteArray):by8 (o.extract 0 (o.size - 1))=(by8 o).dropLast:=by
 rw[zgo,List.dropLast_eq_take,zab]
theorem next_nil {o:ByteArray} {c:UInt8} (ho:o.toList=[]) (h1:¬ c=40) (h2:¬ c=123):by8 o=Wp.next (by8 o) c:=by
 rw[Wp.zds h1 h2]
 intro d h
 rw[zpm ho] at h;cases h
theorem next_yes {o:ByteArray} {c d:UInt8} (hn:o.size - 1<o.size) (hd:o[o.size - 1]=d) (h:(c=41∧d=40)∨(c=125∧d=123)):by8 (o.extract 0 (o.size - 1))=Wp.next (by8 o) c:=by
 rw[cut_is]
 unfold Wp.next
 rcases h with ⟨rfl,rfl⟩ | ⟨rfl,rfl⟩
 ·rw[if_neg (by decide),if_pos ⟨rfl,by rw[zmn hn,hd]⟩]
 ·rw[if_neg (by decide),if_neg (fun h=>absurd h.1 (by decide)),if_pos ⟨rfl,by rw[zmn hn,hd]⟩]
theorem next_no {o:ByteArray} {c:UInt8} (hn:o.size - 1<o.size) (h1:¬ c=40) (h2:¬ c=123) (h3:¬ (c=41∧o[o.size - 1]=40)) (h4:¬ (c=125∧o[o.size - 1]=123)):by8 o=Wp.next (by8 o) c:=by
 unfold Wp.next
 rw[if_neg (fun h=>h.elim h1 h2),zmn hn,if_neg (fun h=>h3 ⟨h.1,Option.some.inj h.2⟩),if_neg (fun h=>h4 ⟨h.1,Option.some.inj h.2⟩)]
theorem zmj {o s:ByteArray} {k:Nat} (hlt:k<s.size) (h:s[k]=40∨s[k]=123):by8 (o++s.extract k (k+1))=Wp.next (by8 o) s[k]:=by
 rw[by8_append,zqf hlt,Wp.zsq h]
theorem RCut_any (w:World) (s stops:ByteArray) (hs:s.size≤100000) (hst:stops.size≤100000) :
  Calls Tryz.prog 254 #[.string s,.string stops] w (zkc s stops w):=by
 go_enter Tryz.func254,Tryz.ntmps254
 go_wp2_with fail
 go_loop [5,6] (fun v i=>RCutRel s stops v i) (fun _ i=>s.size - (intOf i).toNat)
 case atStart=>exact⟨0,⟨#[]⟩,rfl,rfl,Nat.zero_le _,Nat.le_refl _,rfl⟩
 case round =>
  obtain⟨k,o,rfl,rfl,hk,hl,hC⟩:=hrel
  by_cases hlt:k<s.size
  ·have HH:=Lib.hid (@RCut_hit w s stops o k hlt hC)
   have HM0:=Lib.hid fun o'=>@RCut_miss s stops o o' k hlt hl hC
   clear hC
   go_wp2_with fail
   refine(zqh _ stops s[k] (by omega)).mono ?_
   rintro e w' ⟨rfl,rfl⟩
   by_cases hi1:o.toList=[]
   ·have hi2:(!o.toList.isEmpty)=false:=by rw[hi1];rfl
    cases hI:hasB stops s[k] with
    | true =>
     have HI:=Lib.hid (HH.out hi1 hI)
     clear hI
     go_wp2_with fail
     go_ret
     exact HI.out
    | false =>
     have HM:=Lib.hid fun o'=>HM0.out o' (fun h=>by rw[hI] at h;cases h.2)
     clear hI HH HM0
     by_cases h40:s[k]=40
     ·have hb:((s[k].toNat:Int) == 40)=true:=by rw[h40];rfl
      have HX:=Lib.hid (zmj (o:=o) hlt (.inl h40))
      clear h40
      go_wp2_with fail
      go_round
      case rel=>exact HM.out _ HX.out
      case measure=>simp[intOf];omega
     ·have hb:((s[k].toNat:Int) == 40)=false:=eq_false (b:=40) h40
      by_cases h123:s[k]=123
      ·have hb2:((s[k].toNat:Int) == 123)=true:=by rw[h123];rfl
       have HX:=Lib.hid (zmj (o:=o) hlt (.inr h123))
       clear h40 h123
       go_wp2_with fail
       go_round
       case rel=>exact HM.out _ HX.out
       case measure=>simp[intOf];omega
      ·have hb2:((s[k].toNat:Int) == 123)=false:=eq_false (b:=123) h123
       have HX:=Lib.hid (next_nil hi1 h40 h123)
       by_cases h41:s[k]=41
       ·have hb3:((s[k].toNat:Int) == 41)=true:=by rw[h41];rfl
        clear h40 h123 h41
        go_wp2_with fail
        go_round
        case rel=>exact HM.out _ HX.out
        case measure=>simp[intOf];omega
       ·have hb3:((s[k].toNat:Int) == 41)=false:=eq_false (b:=41) h41
        by_cases h125:s[k]=125
        ·have hb4:((s[k].toNat:Int) == 125)=true:=by rw[h125];rfl
         clear h40 h123 h41 h125
         go_wp2_with fail
         go_round
         case rel=>exact HM.out _ HX.out
         case measure=>simp[intOf];omega
        ·have hb4:((s[k].toNat:Int) == 125)=false:=eq_false (b:=125) h125
         clear h40 h123 h41 h125
         go_wp2_with fail
         go_round
         case rel=>exact HM.out _ HX.out
         case measure=>simp[intOf];omega
   ·have hi2:(!o.toList.isEmpty)=true:=by cases h:o.toList with | nil=>exact absurd h hi1 | cons _ _=>rfl
    have hi3:0<o.size:=by
     rcases Nat.eq_zero_or_pos o.size with h | h
     ·exact absurd (zpl (ziu h)) hi1
     ·exact h
    have hi4:o.size - 1<o.size:=by omega
    have HM:=Lib.hid fun o'=>HM0.out o' (fun h=>hi1 h.1)
    clear HH HM0
    by_cases h40:s[k]=40
    ·have hb:((s[k].toNat:Int) == 40)=true:=by rw[h40];rfl
     have HX:=Lib.hid (zmj (o:=o) hlt (.inl h40))
     clear h40
     go_wp2_with fail
     go_round
     case rel=>exact HM.out _ HX.out
     case measure=>simp[intOf];omega
    ·have hb:((s[k].toNat:Int) == 40)=false:=eq_false (b:=40) h40
     by_cases h123:s[k]=123
     ·have hb2:((s[k].toNat:Int) == 123)=true:=by rw[h123];rfl
      have HX:=Lib.hid (zmj (o:=o) hlt (.inr h123))
      clear h40 h123
      go_wp2_with fail
      go_round
      case rel=>exact HM.out _ HX.out
      case measure=>simp[intOf];omega
     ·have hb2:((s[k].toNat:Int) == 123)=false:=eq_false (b:=123) h123
      by_cases h41:s[k]=41
      ·have hb3:((s[k].toNat:Int) == 41)=true:=by rw[h41];rfl
       by_cases hd:o[o.size - 1]=40
       ·have hbd:((o[o.size - 1].toNat:Int) == 40)=true:=by rw[hd];rfl
        have HX:=Lib.hid (next_yes hi4 hd (.inl ⟨h41,rfl⟩))
        clear h40 h123 h41 hd
        go_wp2_with fail
        go_round
        case rel=>exact HM.out _ HX.out
        case measure=>simp[intOf];omega
       ·have hbd:((o[o.size - 1].toNat:Int) == 40)=false:=eq_false (b:=40) hd
        have HX:=Lib.hid (next_no hi4 h40 h123 (fun h=>hd h.2) (fun h=>absurd (h41.symm.trans h.1) (by decide)))
        clear h40 h123 h41 hd
        go_wp2_with fail
        go_round
        case rel=>exact HM.out _ HX.out
        case measure=>simp[intOf];omega
      ·have hb3:((s[k].toNat:Int) == 41)=false:=eq_false (b:=41) h41
       by_cases h125:s[k]=125
       ·have hb4:((s[k].toNat:Int) == 125)=true:=by rw[h125];rfl
        by_cases hd:o[o.size - 1]=123
        ·have hbd:((o[o.size - 1].toNat:Int) == 123)=true:=by rw[hd];rfl
         have HX:=Lib.hid (next_yes hi4 hd (.inr ⟨h125,rfl⟩))
         clear h40 h123 h41 h125 hd
         go_wp2_with fail
         go_round
         case rel=>exact HM.out _ HX.out
         case measure=>simp[intOf];omega
        ·have hbd:((o[o.size - 1].toNat:Int) == 123)=false:=eq_false (b:=123) hd
         have HX:=Lib.hid (next_no hi4 h40 h123 (fun h=>h41 h.1) (fun h=>hd h.2))
         clear h40 h123 h41 h125 hd
         go_wp2_with fail
         go_round
         case rel=>exact HM.out _ HX.out
         case measure=>simp[intOf];omega
       ·have hb4:((s[k].toNat:Int) == 125)=false:=eq_false (b:=125) h125
        have HX:=Lib.hid (next_no hi4 h40 h123 (fun h=>h41 h.1) (fun h=>h125 h.1))
        clear h40 h123 h41 h125
        go_wp2_with fail
        go_round
        case rel=>exact HM.out _ HX.out
        case measure=>simp[intOf];omega
  ·obtain rfl:k=s.size:=by omega
   have HP:Hid (zkc s stops w (.returned (.int .i64 (-1))) w):=Lib.hid (by
    refine⟨?_,rfl⟩
    unfold cutI
    rw[←hC,List.drop_of_length_le (by rw[zab];exact Nat.le_refl _),Wp.zmc])
   clear hC
   go_wp2_with fail
   go_ret
   exact HP.out
end Ww
namespace Dw
open Go.RowKit
open Ww (by8 zar zab zbi Rd zbb)
open Tw (zbx zau zbc)
theorem ztn {r:List UInt8}:∀ (m:List UInt8) (k:Nat),(∀ c∈m,c≠40∧c≠123∧c≠41)→Wp.cutA [41] [] (m++41 :: r) k=some (k+m.length)
 | [],k,_=>Wp.zgi rfl
 | c :: m,k,h=>by
  obtain⟨h1,h2,h3⟩:=h c (by simp)
  rw[List.cons_append,Wp.zfc (fun e=>h3 (by have:=e.2;simpa using this)),Wp.zds h1 h2 (fun d hd=>by cases hd),ztn m (k+1) fun d hd=>h d (by simp[hd]),List.length_cons]
  congr 1;omega
def parS (p:ByteArray):ByteArray:=⟨#[40]⟩++(inS p++⟨#[41]⟩)
def valS (p:ByteArray):ByteArray:=⟨#[36]⟩++parS p
theorem zvp (p:ByteArray):by8 (inS p)=[119,105,108,100,99,97,114,100,32]++by8 p:=by unfold inS;rw[zbc];rfl
theorem zhs (p:ByteArray):(inS p).size=p.size+9:=by
 rw[←zab,zvp,List.length_append,zab];show 9+p.size=_;omega
theorem parS_by8 (p:ByteArray):by8 (parS p)=40 :: (by8 (inS p)++[41]):=by unfold parS;rw[zbc,zbc];rfl
theorem zoh (p:ByteArray):(parS p).size=p.size+11:=by
 rw[←zab,parS_by8,List.length_cons,List.length_append,zab,zhs];rfl
theorem zwg (w:World) (v0 v1 v2 v3 v4 pv vi:Value) (ps:List ByteArray) (p:ByteArray) (d:Nat) (hP:TlAt w pv ps) (hl:ps.length≤100000) (hps:∀ s∈ps,s.size≤100000) (h:Pat p) (hd:d<60) :
  Calls Tryz.prog 230 #[.agg #[v0,v1,v2,v3,v4,pv],.string (parS p),vi,.int .i64 d] w fun e w'=>e=.returned (.tuple #[.string (Ew.zbp (zbw p ps)),.int .i64 (p.size+11:Nat),.int .i64 0])∧Below w.heap.size w w':=by
 obtain⟨s,hs⟩:∃ s,parS p=s:=⟨_,rfl⟩
 have hb:by8 s=40 :: (by8 (inS p)++[41]):=by rw[←hs];exact parS_by8 p
 have hz:s.size=p.size+11:=by rw[←hs];exact zoh p
 have hpz:=h.size
 obtain⟨s1,hs1⟩:∃ s1,(inS p++⟨#[41]⟩:ByteArray)=s1:=⟨_,rfl⟩
 have hb1:by8 s1=by8 (inS p)++[41]:=by rw[←hs1,zbc];rfl
 have hz1:s1.size=p.size+10:=by rw[←zab,hb1,List.length_append,zab,zhs];rfl
 have e1:s.extract 1 s.size=s1:=zar (by
  rw[zbx,hb,hb1,hz]
  show List.take (p.size+11 - 1) (by8 (inS p)++[41])=_
  rw[List.take_of_length_le]
  rw[List.length_append,zab,zhs];show p.size+9+1≤_;omega)
 have e2:s.extract 1 (p.size+10)=inS p:=zar (by
  rw[zbx,hb]
  show List.take (p.size+10 - 1) (by8 (inS p)++[41])=_
  rw[List.take_append_of_le_length (by rw[zab,zhs];omega),List.take_of_length_le]
  rw[zab,zhs];omega)
 have HC:Hid (∀ W,Calls Tryz.prog 254 #[.string s1,.string ⟨#[41]⟩] W fun e w'=>e=.returned (.int .i64 (p.size+9:Nat))∧W=w'):=Lib.hid fun W=>by
  have hh:=Ww.RCut_any W s1 ⟨#[41]⟩ (by omega) (by decide)
  have e:Ww.cutI s1 ⟨#[41]⟩=(p.size+9:Nat):=by
   unfold Ww.cutI
   have:Wp.cutA (by8 ⟨#[41]⟩) [] (by8 s1) 0=some (p.size+9):=by
    rw[hb1]
    have:=ztn (r:=[]) (by8 (inS p)) 0 (fun c hc=>by
     rw[zvp] at hc
     rcases List.mem_append.1 hc with hc | hc
     ·have:∀ c∈([119,105,108,100,99,97,114,100,32]:List UInt8),c≠40∧c≠123∧c≠41:=by decide
      exact this c hc
     ·obtain⟨_,_,n1,n2,n3,_,_⟩:=h.no c hc
      exact⟨n1,n3,n2⟩)
    rw[Nat.zero_add,zab,zhs] at this
    exact this
   rw[this]
  unfold Ww.zkc at hh
  rw[e] at hh
  exact hh
 have hl0:0<s.size:=by omega
 have hi0:s[0]'hl0=40:=by
  have:=zbi (s:=s) (k:=0) hl0
  rw[hb] at this
  exact(List.cons.inj this).1.symm
 have hq1:(((s[0]'hl0).toNat:Int) == 36)=false:=by rw[hi0];rfl
 have hq2:(((s[0]'hl0).toNat:Int) == 40)=true:=by rw[hi0];rfl
 have hE:(s.toList == [])=false:=by rw[zau,hb];rfl
 obtain⟨w0,hw⟩:∃ w0,w0=w.alloc (.cells #[v0,v1,v2,v3,v4,pv] ET):=⟨_,rfl⟩
 have HB0:Hid (Below w.heap.size w w0):=Lib.hid (by rw[hw];exact(Below.refl w.heap.size w).alloc (Nat.le_refl _) _)
 have HS:Hid (∀ W,Below w0.heap.size w0 W→W.cell? ⟨w.heap.size,0,none⟩=some v0∧W.cell? ⟨w.heap.size,1,none⟩=some v1∧W.cell? ⟨w.heap.size,2,none⟩=some v2∧W.cell? ⟨w.heap.size,3,none⟩=some v3∧W.cell? ⟨w.heap.size,4,none⟩=some v4∧W.cell? ⟨w.heap.size,5,none⟩=some pv):=Lib.hid fun W hW=>by
  have hb:w0.heap[w.heap.size]?=some (.cells #[v0,v1,v2,v3,v4,pv] ET (0,0)):=by rw[hw];exact heap_alloc_last w _
  have hb2:=(hW.block w.heap.size (Array.getElem?_eq_some_iff.1 hb).1).trans hb
  exact⟨zaa hb2 rfl,zaa hb2 rfl,zaa hb2 rfl,zaa hb2 rfl,zaa hb2 rfl,zaa hb2 rfl⟩
 have HI:=Lib.hid fun W (hW:Below w.heap.size w W)=>zvm W v0 v1 v2 v3 v4 pv vi ps p d (hP.below hW) hl hps h hd
 obtain⟨m,hm⟩:∃ m,p.size+9=m:=⟨_,rfl⟩
 rw[hm] at HC
 rw[show p.size+10=m+1 by omega] at e2
 rw[show p.size+11=m+2 by omega]
 have hm50:m≤49:=by omega
 have hsz1:(1:Int)≤(s.size:Int):=by omega
 have hsz2:(1:Int)+(m:Int)≤(s.size:Int):=by omega
 have hk9:¬ (m:Int)<0:=by omega
 have hto:((1:Int)+(m:Int)).toNat=m+1:=by omega
 have hle1:(1:Int)≤1+(m:Int):=by omega
 have S0:=HS.out w0 (Below.refl _ _)
 rw[hs]
 clear hP hps h hs hb hz hs1 hb1 hz1 hi0 hm hpz
 generalize inS p=q at *
 go_enter Tryz.func230,Tryz.ntmps230
 go_wp2_with fail
 rw[←hw]
 have HW:=Lib.hid hw
 clear hw
 refine(HC.out _).mono ?_
 rintro e w1 ⟨rfl,rfl⟩
 have hw1:IntKind.i64.wrap ((1:Int)+(m:Int))=1+(m:Int):=by rw[IntWalk.i64_in _ (by omega)]
 have S5:=HS.out w0.drew ((Below.refl _ _).drew)
 have HBd:=Lib.hid (HB0.out.drew)
 go_wp2_with fail
 go_region_held3 (fun W=>W.cell? ⟨w.heap.size,0,none⟩=some v0∧W.cell? ⟨w.heap.size,1,none⟩=some v1∧W.cell? ⟨w.heap.size,2,none⟩=some v2∧W.cell? ⟨w.heap.size,3,none⟩=some v3∧W.cell? ⟨w.heap.size,4,none⟩=some v4∧W.cell? ⟨w.heap.size,5,none⟩=some pv)
  (first | exact S7 | exact S5)
  ((go_at_call 293;refine(HI.out _ HBd.out).mono ?_;rintro e w7 ⟨rfl,B7⟩;have S7:=HS.out w7 (((Below.refl _ _).drew).trans B7);have HB7:=Lib.hid (HBd.out.trans (B7.mono HBd.out.size));clear B7))
 go_wp2_with fail
 go_ret3
 exact⟨rfl,HB7.out⟩
theorem Rtext_val (w:World) (v0 v1 v2 v3 v4 pv vi:Value) (ps:List ByteArray) (p:ByteArray) (d:Nat) (hP:TlAt w pv ps) (hl:ps.length≤100000) (hps:∀ s∈ps,s.size≤100000) (h:Pat p) (hd:d<59) (hJ:(Ew.zbp (zbw p ps)).size≤1048576) :
  Calls Tryz.prog 159 #[.agg #[v0,v1,v2,v3,v4,pv],.string (valS p),vi,.int .i64 d] w fun e w'=>e=.returned (.tuple #[.string (Ew.zbp (zbw p ps)),.int .i64 0])∧Below w.heap.size w w':=by
 obtain⟨s,hs⟩:∃ s,valS p=s:=⟨_,rfl⟩
 have hb:by8 s=36 :: by8 (parS p):=by rw[←hs];unfold valS;rw[zbc];rfl
 have hpz:=h.size
 have hz:s.size=p.size+12:=by rw[←zab,hb,List.length_cons,zab,zoh]
 have e1:s.extract 1 s.size=parS p:=zar (by
  rw[zbx,hb,hz]
  show List.take (p.size+12 - 1) (by8 (parS p))=_
  rw[List.take_of_length_le]
  rw[zab,zoh];omega)
 have hl0:0<s.size:=by omega
 have hi0:s[0]'hl0=36:=by
  have:=zbi (s:=s) (k:=0) hl0
  rw[hb] at this
  exact(List.cons.inj this).1.symm
 have hq1:(((s[0]'hl0).toNat:Int) == 36)=true:=by rw[hi0];rfl
 obtain⟨w0,hw⟩:∃ w0,w0=w.alloc (.cells #[v0,v1,v2,v3,v4,pv] ET):=⟨_,rfl⟩
 have HB0:Hid (Below w.heap.size w w0):=Lib.hid (by rw[hw];exact(Below.refl w.heap.size w).alloc (Nat.le_refl _) _)
 have HS:Hid (∀ W,Below w0.heap.size w0 W→W.cell? ⟨w.heap.size,0,none⟩=some v0∧W.cell? ⟨w.heap.size,1,none⟩=some v1∧W.cell? ⟨w.heap.size,2,none⟩=some v2∧W.cell? ⟨w.heap.size,3,none⟩=some v3∧W.cell? ⟨w.heap.size,4,none⟩=some v4∧W.cell? ⟨w.heap.size,5,none⟩=some pv):=Lib.hid fun W hW=>by
  have hb:w0.heap[w.heap.size]?=some (.cells #[v0,v1,v2,v3,v4,pv] ET (0,0)):=by rw[hw];exact heap_alloc_last w _
  have hb2:=(hW.block w.heap.size (Array.getElem?_eq_some_iff.1 hb).1).trans hb
  exact⟨zaa hb2 rfl,zaa hb2 rfl,zaa hb2 rfl,zaa hb2 rfl,zaa hb2 rfl,zaa hb2 rfl⟩
 have HD:=Lib.hid fun W (hW:Below w.heap.size w W)=>zwg W v0 v1 v2 v3 v4 pv vi ps p (d+1) (hP.below hW) hl hps h (by omega)
 have hcast:((d+1:Nat):Int)=(d:Int)+1:=by omega
 rw[hcast] at HD
 have hd1:¬ (60:Int)<(d:Int)+1:=by omega
 obtain⟨m,hm⟩:∃ m,p.size+11=m:=⟨_,rfl⟩
 rw[hm] at HD
 have hzm:s.size=m+1:=by omega
 have hm51:m≤51:=by omega
 have hsz1:(1:Int)≤(s.size:Int):=by omega
 have hjm:¬ (1048576:Int)<((Ew.zbp (zbw p ps)).size:Int):=by omega
 have hcat:(⟨#[]⟩:ByteArray).size+(Ew.zbp (zbw p ps)).size≤1048576:=by show 0+_≤_;omega
 have HEm:Hid ((⟨#[]⟩:ByteArray)++Ew.zbp (zbw p ps)=Ew.zbp (zbw p ps)):=Lib.hid (zar (by rw[zbc];rfl))
 rw[hs]
 have HZ:=Lib.hid hzm
 clear hP hps h hs hb hz hi0 hm hpz hJ hcast hzm
 generalize parS p=q at *
 generalize Ew.zbp (zbw p ps)=t at *
 go_enter Tryz.func159,Tryz.ntmps159
 go_wp2_with fail
 rw[←hw]
 have HW:=Lib.hid hw
 clear hw
 go_loopw [10,11] (fun v10 v11 wr=>Below w0.heap.size w0 wr∧(v10=.string ⟨#[]⟩∧v11=.int .i64 0∨v10=.string t∧v11=.int .i64 (m+1:Nat))) (fun _ v11 _=>m+1 - (intOf v11).toNat)
 case atStart=>exact⟨Below.refl _ _,.inl ⟨rfl,rfl⟩⟩
 case round =>
  obtain⟨hB,⟨rfl,rfl⟩ | ⟨rfl,rfl⟩⟩:=hrel
  ·have S5:=HS.out wr.drew hB.drew
   have HBd:=Lib.hid (HB0.out.trans (hB.drew.mono HB0.out.size))
   have HBr:=Lib.hid hB.drew
   have hlt0:(0:Int)<(s.size:Int):=by omega
   have hww:IntKind.i64.wrap (1:Int)=1:=by decide
   have hww2:IntKind.i64.wrap ((0:Int)+1)=1:=by decide
   have h01:(0:Int)≤1:=by decide
   clear hB
   go_wp2_with fail
   go_region_held3 (fun W=>W.cell? ⟨w.heap.size,0,none⟩=some v0∧W.cell? ⟨w.heap.size,1,none⟩=some v1∧W.cell? ⟨w.heap.size,2,none⟩=some v2∧W.cell? ⟨w.heap.size,3,none⟩=some v3∧W.cell? ⟨w.heap.size,4,none⟩=some v4∧W.cell? ⟨w.heap.size,5,none⟩=some pv)
    (first | exact S7 | exact S5)
    ((go_at_call 230;refine(HD.out _ HBd.out).mono ?_;rintro e w7 ⟨rfl,B7⟩;have HB7:=Lib.hid (HBr.out.trans (B7.mono HBr.out.size));have S7:=HS.out w7 HB7.out;clear B7))
   go_wp2_with fail
   rw[HEm.out]
   exact⟨⟨HB7.out,.inr ⟨rfl,by go_num⟩⟩,by simp[intOf]⟩
  ·have hki:¬ ((m+1:Nat):Int)<(s.size:Int):=by have:=HZ.out;omega
   have HBe:=Lib.hid hB
   clear hB
   go_wp2_with fail
   go_ret2
   exact⟨rfl,HB0.out.trans (HBe.out.mono HB0.out.size)⟩
theorem RText_any (w:World) (v0 v1 v2 v3 v4 pv:Value) (ps:List ByteArray) (p:ByteArray) (hP:TlAt w pv ps) (hl:ps.length≤100000) (hps:∀ s∈ps,s.size≤100000) (h:Pat p) (hJ:(Ew.zbp (zbw p ps)).size≤1048576) :
  Calls Tryz.prog 86 #[.agg #[v0,v1,v2,v3,v4,pv],.string (valS p)] w fun e w'=>e=.returned (.tuple #[.string (Ew.zbp (zbw p ps)),.int .i64 0])∧Below w.heap.size w w':=by
 obtain⟨w0,hw⟩:∃ w0,w0=w.alloc (.cells #[v0,v1,v2,v3,v4,pv] ET):=⟨_,rfl⟩
 have HB0:Hid (Below w.heap.size w w0):=Lib.hid (by rw[hw];exact(Below.refl w.heap.size w).alloc (Nat.le_refl _) _)
 have HT:=Lib.hid (Rtext_val w0 v0 v1 v2 v3 v4 pv (.slice none 0 0) ps p 0 (hP.below HB0.out) hl hps h (by omega) hJ)
 clear hP hps h hJ
 generalize Ew.zbp (zbw p ps)=t at *
 go_enter Tryz.func86,Tryz.ntmps86
 go_wp2_with fail
 rw[←hw]
 refine HT.out.mono ?_
 rintro e w1 ⟨rfl,B1⟩
 go_wp2_with fail
 go_ret2
 exact⟨rfl,HB0.out.trans (B1.mono HB0.out.size)⟩
end Dw
end Go.Proofs.YtgdpbnfgcabneaaGreatDoor

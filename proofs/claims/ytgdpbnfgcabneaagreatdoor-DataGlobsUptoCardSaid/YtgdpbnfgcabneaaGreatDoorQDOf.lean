/- Part of the proof. -/
import Derived.Test.YtgdpbnfgcabneaaGreatDoorQMRec
import Derived.Test.YtgdpbnfgcabneaaGreatDoorQDDollar
import Derived.Test.YtgdpbnfgcabneaaGreatDoorQIROf
set_option maxRecDepth 100000
set_option maxHeartbeats 40000000
namespace Go.Proofs.YtgdpbnfgcabneaaGreatDoor
namespace Dw
open Go.RowKit Ww Iw
open Tw (zbx zau)
abbrev RP:TypeId:=153
theorem zof:(Tryz.prog.info? RP).map (·.size)=some 11:=by kernel_rfl
theorem undRP:Tryz.prog.underlying RP=some (.struct (Tryz.prog.fieldsOf RP)):=by kernel_rfl
def zdu (V:ByteArray):ByteArray:=⟨#[88,32,58,61,32]⟩++V
def asC (n:Int) (V:ByteArray):Array Value:=#[.int .i64 0,.int .i64 n,.string ⟨#[88]⟩,.string ⟨#[58,61]⟩,.string V,.bool false,.bool false,.string ⟨#[]⟩,.string ⟨#[]⟩,.string ⟨#[]⟩,.slice none 0 0]
theorem Rhas_X (w:World):Calls Tryz.prog 181 #[.string ⟨#[88]⟩,.string ⟨#[32,9,10,58,35,61]⟩] w fun e w'=>e=.returned (.bool false)∧w=w':=by
 have HH:=Lib.hid fun W=>Ww.zqh W ⟨#[32,9,10,58,35,61]⟩ 88 (by decide)
 have hb:hasB ⟨#[32,9,10,58,35,61]⟩ 88=false:=by decide
 rw[hb] at HH
 go_enter Tryz.func181,Tryz.ntmps181
 go_wp2_with fail
 go_loopw [5] (fun v5 wr=>∃ i:Nat,v5=.int .i64 i∧i≤1∧wr=w) (fun v5 _=>1 - (intOf v5).toNat)
 case atStart=>exact⟨0,rfl,Nat.zero_le _,rfl⟩
 case round =>
  obtain⟨i,rfl,hi,rfl⟩:=hrel
  rcases (show i=0∨i=1 by omega) with rfl | rfl
  ·go_wp2_with fail
   refine(HH.out _).mono ?_
   rintro e w1 ⟨rfl,rfl⟩
   go_wp2_with fail
   go_roundw
   case rel=>exact⟨1,rfl,Nat.le_refl _,trivial⟩
   case measure=>decide
  ·go_wp2_with fail
   go_ret
   exact⟨rfl,rfl⟩
theorem Rassign_any (w:World) (V:ByteArray) (hV:V.size≤50000) (hT:Hid (zfj (⟨#[32]⟩++V)=V)) :
  Calls Tryz.prog 179 #[.string (zdu V)] w fun e w'=>e=.returned (.tuple #[.agg (asC 0 V),.bool true])∧Below w.heap.size w w':=by
 obtain⟨s,hs⟩:∃ s,zdu V=s:=⟨_,rfl⟩
 obtain⟨r,hr⟩:∃ r,(⟨#[61,32]⟩++V:ByteArray)=r:=⟨_,rfl⟩
 obtain⟨r2,hr2⟩:∃ r,(⟨#[32]⟩++V:ByteArray)=r:=⟨_,rfl⟩
 have hz:s.size=V.size+5:=by rw[←hs];unfold zdu;rw[ByteArray.size_append];show 5+_=_;omega
 have hb:by8 s=88 :: 32 :: 58 :: 61 :: 32 :: by8 V:=by rw[←hs];unfold zdu;rw[zbc];rfl
 have hzr:r.size=V.size+2:=by rw[←hr,ByteArray.size_append];show 2+_=_;omega
 have hbr:by8 r=61 :: 32 :: by8 V:=by rw[←hr,zbc];rfl
 have hbr2:by8 r2=32 :: by8 V:=by rw[←hr2,zbc];rfl
 have hzr2:r2.size=V.size+1:=by rw[←hr2,ByteArray.size_append];show 1+_=_;omega
 rw[hr2] at hT
 rw[hs]
 have HC:Hid (∀ W,Calls Tryz.prog 254 #[.string s,.string ⟨#[61,58]⟩] W fun e w'=>e=.returned (.int .i64 2)∧W=w'):=Lib.hid fun W=>by
  have h:=RCut_any W s ⟨#[61,58]⟩ (by rw[hz];omega) (by decide)
  have e:cutI s ⟨#[61,58]⟩=2:=by
   unfold cutI
   rw[hb];rfl
  unfold zkc at h
  rw[e] at h
  exact h
 have e1:s.extract 0 2=⟨#[88,32]⟩:=zar (by rw[zbx,hb];rfl)
 have e2:s.extract 3 s.size=r:=zar (by rw[zbx,hb,hbr,hz];show List.take (V.size+5 - 3) (61 :: 32 :: by8 V)=61 :: 32 :: by8 V;rw[List.take_of_length_le];simp[zab])
 have e3:r.extract 1 r.size=r2:=zar (by rw[zbx,hbr,hbr2,hzr];show List.take (V.size+2 - 1) (32 :: by8 V)=32 :: by8 V;rw[List.take_of_length_le];simp[zab])
 have HT1:Hid (∀ W,Calls Tryz.prog 87 #[.string ⟨#[88,32]⟩] W fun e w'=>e=.returned (.string ⟨#[88]⟩)∧W=w'):=Lib.hid fun W=>by
  have h:=zhe W ⟨#[88,32]⟩ (by decide)
  have e:zfj ⟨#[88,32]⟩=⟨#[88]⟩:=by kernel_rfl
  rw[e] at h
  exact h
 have HT2:Hid (∀ W,Calls Tryz.prog 87 #[.string r2] W fun e w'=>e=.returned (.string V)∧W=w'):=Lib.hid fun W=>by
  have h:=zhe W r2 (by omega)
  rw[hT.out] at h
  exact h
 have HHs:=Lib.hid fun W=>Rhas_X W
 have hl2:2<s.size:=by omega
 have hl0:0<r.size:=by omega
 have hi2:s[2]'hl2=58:=by
  have:=zbi (s:=s) (k:=2) (by omega)
  rw[hb] at this
  exact(List.cons.inj this).1.symm
 have hi0:r[0]'hl0=61:=by
  have:=zbi (s:=r) (k:=0) (by omega)
  rw[hbr] at this
  exact(List.cons.inj this).1.symm
 have hq2:(((s[2]'hl2).toNat:Int) == 58)=true:=by rw[hi2];rfl
 have hq0:(((r[0]'hl0).toNat:Int) == 61)=true:=by rw[hi0];rfl
 have hE:(r.toList == [])=false:=by rw[zau,hbr];rfl
 have hsz:(3:Int)≤(s.size:Int):=by omega
 have hrz:(1:Int)≤(r.size:Int):=by omega
 clear hb hT hs hr hr2 hbr hbr2 hi2 hi0 hz hzr2 hzr
 go_enter Tryz.func179,Tryz.ntmps179
 go_wp2_with fail
 refine(HC.out _).mono ?_
 rintro e w1 ⟨rfl,rfl⟩
 go_wp2_with fail
 refine(HT1.out _).mono ?_
 rintro e w1 ⟨rfl,rfl⟩
 go_wp2_with fail
 refine(HT2.out _).mono ?_
 rintro e w1 ⟨rfl,rfl⟩
 go_wp2_with fail
 refine(HHs.out _).mono ?_
 rintro e w1 ⟨rfl,rfl⟩
 go_wp2_with fail
 refine bodyPost_ret (Mw.zal Tryz.results179 _ _ w.heap.size RP (asC 0 V) (0,0) _ (.bool true) rfl rfl ((((Below.refl _ (w.alloc (.cells (asC 0 V) RP))).alloc (Nat.le_refl _) (.cells (asC 0 V) RP)).block w.heap.size (by simp)).trans (heap_alloc_last w (.cells (asC 0 V) RP))) undRP rfl zof) rfl ?_
 exact⟨rfl,((Below.refl _ w).alloc (Nat.le_refl _) _).alloc (by simp) _⟩
end Dw
namespace Dw
open Go.RowKit Ww Iw
open Tw (zbx zau)
structure Vl (V:ByteArray):Prop where
 head:(by8 V).head?=some 36
 last:(by8 V).getLast?=some 41
 no:∀ c∈by8 V,c≠10∧c≠35
 size:V.size≤50000
theorem Vl.trim {V:ByteArray} (h:Vl V):zfj (⟨#[32]⟩++V)=V:=zar (by
 show Ip.trim (by8 (⟨#[32]⟩++V))=by8 V
 rw[zbc]
 show Ip.trim (32 :: by8 V)=by8 V
 exact Mp.trim_lsp (fun c hc=>by rw[h.last] at hc;cases hc;decide) (fun c hc=>by rw[h.head] at hc;cases hc;decide))
theorem Vl.line {V:ByteArray} (h:Vl V):Ip.zci (by8 (zdu V))=[⟨1,by8 (zdu V),false⟩]:=by
 have hb:by8 (zdu V)=[88,32,58,61,32]++by8 V:=by unfold zdu;rw[zbc];rfl
 have hne:by8 V≠[]:=fun e=>by have:=h.head;rw[e] at this;cases this
 have h10:∀ c∈by8 (zdu V),c≠10∧c≠35:=fun c hc=>by
  rw[hb] at hc
  rcases List.mem_append.1 hc with hc | hc
  ·have:∀ c∈([88,32,58,61,32]:List UInt8),c≠10∧c≠35:=by decide
   exact this c hc
  ·exact h.no c hc
 have hhd:(by8 (zdu V)).head?=some 88:=by rw[hb];rfl
 have hlt:(by8 (zdu V)).getLast?=some 41:=by rw[hb,List.getLast?_append,h.last];rfl
 have hs0:by8 (zdu V)≠[]:=fun e=>by rw[e] at hhd;cases hhd
 generalize by8 (zdu V)=s at *
 have htr:Ip.trim s=s:=Mp.trim_id (fun c hc=>by rw[hhd] at hc;cases hc;decide) (fun c hc=>by rw[hlt] at hc;cases hc;decide)
 have hba:Ip.zay [] s=s:=by rw[Ip.zjr fun hm=>(h10 35 hm).2 rfl];rfl
 unfold Ip.zci
 rw[Ip.zkj fun hm=>(h10 10 hm).1 rfl]
 have htab:Ip.tab (([s]:List (List UInt8)).headD [])=false:=by show (s.head? == some 9)=false;rw[hhd];rfl
 rw[htab,Ip.zem rfl,htr]
 have ha:Ip.addA [] s=s:=by unfold Ip.addA;rw[if_neg hs0,if_pos rfl]
 have ht:Ip.zkb false s=s:=by unfold Ip.zkb;rw[if_neg Bool.false_ne_true,hba,htr]
 rw[ha]
 unfold Ip.emit
 rw[ht,if_neg hs0];rfl
theorem zwx (n:Int) (V:ByteArray):(asC n V).all (·.oneCell')=true:=by simp[asC,Value.oneCell']
theorem Rone_any (w:World) (V:ByteArray) (h:Vl V) (n:Int) :
  Calls Tryz.prog 105 #[.agg #[.int .i64 n,.string (zdu V),.bool false]] w fun e w'=>e=.returned (.tuple #[.agg (asC 0 V),.bool true])∧Below w.heap.size w w':=by
 have HA:=Lib.hid fun W=>Rassign_any W V h.size (Lib.hid h.trim)
 clear h
 generalize zdu V=s at *
 obtain⟨w0,hw0⟩:∃ w0,w0=(w.alloc (.cells #[.int .i64 n,.string s,.bool false] RL)).alloc (.cells Mw.zak RP):=⟨_,rfl⟩
 have HB0:Hid (Below w.heap.size w w0):=Lib.hid (by rw[hw0];exact((Below.refl _ w).alloc (Nat.le_refl _) _).alloc (by simp) _)
 have HR0:Hid (w0.heap[w.heap.size+1]?=some (.cells Mw.zak RP (0,0))):=Lib.hid (by
  have:=heap_alloc_last (w.alloc (.cells #[.int .i64 n,.string s,.bool false] RL)) (.cells Mw.zak RP)
  rw[World.size_alloc] at this
  rw[hw0];exact this)
 have hs0:w0.heap.size=w.heap.size+2:=by rw[hw0];simp
 go_enter Tryz.func105,Tryz.ntmps105
 go_wp2_with fail
 unfold Mw.zak at hw0
 rw[←hw0]
 refine(HA.out w0).mono ?_
 rintro e w1 ⟨rfl,B1⟩
 have HB1:=Lib.hid (HB0.out.trans (B1.mono HB0.out.size))
 have HR1:=Lib.hid ((B1.block (w.heap.size+1) (by omega)).trans HR0.out)
 have hs1:w.heap.size+2≤w1.heap.size:=by have:=B1.size;omega
 have HX:=Lib.hid (heap_alloc_last w1 (.cells Mw.zak RP))
 clear B1 hw0 hs0
 go_wp2_with (first
  | (refine Mw.zbz rfl RP _ _ rfl w1.heap.size (asC 0 V) rfl rfl RP Mw.zak HX.out zof rfl (zwx _ _) ?_;intro W3 HG3 HE3;have HR3:Hid (W3.heap[w.heap.size+1]?=some (.cells Mw.zak RP (0,0))):=Lib.hid (by rw[HE3.out];exact(setRow_other _ _ _ _ (by omega)).trans ((((Below.refl _ w1).alloc (Nat.le_refl _) _).block (w.heap.size+1) (by omega)).trans HR1.out));have HB3:Hid (Below w.heap.size w W3):=Lib.hid (by rw[HE3.out];exact below_setRow (HB1.out.alloc HB1.out.size _) (by omega) _))
  | (refine wpList_load_row rfl RP _ rfl w1.heap.size rfl RP (asC 0 V) (0,0) _ HG3.out undRP rfl zof ?_)
  | (refine wpList_store_row rfl RP _ _ rfl (w.heap.size+1) (asC 0 V) rfl rfl RP Mw.zak HR3.out zof rfl (zwx _ _) ?_))
 (try simp only [Exit.inBlock,Exit.then])
 refine bodyPost_ret (Mw.zal Tryz.results105 _ _ (w.heap.size+1) RP (asC 0 V) (0,0) _ (.bool true) rfl rfl (setRow_heap _ _ _ _ _ _ HR3.out) undRP rfl zof) rfl ?_
 exact⟨rfl,below_setRow HB3.out (Nat.le_succ _) _⟩
theorem asC_set {W:World} {g:Nat} {V:ByteArray} (h:W.heap[g]?=some (.cells (asC 0 V) RP (0,0))) (n:Int):(W.setCell ⟨g,1,none⟩ (.int .i64 n)).heap[g]?=some (.cells (asC n V) RP (0,0)):=zai (i:=1) h _
theorem infoRP:(Tryz.prog.info? RP).map (fun i=>(i.zero,i.size,i.bytes))=some (some (.agg Mw.zak),11,144):=by kernel_rfl
theorem wpList_addP {ops:Array Oper} {rest:List Oper} {o:Oper} {a:Act} {Q:Exit→Act→World→Prop} {w:World} (hg:o.guard=none) (s x:Operand)
  (ho:o.op=.call { callee:=.builtin .append,args:=#[s,x],argTypes:=#[147,147] }) (base:Nat) (hs:a.eval s=.slice none 0 0) (g:Nat) (V:ByteArray) (hx:a.eval x=.slice (some ⟨g,0,none⟩) 1 1)
  (hc:∀ j u,(asC 1 V).toList[j]?=some u→w.cell? ((⟨g,0,none⟩:Addr).add j)=some u) (hb:base≤w.heap.size)
  (hK:∀ v' w',w'.ownsRow base RP 11 v' 1 (asC 1 V).toList→w.grownBy w' none→wpList Tryz.prog ops Q rest (a.put o.dst v') w'):wpList Tryz.prog ops Q (o :: rest) a w:=by
 obtain⟨i0,hi,hz0,hz1,hz2⟩:=info_parts infoRP
 refine wpList_append_own _ hg s x 147 ho base RP i0 (.agg Mw.zak) 11 144 Tryz.underlying147 hi hz0 hz1 hz2 rfl (by decide) (.slice none 0 0) 0 [] hs (World.ownsRow_nil _ _ _ _) ⟨g,0,none⟩ 1 1 (asC 1 V).toList hx rfl hc (by simp[asC,Value.oneCell']) (by unfold maxLen;omega) (by omega) hb ?_
 intro v' w' ho' hg' _
 exact hK v' w' ho' hg'
theorem Rof_any (w:World) (V:ByteArray) (h:Vl V) :
  Calls Tryz.prog 55 #[.string (zdu V)] w fun e w'=>∃ a c,e=.returned (.tuple #[.slice a 1 c,.int .i64 0])∧Hid (w'.ownsRow w.heap.size RP 11 (.slice a 1 c) 1 (asC 1 V).toList)∧Below w.heap.size w w':=by
 have hz:(zdu V).size=V.size+5:=by unfold zdu;rw[ByteArray.size_append];show 5+_=_;omega
 have hsz:=h.size
 have HL:=Lib.hid (ROf_any w (zdu V) (by omega))
 rw[h.line] at HL
 have HO:=Lib.hid fun W n=>Rone_any W V h n
 have hLs:Iw.str (by8 (zdu V))=zdu V:=str_by8 _
 clear h hz hsz
 generalize zdu V=s at *
 go_enter Tryz.func55,Tryz.ntmps55
 go_wp2_with fail
 refine HL.out.mono ?_
 rintro e w1 ⟨v,rfl,hown,B1⟩
 obtain⟨a1,c1,rfl⟩:=zac hown
 obtain⟨g1,rfl,hg1,hx⟩:∃ g,a1=some ⟨g,0,none⟩∧g<w1.heap.size∧(w1.cell? ⟨g,0,none⟩=some (.int .i64 1)∧w1.cell? ⟨g,1,none⟩=some (.string s)∧w1.cell? ⟨g,2,none⟩=some (.bool false)):=by
  rcases hown.2 with ⟨_,h0⟩ | ⟨g,cap,cur,hv,_,hg,_⟩
  ·exact absurd h0 (by simp)
  ·cases hv
   have hc:=fun j u (hj:(zcp [⟨1,by8 s,false⟩])[j]?=some u)=>hown.cells (g:=g) rfl j u hj
   have c0:=hc 0 _ rfl
   have c1:=hc 1 _ rfl
   have c2:=hc 2 _ rfl
   rw[Addr.add_lit] at c0 c1 c2
   exact⟨g,rfl,(Array.getElem?_eq_some_iff.1 hg).1,c0,by rw[hLs] at c1;exact c1,c2⟩
 have HX1:=Lib.hid fun W (hW:Below w1.heap.size w1 W)=>(⟨(hW.cell (p:=⟨g1,0,none⟩) hg1).trans hx.1,(hW.cell (p:=⟨g1,1,none⟩) hg1).trans hx.2.1,(hW.cell (p:=⟨g1,2,none⟩) hg1).trans hx.2.2⟩:W.cell? ⟨g1,0,none⟩=some (.int .i64 1)∧W.cell? ⟨g1,1,none⟩=some (.string s)∧W.cell? ⟨g1,2,none⟩=some (.bool false))
 have HB1:=Lib.hid B1
 clear hown hx B1 hLs
 go_wp2_with fail
 go_loopw [4,6] (fun v4 v6 wr=>Below w1.heap.size w1 wr∧(v4=.slice none 0 0∧v6=.int .i64 0∨v6=.int .i64 1∧∃ a c,v4=.slice a 1 c∧wr.ownsRow w1.heap.size RP 11 (.slice a 1 c) 1 (asC 1 V).toList)) (fun _ v6 _=>1 - (intOf v6).toNat)
 case atStart=>exact⟨Below.refl _ _,.inl ⟨rfl,rfl⟩⟩
 case round =>
  obtain⟨hB,hcase⟩:=hrel
  have hws:=hB.size
  rcases hcase with ⟨rfl,rfl⟩ | ⟨rfl,a,c,rfl,hrow⟩
  ·obtain⟨x0,x1,x2⟩:=HX1.out wr hB
   have HB:=Lib.hid hB
   clear hB
   go_wp2_with fail
   refine(HO.out wr 1).mono ?_
   rintro e w3 ⟨rfl,B3⟩
   have HB3:=Lib.hid (HB.out.trans (B3.mono HB.out.size))
   obtain⟨y0,y1,y2⟩:=HX1.out w3 HB3.out
   have HX:=Lib.hid (heap_alloc_last w3 (.cells Mw.zak RP))
   have hs3:=HB3.out.size
   clear B3 x0 x1 x2
   dsimp only
   go_wp2_with (first
    | (at_builtin;(refine wpList_addP rfl _ _ rfl w1.heap.size (by simp[go_sem]) W4.heap.size V (by simp[go_sem]) (Mw.zbv _ (asC 1 V) _ (by simp[World.setCell])) (by have:=HB4.out.size;simp[World.setCell];omega) ?_);intro v' w6 hown' hgrow;obtain⟨a6,c6,rfl⟩:=zac hown')
    | (refine Mw.zbz rfl RP _ _ rfl w3.heap.size (asC 0 V) rfl rfl RP Mw.zak HX.out zof rfl (zwx _ _) ?_;intro W4 HG4 HE4;have HB4:Hid (Below w1.heap.size w1 W4):=Lib.hid (by rw[HE4.out];exact below_setRow (HB3.out.alloc HB3.out.size _) hs3 _);have z0:=(HX1.out W4 HB4.out).1;have d5:W4.cell? ⟨w3.heap.size,1,none⟩=some (.int .i64 0):=zaa HG4.out rfl;have f5:W4.frozen? ⟨w3.heap.size,1,none⟩=false:=zad HG4.out _;have HG:Hid ((W4.setCell ⟨w3.heap.size,1,none⟩ (.int .i64 1)).heap[w3.heap.size]?=some (.cells #[.int .i64 0,.int .i64 1,.string ⟨#[88]⟩,.string ⟨#[58,61]⟩,.string V,.bool false,.bool false,.string ⟨#[]⟩,.string ⟨#[]⟩,.string ⟨#[]⟩,.slice none 0 0] RP (0,0))):=Lib.hid (asC_set HG4.out 1);have HB5:=Lib.hid (HB4.out.setCell (p:=⟨w3.heap.size,1,none⟩) hs3 (.int .i64 1)))
    | (refine wpList_load_row rfl RP _ rfl w3.heap.size rfl RP #[.int .i64 0,.int .i64 1,.string ⟨#[88]⟩,.string ⟨#[58,61]⟩,.string V,.bool false,.bool false,.string ⟨#[]⟩,.string ⟨#[]⟩,.string ⟨#[]⟩,.slice none 0 0] (0,0) _ HG.out undRP rfl zof ?_))
   have hB6:=(HB5.out.alloc HB5.out.size (.cells (asC 1 V) RP)).grown hgrow (by have:=HB4.out.size;simp[World.setCell];omega) (fun j e=>by cases e)
   go_roundw
   case rel=>exact⟨hB6,.inr ⟨rfl,a6,c6,rfl,hown'⟩⟩
   case measure=>decide
  ·have HB:=Lib.hid hB
   have HRow:=Lib.hid hrow
   clear hB hrow
   go_wp2_with fail
   go_ret2
   exact⟨_,_,rfl,Lib.hid (Mw.zco HRow.out HB1.out.size),HB1.out.trans (HB.out.mono HB1.out.size)⟩
end Dw
end Go.Proofs.YtgdpbnfgcabneaaGreatDoor

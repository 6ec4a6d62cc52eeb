/- Part of the proof. -/
import Derived.Test.YtgdpbnfgcabneaaGreatDoorQWays
import Derived.Test.YtgdpbnfgcabneaaGreatDoorQSRSet2
import Derived.Test.YtgdpbnfgcabneaaGreatDoorQRPath
set_option maxRecDepth 100000
set_option maxHeartbeats 40000000
namespace Go.Proofs.YtgdpbnfgcabneaaGreatDoor
namespace Dw
open Go.RowKit Go.Maps Sw
def toA (p q:Bs):Bs:=Pt.text (zaz (Pt.parts p) (Pt.parts q))
def zbh (L:List F) (q:Bs):List ByteArray:=L.map fun f=>str (toA f.p q)
theorem zwd {L:List F} {q:Bs} {k:Nat} (h:k<L.length):zbh (L.take (k+1)) q=zbh (L.take k) q++[str (toA L[k].p q)]:=by
 unfold zbh
 rw[List.take_succ_eq_append_getElem h,List.map_append];rfl
theorem zen (L:List F) (q:Bs):(zbh L q).length=L.length:=by simp[zbh]
def Grown (_w w0:World) (n:Nat) (ss:List ByteArray) (v:Value) (wr:World):Prop:=∃ a c,v=.slice a n c∧wr.ownsRow w0.heap.size ST 1 (.slice a n c) n (strC ss)∧Below w0.heap.size w0 wr
theorem Rnames_any (w:World) (v:Value) (c:Int) {L:List F} (q:ByteArray) (hF:Files w v L) (hl:L.length≤100000) (hps:∀ f∈L,f.p.length≤100000) (hq:q.size≤100000) :
  Calls Tryz.prog 57 #[.agg #[v,.int .i64 c],.string q] w fun e w'=>∃ a cp,e=.returned (.slice a L.length cp)∧Hid (w'.ownsRow w.heap.size ST 1 (.slice a L.length cp) L.length (strC (zbh L (bs q))))∧Below w.heap.size w w':=by
 obtain⟨a0,cp0,rfl⟩:∃ a cp,v=.slice a L.length cp:=by
  rcases hF with ⟨rfl,a,c,rfl⟩ | ⟨b,o,c,rfl,_⟩<;>exact⟨_,_,rfl⟩
 have HTo:=Lib.hid fun W p hp=>Rto_any W p q hp hq
 have HFl:=Lib.hid hF
 have HPs:=Lib.hid hps
 obtain⟨n,hn⟩:∃ n,L.length=n:=⟨_,rfl⟩
 have HN:=Lib.hid hn
 rw[hn] at HFl hl ⊢
 clear hF hps hn
 obtain⟨w0,hw⟩:∃ w0,w0=w.alloc (.cells #[.slice a0 n cp0,.int .i64 c] 32):=⟨_,rfl⟩
 have HB0:Hid (Below w.heap.size w w0):=Lib.hid (by rw[hw];exact(Below.refl w.heap.size w).alloc (Nat.le_refl _) _)
 have HX:Hid (∀ W,Below w0.heap.size w0 W→W.cell? ⟨w.heap.size,0,none⟩=some (.slice a0 n cp0)):=Lib.hid (fun W hW=>(hW.cell (p:=⟨w.heap.size,0,none⟩) (by rw[hw];simp)).trans (by rw[hw,World.cell?_alloc_at _ _ _ _ (by simp)];rfl))
 have HF0:=Lib.hid (HFl.out.below HB0.out)
 go_enter Tryz.func57,Tryz.ntmps57
 go_wp2_with fail
 rw[←hw]
 have HW:=Lib.hid hw
 clear hw
 go_loopw [5,6] (fun v5 v6 wr=>∃ i:Nat,v6=.int .i64 i∧i≤n∧Grown w w0 i (zbh (L.take i) (bs q)) v5 wr) (fun _ v6 _=>n - (intOf v6).toNat)
 case atStart=>exact⟨0,rfl,Nat.zero_le _,none,0,rfl,World.ownsRow_nil _ _ _ _,Below.refl _ _⟩
 case round =>
  obtain⟨i,rfl,hi,a,cp,rfl,hrow,hB⟩:=hrel
  have hk0:(0:Int)≤(i:Int):=Int.natCast_nonneg _
  have x0:=HX.out wr hB
  have hws:=hB.size
  by_cases hlt:i<n
  ·have hki:(i:Int)<(n:Int):=by omega
   have hLi:i<L.length:=by have:=HN.out;omega
   obtain⟨b,o,c1,hv,hb,hx⟩:=HF0.out.resolve_left (fun e=>by have:=HN.out;rw[e.1] at this;simp at this;omega)
   have hpl:=HPs.out _ (List.getElem_mem hLi)
   have hcx:wr.cell? ⟨b,o+i * 4,none⟩=some (.string (str L[i].p)):=(hB.cell (p:=⟨b,o+i * 4,none⟩) hb).trans (hx i hLi).1
   obtain⟨rfl,hnn,rfl⟩:=(Value.slice.injEq ..).mp hv
   clear hnn
   have HTk:=Lib.hid (zwd (q:=bs q) hLi)
   have HPd:Hid (str (toA L[i].p (bs q))=str (toA (bs (str L[i].p)) (bs q))):=Lib.hid (by rw[zas])
   have hps:(str L[i].p).size≤100000:=by rw[←zax,zas];exact hpl
   have HT1:=Lib.hid fun W=>HTo.out W (str L[i].p) hps
   have HB:=Lib.hid hB
   have HRow:=Lib.hid hrow
   clear hx hv hB hrow hpl
   rw[HPd.out] at HTk
   generalize str L[i].p=x at *
   go_wp2_with fail
   refine(HT1.out _).mono ?_
   rintro e w3 ⟨rfl,B3⟩
   have HB3:=Lib.hid (HB.out.trans (B3.mono HB.out.size))
   have HR3:=Lib.hid (zae HRow.out B3)
   have x3:=HX.out w3 HB3.out
   clear B3
   have HPt:Hid (Pt.text (zaz (Pt.parts (bs x)) (Pt.parts (bs q)))=toA (bs x) (bs q)):=Lib.hid rfl
   rw[HPt.out]
   generalize hy:str (toA (bs x) (bs q))=y at *
   have HLit:=Lib.hid (TlAt.lit w3 y)
   have HBa:=Lib.hid (HB3.out.alloc HB3.out.size (.cells #[.string y] ST))
   have HRa:=Lib.hid (HR3.out.alloc (.cells #[.string y] ST))
   have HLt:Hid (∀ j,(Value.slice a i cp).ownBlock=some j→w0.heap.size≤j):=Lib.hid fun j e=>(HRow.out.lt j e).1
   go_wp2_with (at_builtin;refine zfo rfl _ _ rfl w0.heap.size _ i (zbh (L.take i) (bs q)) [y] rfl HRa.out (by rw[zen,List.length_take];have:=HN.out;omega) _ rfl HLit.out (by rw[zen,List.length_take];simp;omega) HBa.out.size ?_;intro v' w5 hown' hgrow;obtain⟨a7,c7,rfl⟩:=zga hown')
   have hB5:=HBa.out.grown hgrow HBa.out.size HLt.out
   rw[←HTk.out] at hown'
   go_roundw
   case rel=>exact⟨i+1,by go_num,hlt,a7,c7,rfl,hown',hB5⟩
   case measure=>simp[intOf];omega
  ·obtain rfl:i=n:=by omega
   have HRow:=Lib.hid hrow
   have HB:=Lib.hid hB
   clear hrow hB
   go_wp2_with fail
   go_ret
   refine⟨_,_,rfl,Lib.hid ?_,HB0.out.trans (HB.out.mono HB0.out.size)⟩
   have h:=HRow.out
   rw[List.take_of_length_le (by have:=HN.out;omega)] at h
   exact zfy HB0.out.size h
abbrev ET:TypeId:=53
def zbw (p:ByteArray) (ps:List ByteArray):List ByteArray:=ps.filter fun s=>Gm.zef (bs p) (bs s)
theorem findS_take {p:ByteArray} {ps:List ByteArray} {k:Nat} (h:k<ps.length):zbw p (ps.take (k+1))=zbw p (ps.take k)++(if Gm.zef (bs p) (bs ps[k])=true then [ps[k]] else []):=by
 unfold zbw
 rw[List.take_succ_eq_append_getElem h,List.filter_append]
 congr 1
 rw[List.filter_cons,List.filter_nil]
theorem zmr (p:ByteArray) (ps:List ByteArray):(zbw p ps).length≤ps.length:=List.length_filter_le _ _
theorem TlAt.at {w:World} {a:Option Addr} {n c:Nat} {ss:List ByteArray} (h:TlAt w (.slice a n c) ss) {k:Nat} (hk:k<ss.length):∃ b o,a=some ⟨b,o,none⟩∧b<w.heap.size∧w.cell? ⟨b,o+k,none⟩=some (.string ss[k]):=by
 obtain⟨a',c',hv,hc,h⟩:=h
 obtain⟨rfl,hn,rfl⟩:=(Value.slice.injEq ..).mp hv
 rcases h with ⟨_,h0,_⟩ | ⟨b,o,rfl,hb,hx⟩
 ·omega
 ·exact⟨b,o,rfl,hb,hx k _ (by rw[strC,List.getElem?_map,List.getElem?_eq_getElem hk];rfl)⟩
theorem zuh (w:World) (v0 v1 v2 v3 v4 pv:Value) (ps:List ByteArray) (p:ByteArray) (hP:TlAt w pv ps) (hl:ps.length≤100000) (hps:∀ s∈ps,s.size≤900000) (hp:p.size≤900000) :
  Calls Tryz.prog 14 #[.agg #[v0,v1,v2,v3,v4,pv],.string p] w fun e w'=>∃ a cp,e=.returned (.slice a (zbw p ps).length cp)∧Hid (w'.ownsRow w.heap.size ST 1 (.slice a (zbw p ps).length cp) (zbw p ps).length (strC (zbw p ps)))∧Below w.heap.size w w':=by
 obtain⟨a0,cp0,rfl⟩:=hP.shape
 have HPt:=Lib.hid fun W s hs=>Gm.RPath_any W p s hp hs
 have HFl:=Lib.hid hP
 have HPs:=Lib.hid hps
 obtain⟨n,hn⟩:∃ n,ps.length=n:=⟨_,rfl⟩
 have HN:=Lib.hid hn
 rw[hn] at HFl hl ⊢
 clear hP hps hn
 obtain⟨w0,hw⟩:∃ w0,w0=w.alloc (.cells #[v0,v1,v2,v3,v4,.slice a0 n cp0] ET):=⟨_,rfl⟩
 have HB0:Hid (Below w.heap.size w w0):=Lib.hid (by rw[hw];exact(Below.refl w.heap.size w).alloc (Nat.le_refl _) _)
 have HX:Hid (∀ W,Below w0.heap.size w0 W→W.cell? ⟨w.heap.size,5,none⟩=some (.slice a0 n cp0)):=Lib.hid (fun W hW=>(hW.cell (p:=⟨w.heap.size,5,none⟩) (by rw[hw];simp)).trans (by rw[hw,World.cell?_alloc_at _ _ _ _ (by simp)];rfl))
 have HF0:=Lib.hid (HFl.out.below HB0.out)
 go_enter Tryz.func14,Tryz.ntmps14
 go_wp2_with fail
 rw[←hw]
 have HW:=Lib.hid hw
 clear hw
 go_loopw [5,6] (fun v5 v6 wr=>∃ i m:Nat,v6=.int .i64 i∧i≤n∧m=(zbw p (ps.take i)).length∧Grown w w0 m (zbw p (ps.take i)) v5 wr) (fun _ v6 _=>n - (intOf v6).toNat)
 case atStart=>exact⟨0,0,rfl,Nat.zero_le _,rfl,none,0,rfl,World.ownsRow_nil _ _ _ _,Below.refl _ _⟩
 case round =>
  obtain⟨i,m,rfl,hi,hm,a,cp,rfl,hrow,hB⟩:=hrel
  have HM:=Lib.hid hm
  have hm2:m≤i:=by rw[hm];have:=zmr p (ps.take i);rw[List.length_take] at this;omega
  clear hm
  have hk0:(0:Int)≤(i:Int):=Int.natCast_nonneg _
  have x0:=HX.out wr hB
  have hws:=hB.size
  by_cases hlt:i<n
  ·have hki:(i:Int)<(n:Int):=by omega
   have hLi:i<ps.length:=by have:=HN.out;omega
   obtain⟨b,o,rfl,hb,hx⟩:=HF0.out.at hLi
   have hcx:wr.cell? ⟨b,o+i,none⟩=some (.string ps[i]):=(hB.cell (p:=⟨b,o+i,none⟩) hb).trans hx
   have hpl:=HPs.out _ (List.getElem_mem hLi)
   have HTk:=Lib.hid (findS_take (p:=p) hLi)
   have HCx:=Lib.hid fun W (hW:Below w0.heap.size w0 W)=>(hW.cell (p:=⟨b,o+i,none⟩) hb).trans hx
   have HB:=Lib.hid hB
   have HRow:=Lib.hid hrow
   clear hx hB hrow
   generalize ps[i]=x at *
   have HT1:=Lib.hid fun W=>HPt.out W x hpl
   go_wp2_with fail
   refine(HT1.out _).mono ?_
   rintro e w3 ⟨rfl,B3⟩
   have HB3:=Lib.hid (HB.out.trans (B3.mono HB.out.size))
   have HR3:=Lib.hid (zae HRow.out B3)
   have x3:=HX.out w3 HB3.out
   have c3:=HCx.out w3 HB3.out
   clear B3 hcx x0
   by_cases hq:Gm.zef (bs p) (bs x)=true
   ·rw[if_pos hq] at HTk
    rw[hq]
    have HLit:=Lib.hid (TlAt.lit w3 x)
    have HBa:=Lib.hid (HB3.out.alloc HB3.out.size (.cells #[.string x] ST))
    have HRa:=Lib.hid (HR3.out.alloc (.cells #[.string x] ST))
    have HLt:Hid (∀ j,(Value.slice a m cp).ownBlock=some j→w0.heap.size≤j):=Lib.hid fun j e=>(HRow.out.lt j e).1
    clear hq
    go_wp2_with (at_builtin;refine zfo rfl _ _ rfl w0.heap.size _ m (zbw p (ps.take i)) [x] rfl HRa.out HM.out.symm _ rfl HLit.out (by have:=HM.out;simp;omega) HBa.out.size ?_;intro v' w5 hown' hgrow;obtain⟨a7,c7,rfl⟩:=zga hown')
    have hB5:=HBa.out.grown hgrow HBa.out.size HLt.out
    rw[←HTk.out] at hown'
    go_roundw
    case rel=>exact⟨i+1,m+1,by go_num,hlt,by rw[HTk.out,List.length_append,←HM.out];rfl,a7,c7,rfl,hown',hB5⟩
    case measure=>simp[intOf];omega
   ·rw[if_neg hq,List.append_nil] at HTk
    rw[Bool.eq_false_iff.2 hq]
    clear hq
    go_wp2_with fail
    go_roundw
    case rel=>exact⟨i+1,m,by go_num,hlt,by rw[HTk.out];exact HM.out,a,cp,rfl,by rw[HTk.out];exact HR3.out,HB3.out⟩
    case measure=>simp[intOf];omega
  ·obtain rfl:i=n:=by omega
   have HRow:=Lib.hid hrow
   have HB:=Lib.hid hB
   clear hrow hB
   go_wp2_with fail
   go_ret
   have hf:(ps.take i)=ps:=List.take_of_length_le (by have:=HN.out;omega)
   have h:=HRow.out
   have hM:=HM.out
   rw[hf] at h hM
   rw[←hM]
   exact⟨_,_,rfl,Lib.hid (zfy HB0.out.size h),HB0.out.trans (HB.out.mono HB0.out.size)⟩
end Dw
end Go.Proofs.YtgdpbnfgcabneaaGreatDoor

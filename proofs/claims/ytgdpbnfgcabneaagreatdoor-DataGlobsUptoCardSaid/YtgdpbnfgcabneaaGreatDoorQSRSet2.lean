/- Part of the proof. -/
import Derived.Test.YtgdpbnfgcabneaaGreatDoorQSPlain2
import Derived.Test.YtgdpbnfgcabneaaGreatDoorQSNew
import Derived.Laws.AppendOwnNone
set_option maxRecDepth 100000
set_option maxHeartbeats 40000000
namespace Go.Proofs.YtgdpbnfgcabneaaGreatDoor
namespace Sw
open Go.RowKit Go.Maps Go.Sort
def posK (L:List F) (p:List UInt8) (k:Nat):Nat×Bool:=(k+(Sp.pos (L.drop k) p).1,(Sp.pos (L.drop k) p).2)
theorem posK_zero (L:List F) (p:List UInt8):posK L p 0=Sp.pos L p:=by simp[posK]
theorem posK_end (L:List F) (p:List UInt8) {k:Nat} (h:L.length≤k):posK L p k=(k,false):=by
 unfold posK;rw[List.drop_eq_nil_of_le h];rfl
theorem posK_is {L:List F} {p:List UInt8} {k:Nat} (h:k<L.length) (e:L[k].p=p):posK L p k=(k,true):=by
 unfold posK;rw[List.drop_eq_getElem_cons h,Sp.pos,if_pos e];rfl
theorem posK_past {L:List F} {p:List UInt8} {k:Nat} (h:k<L.length) (e:L[k].p≠p) (e2:p<L[k].p):posK L p k=(k,false):=by
 unfold posK;rw[List.drop_eq_getElem_cons h,Sp.pos,if_neg e,if_pos e2];rfl
theorem posK_next {L:List F} {p:List UInt8} {k:Nat} (h:k<L.length) (e:L[k].p≠p) (e2:¬ p<L[k].p):posK L p k=posK L p (k+1):=by
 unfold posK;rw[List.drop_eq_getElem_cons h,Sp.pos,if_neg e,if_neg e2];simp;omega
def zlk (w:World) (r:Nat×Bool) (e:Ending) (w':World):Prop:=e=.returned (.tuple #[.int .i64 r.1,.bool r.2])∧Below w.heap.size w w'
theorem at_row (w:World) (b o cp:Nat) (c:Int) (L:List F) (p:ByteArray) (hl:L.length≤100000) (hb:b<w.heap.size)
  (hC:Hid (∀ j,(h:j<L.length)→w.cell? ⟨b,o+j * 4,none⟩=some (.string (str L[j].p)))) :
  Calls Tryz.prog 92 #[.agg #[.slice (some ⟨b,o,none⟩) L.length cp,.int .i64 c],.string p] w (zlk w (Sp.pos L (bs p))):=by
 have hB:=(Below.refl w.heap.size w).alloc (Nat.le_refl _) (.cells #[.slice (some ⟨b,o,none⟩) L.length cp,.int .i64 c] 32)
 go_enter Tryz.func92,Tryz.ntmps92
 go_wp2
 go_loopw [6] (fun v wr=>∃ k:Nat,k≤L.length∧v=.int .i64 k∧wr=w.alloc (.cells #[.slice (some ⟨b,o,none⟩) L.length cp,.int .i64 c] 32)∧Hid (Sp.pos L (bs p)=posK L (bs p) k)) (fun v _=>L.length - (intOf v).toNat)
 case atStart=>exact⟨0,by omega,rfl,rfl,Lib.hid (posK_zero _ _).symm⟩
 case round =>
  obtain⟨k,hk,rfl,rfl,HP⟩:=hrel
  by_cases hlt:k<L.length
  ·have hc0:=hC.out k hlt
   have hck:(w.alloc (.cells #[.slice (some ⟨b,o,none⟩) L.length cp,.int .i64 c] 32)).cell? ⟨b,o+k * 4,none⟩=some (.string (str L[k].p)):=((Kept.of_below (X:=[]) hB).cell (p:=⟨b,o+k * 4,none⟩) hb (by simp)).trans hc0
   obtain⟨q,hq⟩:∃ q,str L[k].p=q:=⟨_,rfl⟩
   have hki:(k:Int)<L.length:=by omega
   have hqp:L[k].p=bs q:=by rw[←hq,zas]
   rw[hq] at hck
   have hqh:=Lib.hid hqp
   clear hc0 hq hqp
   by_cases h1:(q.toList == p.toList)=true
   ·have HE:Hid (Sp.pos L (bs p)=(k,true)):=Lib.hid (HP.out.trans (posK_is hlt (by rw[hqh.out];rw[Lib.toList_data,Lib.toList_data] at h1;exact eq_of_beq h1)))
    go_wp2
    go_ret2
    exact⟨by rw[HE.out];rfl,hB⟩
   ·have hne:L[k].p≠bs p:=by rw[hqh.out];intro e;apply h1;rw[Lib.toList_data,Lib.toList_data];exact beq_iff_eq.2 e
    by_cases h2:Op.bytesLess q.toList p.toList=true
    ·have HN:Hid (Sp.pos L (bs p)=posK L (bs p) (k+1)):=Lib.hid (HP.out.trans (posK_next hlt hne (by
      rw[hqh.out]
      rw[bytesLess_eq,Lib.toList_data,Lib.toList_data,decide_eq_true_eq] at h2
      exact fun h=>Sp.zdd _ (Sp.ziq h h2))))
     clear hne
     go_wp2
     refine⟨⟨k+1,by omega,by go_num,trivial,HN⟩,?_⟩
     simp[intOf];omega
    ·have HE:Hid (Sp.pos L (bs p)=(k,false)):=Lib.hid (HP.out.trans (posK_past hlt hne (by
      rw[hqh.out]
      rw[hqh.out] at hne
      rw[bytesLess_eq,Lib.toList_data,Lib.toList_data,decide_eq_true_eq] at h2
      exact Sp.lt_or h2 hne)))
     clear hne
     go_wp2
     go_ret2
     exact⟨by rw[HE.out];rfl,hB⟩
  ·obtain rfl:k=L.length:=by omega
   have HE:=Lib.hid (HP.out.trans (posK_end L (bs p) (Nat.le_refl _)))
   go_wp2
   go_ret2
   exact⟨by rw[HE.out];rfl,hB⟩
theorem zsd (w:World) (a:Option Addr) (cp:Nat) (c:Int) (p:ByteArray) :
  Calls Tryz.prog 92 #[.agg #[.slice a 0 cp,.int .i64 c],.string p] w (zlk w (0,false)):=by
 have hB:=(Below.refl w.heap.size w).alloc (Nat.le_refl _) (.cells #[.slice a 0 cp,.int .i64 c] 32)
 go_enter Tryz.func92,Tryz.ntmps92
 go_wp2
 go_loopw [6] (fun v wr=>v=.int .i64 0∧wr=w.alloc (.cells #[.slice a 0 cp,.int .i64 c] 32)) (fun _ _=>0)
 case atStart=>exact⟨rfl,rfl⟩
 case round =>
  obtain⟨rfl,rfl⟩:=hrel
  go_wp2
  go_ret2
  exact⟨rfl,hB⟩
theorem zhb (w:World) (v:Value) (c:Int) (L:List F) (p:ByteArray) (hl:L.length≤100000) (hF:Files w v L) :
  Calls Tryz.prog 92 #[.agg #[v,.int .i64 c],.string p] w (zlk w (Sp.pos L (bs p))):=by
 rcases hF with ⟨rfl,a,cp,rfl⟩ | ⟨b,o,cp,rfl,hb,hC⟩
 ·exact zsd w a cp c p
 ·exact at_row w b o cp c L p hl hb (Lib.hid fun j hj=>(hC j hj).1)
end Sw
namespace Sw
open Go.RowKit Go.Maps
theorem tot_one (s:ByteArray):tot [s]=s.size+1:=by simp[tot]
theorem RJ_yes (w:World) (s:ByteArray) (c:Nat) (q:List UInt8) (hs:s.size≤900000) (h:Hid (Pt.join ([s].map bs)=some q)) :
  Calls Tryz.prog 9 #[.slice (some ⟨w.heap.size,0,none⟩) 1 c] (w.alloc (.cells #[.string s] 9)) fun e w'=>e=.returned (.tuple #[.string (str q),.bool true])∧Below w.heap.size w w':=by
 have hB:=(Below.refl w.heap.size w).alloc (Nat.le_refl _) (.cells #[.string s] 9)
 refine(zdp _ w.heap.size 0 c [s] (by simp) (fun j hj=>?_) (by rw[tot_one];omega)).mono ?_
 ·obtain rfl:j=0:=by simpa using hj
  exact(Boxed.new w 9 (.string s)).cell
 ·rw[h.out]
  rintro e w' ⟨hB2,rfl⟩
  exact⟨rfl,hB.trans (hB2.mono hB.size)⟩
theorem RJ_no (w:World) (s:ByteArray) (c:Nat) (hs:s.size≤900000) (h:Hid (Pt.join ([s].map bs)=none)) :
  Calls Tryz.prog 9 #[.slice (some ⟨w.heap.size,0,none⟩) 1 c] (w.alloc (.cells #[.string s] 9)) fun e w'=>e=.returned (.tuple #[.string (str []),.bool false])∧Below w.heap.size w w':=by
 have hB:=(Below.refl w.heap.size w).alloc (Nat.le_refl _) (.cells #[.string s] 9)
 refine(zdp _ w.heap.size 0 c [s] (by simp) (fun j hj=>?_) (by rw[tot_one];omega)).mono ?_
 ·obtain rfl:j=0:=by simpa using hj
  exact(Boxed.new w 9 (.string s)).cell
 ·rw[h.out]
  rintro e w' ⟨hB2,rfl⟩
  exact⟨rfl,hB.trans (hB2.mono hB.size)⟩
theorem zhv (w:World) (s:ByteArray) (hs:s.size≤900000) :
  Calls Tryz.prog 8 #[.string s] w fun e w'=>e=.returned (.bool (zaq (bs s)))∧Below w.heap.size w w':=by
 cases hj:Pt.join [bs s] with
 | none =>
  have HN:Hid (Pt.join ([s].map bs)=none):=Lib.hid hj
  have HE:Hid (zaq (bs s)=false):=Lib.hid (by unfold zaq;rw[hj];rfl)
  clear hj
  go_enter Tryz.func8,Tryz.ntmps8
  go_wp2_with (go_at_call 9;refine(RJ_no _ s _ hs HN).mono ?_;rintro e w' ⟨rfl,hB2⟩)
  go_ret
  exact⟨by rw[HE.out];rfl,hB2⟩
 | some q =>
  have HN:Hid (Pt.join ([s].map bs)=some q):=Lib.hid hj
  by_cases hq:q=bs s
  ·have HE:Hid (zaq (bs s)=true):=Lib.hid (by unfold zaq;rw[hj,hq];simp)
   have hb:((str q).toList == s.toList)=true:=by rw[Lib.toList_data,Lib.toList_data,hq,beq_iff_eq];rfl
   clear hj hq
   go_enter Tryz.func8,Tryz.ntmps8
   go_wp2_with (go_at_call 9;refine(RJ_yes _ s _ q hs HN).mono ?_;rintro e w' ⟨rfl,hB2⟩)
   go_ret
   exact⟨by rw[HE.out];rfl,hB2⟩
  ·have HE:Hid (zaq (bs s)=false):=Lib.hid (by unfold zaq;rw[hj];simpa using hq)
   have hb:((str q).toList == s.toList)=false:=by rw[Lib.toList_data,Lib.toList_data,beq_eq_false_iff_ne];exact hq
   clear hj hq
   go_enter Tryz.func8,Tryz.ntmps8
   go_wp2_with (go_at_call 9;refine(RJ_yes _ s _ q hs HN).mono ?_;rintro e w' ⟨rfl,hB2⟩)
   go_ret
   exact⟨by rw[HE.out];rfl,hB2⟩
theorem pos_yes_get {L:List F} {p:List UInt8} {f:F} (hs:Sp.Sorted L) (h:Sp.get L p=some f):∃ k:Nat,∃ hk:k<L.length,Sp.pos L p=(k,true)∧L[k]=f:=by
 obtain⟨h1,h2⟩:=Sp.zrq hs h
 obtain⟨hk,he⟩:=List.getElem?_eq_some_iff.1 h2
 exact⟨_,hk,by rw[←h1],he⟩
theorem znh (w:World) {n:Nat} (cs:Array Value) {T:TypeId} (hz:w.heap.size=n) (i:Nat):(w.alloc (.cells cs T)).frozen? ⟨n,i,none⟩=false:=by
 subst hz
 have e:(w.alloc (.cells cs T)).heap[w.heap.size]?=some (.cells cs T):=Array.getElem?_push_size
 unfold World.frozen?
 rw[e]
 simp
theorem RGet_yes (w:World) (v:Value) (c:Int) {L:List F} (p:ByteArray) {f:F} (hl:L.length≤100000) (hF:Files w v L) (hs:Sp.Sorted L) (hf:Hid (getR L (bs p)=some f)) :
  Calls Tryz.prog 103 #[.agg #[v,.int .i64 c],.string p] w fun e w'=>e=.returned (.tuple #[fV f,.bool true])∧Below w.heap.size w w':=by
 by_cases h0:(p.toList == [46])=true
 ·have hr:rootF=f:=by have:=hf.out;rw[znj h0] at this;exact Option.some.inj this
  subst hr
  go_enter Tryz.func103,Tryz.ntmps103
  go_wp2
  exact bodyPost_ret (v:=.tuple #[fV rootF,.bool true]) (by simp[results,Tryz.results103,go_sem];rfl) rfl ⟨rfl,(((Below.refl _ w).alloc (Nat.le_refl _) _).alloc (by simp) _)⟩
 ·have h0':(p.toList == [46])=false:=by simpa using h0
  obtain⟨k,hk,hpos,hkf⟩:=pos_yes_get hs (by have:=hf.out;rwa[zix (zls h0')] at this)
  have HP:=Lib.hid hpos
  have hF0:=hF
  rcases hF with ⟨rfl,_⟩ | ⟨b,o,cp,rfl,hb,hC⟩
  ·exact absurd hk (by simp)
  have hc:=hC k hk
  rw[hkf] at hc
  have HC:=Lib.hid hc
  have hB1:=fun x y=>((Below.refl w.heap.size w).alloc (Nat.le_refl _) x).alloc (by simp) y
  clear h0 hpos hkf hc hC hs
  go_enter Tryz.func103,Tryz.ntmps103
  go_wp2_with fail
  refine(zhb _ _ c L p hl (hF0.below (hB1 _ _)) ).mono ?_
  rintro e w1 ⟨rfl,B1⟩
  have hk1:=Kept.of_below (X:=[]) B1
  have e1:=fun (q:Addr) h=>hk1.cell (p:=q) h (by simp)
  have e0:=fun (q:Addr) h=>(Kept.of_below (X:=[]) (hB1 (.cells #[.slice (some ⟨b,o,none⟩) L.length cp,.int .i64 c] 32) (.cells #[.string ⟨#[]⟩,.string ⟨#[]⟩,.int .i64 0,.bool false] 29))).cell (p:=q) h (by simp)
  obtain⟨x0,x1,x2,x3⟩:=HC.out
  have c0:=((e1 _ (by simp;omega)).trans (e0 ⟨b,o+k * 4,none⟩ hb)).trans x0
  have c1:=((e1 _ (by simp;omega)).trans (e0 ⟨b,o+k * 4+1,none⟩ hb)).trans x1
  have c2:=((e1 _ (by simp;omega)).trans (e0 ⟨b,o+k * 4+2,none⟩ hb)).trans x2
  have c3:=((e1 _ (by simp;omega)).trans (e0 ⟨b,o+k * 4+3,none⟩ hb)).trans x3
  obtain⟨d0,d1,d2,d3⟩:=zav (p:=[]) (t:=[]) B1
  have hB2:=(hB1 _ _).trans (B1.mono (by simp;omega))
  have hz:(w.alloc (.cells #[.slice (some ⟨b,o,none⟩) L.length cp,.int .i64 c] 32)).heap.size=w.heap.size+1:=by simp
  rw[hz] at d0 d1 d2 d3
  have hfz:=fun i=>(hk1.frozen (p:=⟨w.heap.size+1,i,none⟩) (by simp) (by simp)).trans (znh (w.alloc (.cells #[.slice (some ⟨b,o,none⟩) L.length cp,.int .i64 c] 32)) _ hz i)
  have z0:=hfz 0
  have z1:=hfz 1
  have z2:=hfz 2
  have z3:=hfz 3
  clear hfz
  clear x0 x1 x2 x3 e0
  rw[HP.out]
  go_wp2
  have hBl:Below w.heap.size w ((((w1.setCell ⟨w.heap.size+1,0,none⟩ (.string (str f.p))).setCell ⟨w.heap.size+1,1,none⟩ (.string (str f.t))).setCell ⟨w.heap.size+1,2,none⟩ (.int .i64 f.c)).setCell ⟨w.heap.size+1,3,none⟩ (.bool f.d)) :=
   (((hB2.setCell (by simp) _).setCell (by simp) _).setCell (by simp) _).setCell (by simp) _
  exact bodyPost_ret (v:=.tuple #[fV f,.bool true]) (by simp[results,Tryz.results103,go_sem,d0,d1,d2,d3];rfl) rfl ⟨rfl,hBl⟩
theorem RGet_no (w:World) (v:Value) (c:Int) {L:List F} (p:ByteArray) (hl:L.length≤100000) (hF:Files w v L) (hs:Sp.Sorted L) (hf:Hid (getR L (bs p)=none)) :
  Calls Tryz.prog 103 #[.agg #[v,.int .i64 c],.string p] w fun e w'=>e=.returned (.tuple #[fV noF,.bool false])∧Below w.heap.size w w':=by
 have hne:bs p≠[46]:=fun e=>by have:=hf.out;rw[e] at this;cases this
 have h0':(p.toList == [46])=false:=by rw[Lib.toList_data,beq_eq_false_iff_ne];exact hne
 have hp2:Hid ((Sp.pos L (bs p)).2=false):=Lib.hid (Sp.zsj hs (by have:=hf.out;rwa[zix hne] at this))
 obtain⟨k,hk⟩:∃ k,(Sp.pos L (bs p)).1=k:=⟨_,rfl⟩
 have HP:Hid (Sp.pos L (bs p)=(k,false)):=Lib.hid (Prod.ext hk hp2.out)
 have hB1:=fun x y=>((Below.refl w.heap.size w).alloc (Nat.le_refl _) x).alloc (by simp) y
 clear hk hp2 hne
 obtain⟨a,n,cp,rfl⟩:∃ a n cp,v=.slice a n cp:=by
  rcases hF with ⟨_,a,cp,rfl⟩ | ⟨b,o,cp,rfl,_⟩
  ·exact⟨a,0,cp,rfl⟩
  ·exact⟨_,_,cp,rfl⟩
 go_enter Tryz.func103,Tryz.ntmps103
 go_wp2_with fail
 refine(zhb _ _ c L p hl (hF.below (hB1 _ _))).mono ?_
 rintro e w1 ⟨rfl,B1⟩
 have hk1:=Kept.of_below (X:=[]) B1
 obtain⟨d0,d1,d2,d3⟩:=zav (p:=[]) (t:=[]) B1
 have hB2:=(hB1 _ _).trans (B1.mono (by simp;omega))
 have hz:(w.alloc (.cells #[.slice a n cp,.int .i64 c] 32)).heap.size=w.heap.size+1:=by simp
 rw[hz] at d0 d1 d2 d3
 have hfz:=fun i=>(hk1.frozen (p:=⟨w.heap.size+1,i,none⟩) (by simp) (by simp)).trans (znh (w.alloc (.cells #[.slice a n cp,.int .i64 c] 32)) _ hz i)
 have z0:=hfz 0
 have z1:=hfz 1
 have z2:=hfz 2
 have z3:=hfz 3
 clear hfz
 rw[HP.out]
 go_wp2
 have hBl:Below w.heap.size w ((((w1.setCell ⟨w.heap.size+1,0,none⟩ (.string ⟨#[]⟩)).setCell ⟨w.heap.size+1,1,none⟩ (.string ⟨#[]⟩)).setCell ⟨w.heap.size+1,2,none⟩ (.int .i64 0)).setCell ⟨w.heap.size+1,3,none⟩ (.bool false)) :=
  (((hB2.setCell (by simp) _).setCell (by simp) _).setCell (by simp) _).setCell (by simp) _
 exact bodyPost_ret (v:=.tuple #[fV noF,.bool false]) (by simp[results,Tryz.results103,go_sem,d0,d1,d2,d3];rfl) rfl ⟨rfl,hBl⟩
theorem RRead_any (w:World) (v:Value) (c:Int) {L:List F} (p:ByteArray) (r:Option F) (hl:L.length≤100000) (hF:Files w v L) (hs:Sp.Sorted L) (hf:Hid (getR L (bs p)=r)) :
  Calls Tryz.prog 54 #[.agg #[v,.int .i64 c],.string p] w (ReadPost w (zsl r).1 (zsl r).2):=by
 have B0:=fun x=>(Below.refl w.heap.size w).alloc (Nat.le_refl _) x
 cases r with
 | none =>
  go_enter Tryz.func54,Tryz.ntmps54
  go_wp2_with fail
  refine(RGet_no _ v c p hl (hF.below (B0 _)) hs hf).mono ?_
  rintro e w1 ⟨rfl,B1⟩
  unfold fV noF
  have hB1:=fun x=>((B0 _).trans (B1.mono (B0 _).size)).alloc ((B0 _).trans (B1.mono (B0 _).size)).size x
  go_wp2
  go_ret2
  exact⟨rfl,hB1 _⟩
 | some f =>
  obtain⟨fp,ft,fc,fd⟩:=f
  cases fd <;>
  ·go_enter Tryz.func54,Tryz.ntmps54
   go_wp2_with fail
   refine(RGet_yes _ v c p hl (hF.below (B0 _)) hs hf).mono ?_
   rintro e w1 ⟨rfl,B1⟩
   unfold fV
   have hB1:=fun x=>((B0 _).trans (B1.mono (B0 _).size)).alloc ((B0 _).trans (B1.mono (B0 _).size)).size x
   go_wp2
   go_ret2
   exact⟨rfl,hB1 _⟩
theorem zts (f:F):(fC f).length=4:=rfl
theorem zjg:∀ (L:List F) (k:Nat),fCs (L.take k)=(fCs L).take (k * 4)
 | [],k=>by simp[fCs]
 | f :: r,0=>by simp[fCs]
 | f :: r,k+1=>by
  show fC f++fCs (r.take k)=(fC f++fCs r).take ((k+1) * 4)
  have e1:(fC f).take ((k+1) * 4)=fC f:=List.take_of_length_le (by rw[zts];omega)
  rw[zjg r k,List.take_append,e1,zts,show (k+1) * 4 - 4=k * 4 by omega]
theorem zra:∀ (L:List F) (k:Nat),fCs (L.drop k)=(fCs L).drop (k * 4)
 | [],k=>by simp[fCs]
 | f :: r,0=>by simp
 | f :: r,k+1=>by
  show fCs (r.drop k)=(fC f++fCs r).drop ((k+1) * 4)
  have e1:(fC f).drop ((k+1) * 4)=[]:=List.drop_of_length_le (by rw[zts];omega)
  rw[zra r k,List.drop_append,e1,zts,show (k+1) * 4 - 4=k * 4 by omega,List.nil_append]
theorem zrx (L M:List F):fCs (L++M)=fCs L++fCs M:=by
 induction L with
 | nil=>rfl
 | cons f r ih=>show fC f++fCs (r++M)=(fC f++fCs r)++fCs M;rw[ih,List.append_assoc]
theorem zhm (L:List F):∀ u∈fCs L,u.oneCell'=true:=by
 induction L with
 | nil=>intro u hu;cases hu
 | cons f r ih =>
  intro u hu
  rcases List.mem_append.1 (show u∈fC f++fCs r from hu) with h | h
  ·simp[fC] at h;rcases h with rfl | rfl | rfl | rfl<;>rfl
  ·exact ih u h
structure Boxes (W:World) (n b:Nat) (sl:Value) (c:Int) (f:F) (L:List F):Prop where
 lt:n+3≤W.heap.size
 lb:b<n
 H0:W.heap[n]?=some (.cells #[sl,.int .i64 c] 32 (0,0))
 H1:W.heap[n+1]?=some (.cells #[.string (str f.p),.string (str f.t),.int .i64 f.c,.bool f.d] 29 (0,0))
 H2:W.heap[n+1+1]?=some (.cells #[.slice none 0 0,.int .i64 0] 32 (0,0))
 src:∀ j u,(fCs L)[j]?=some u→W.cell? ⟨b,j,none⟩=some u
theorem Boxes.below {W W':World} {n b:Nat} {sl:Value} {c:Int} {f:F} {L:List F} (h:Boxes W n b sl c f L) (hB:Below (n+3) W W'):Boxes W' n b sl c f L where
 lt:=Nat.le_trans h.lt hB.size
 lb:=h.lb
 H0:=(hB.block n (by omega)).trans h.H0
 H1:=(hB.block (n+1) (by omega)).trans h.H1
 H2:=(hB.block (n+1+1) (by omega)).trans h.H2
 src:=fun j u hu=>(hB.cell (p:=⟨b,j,none⟩) (by have:=h.lb;show b<n+3;omega)).trans (h.src j u hu)
theorem Boxes.grown {W W':World} {n b:Nat} {sl v:Value} {c:Int} {f:F} {L:List F} {m:Nat} {xs:List Value} (h:Boxes W n b sl c f L) (ho:W.ownsRow (n+3) 29 4 v m xs) (hg:W.grownBy W' v.ownBlock):Boxes W' n b sl c f L :=
 h.below ((Below.refl _ W).grown hg h.lt (fun r e=>(ho.lt r e).1))
theorem Boxes.alloc {W:World} {n b:Nat} {sl:Value} {c:Int} {f:F} {L:List F} (h:Boxes W n b sl c f L) (o:Obj):Boxes (W.alloc o) n b sl c f L:=h.below ((Below.refl _ W).alloc h.lt o)
theorem Boxes.cells {W:World} {n b:Nat} {sl:Value} {c:Int} {f:F} {L:List F} (h:Boxes W n b sl c f L) :
  (n<W.heap.size∧n+1<W.heap.size∧n+1+1<W.heap.size)∧(W.cell? ⟨n,0,none⟩=some sl∧W.cell? ⟨n,1,none⟩=some (.int .i64 c)∧W.frozen? ⟨n,0,none⟩=false) ∧
  (W.cell? ⟨n+1,0,none⟩=some (.string (str f.p))∧W.cell? ⟨n+1,1,none⟩=some (.string (str f.t))∧W.cell? ⟨n+1,2,none⟩=some (.int .i64 f.c)∧W.cell? ⟨n+1,3,none⟩=some (.bool f.d)) ∧
  (W.cell? ⟨n+1+1,0,none⟩=some (.slice none 0 0)∧W.cell? ⟨n+1+1,1,none⟩=some (.int .i64 0)∧W.frozen? ⟨n+1+1,0,none⟩=false∧W.frozen? ⟨n+1+1,1,none⟩=false):=by
 have:=h.lt
 exact⟨⟨by omega,by omega,by omega⟩,⟨zaa h.H0 rfl,zaa h.H0 rfl,zad h.H0 0⟩,⟨zaa h.H1 rfl,zaa h.H1 rfl,zaa h.H1 rfl,zaa h.H1 rfl⟩,⟨zaa h.H2 rfl,zaa h.H2 rfl,zad h.H2 0,zad h.H2 1⟩⟩
theorem Boxes.src_drop {W:World} {n b:Nat} {sl:Value} {c:Int} {f:F} {L:List F} (h:Boxes W n b sl c f L) {i off:Nat} (ho:off=i * 4∨L.length≤i):∀ j u,(fCs (L.drop i))[j]?=some u→W.cell? (Addr.add ⟨b,off,none⟩ j)=some u:=by
 intro j u hu
 rcases ho with rfl | ho
 ·rw[Addr.add_lit]
  refine h.src (i * 4+j) u ?_
  rw[zra,List.getElem?_drop] at hu
  exact hu
 ·rw[List.drop_eq_nil_of_le ho] at hu;simp[fCs] at hu
def zdl (w:World) (M:List F) (c:Int) (e:Ending) (w':World):Prop :=
 ∃ v,e=.returned (.agg #[v,.int .i64 c])∧w'.ownsRow w.heap.size 29 4 v M.length (fCs M)∧Below w.heap.size w w'
theorem zat {w:World} {base:Nat} {e:TypeId} {size:Nat} {v:Value} {m:Nat} {xs:List Value} (h:w.ownsRow base e size v m xs) {a:Nat} (ha:a<base) (i:Nat) (u:Value):(w.setCell ⟨a,i,none⟩ u).ownsRow base e size v m xs:=by
 have hg:w.grownBy (w.setCell ⟨a,i,none⟩ u) (some a):=⟨rfl,rfl,rfl,by simp[World.setCell],fun k _ hk=>heap_setCell_other w ⟨a,i,none⟩ k u (fun e=>hk (by rw[e]))⟩
 refine h.kept hg ?_
 rcases hb:v.ownBlock with _ | g
 ·exact .inl rfl
 ·refine .inr fun e=>?_
  cases e
  have:=(h.lt _ hb).1
  omega
theorem zjt {w:World} {base b':Nat} {e:TypeId} {size:Nat} {v:Value} {n:Nat} {xs:List Value} (h:w.ownsRow base e size v n xs) (hb:b'≤base):w.ownsRow b' e size v n xs:=by
 refine⟨h.1,?_⟩
 rcases h.2 with h | ⟨g,cap,cur,h1,h2,h3⟩
 ·exact .inl h
 ·exact .inr ⟨g,cap,cur,h1,Nat.le_trans hb h2,h3⟩
theorem set_yes (w:World) (b:Nat) (c:Int) (L:List F) (f:F) (k m cp:Nat) (hN:Hid (L.length=k+1+m)) (hcp:(k+1)<cp) (_hcp2:k+1+m≤cp) (hl:L.length≤100000) (hb:b<w.heap.size)
  (hp:Hid (Sp.pos L f.p=(k,true))) (hA:∀ W,Below w.heap.size w W→Calls Tryz.prog 92 #[.agg #[.slice (some ⟨b,0,none⟩) (k+1+m) cp,.int .i64 c],.string (str f.p)] W (zlk W (k,true))) (hC:Hid (∀ j u,(fCs L)[j]?=some u→w.cell? ⟨b,j,none⟩=some u)) :
  Calls Tryz.prog 93 #[.agg #[.slice (some ⟨b,0,none⟩) (k+1+m) cp,.int .i64 c],.agg #[.string (str f.p),.string (str f.t),.int .i64 f.c,.bool f.d]] w (zdl w (Sp.ins L f) c):=by
 have hi1:Hid (Sp.ins L f=L.take k++f :: L.drop (k+1)):=Lib.hid (by rw[Sp.zkz,hp.out];rfl)
 have hkl:k≤L.length:=by rw[hN.out];omega
 have hkb:(k+1+m)≤100000:=by rw[←hN.out];exact hl
 have hdl:Hid ((fCs (L.drop (k+1))).length=m * 4):=Lib.hid (by rw[zhc,List.length_drop,hN.out];omega)
 have hlen1:Hid ((fCs (L.take k)).length=k * 4):=Lib.hid (by rw[zhc,List.length_take,Nat.min_eq_left hkl])
 have hsl:Hid ((L.take k++f :: L.drop (k+1)).length=k+1+m):=Lib.hid (by rw[List.length_append,List.length_take,Nat.min_eq_left hkl,List.length_cons,List.length_drop,hN.out];omega)
 rw[hi1.out]
 go_enter Tryz.func93,Tryz.ntmps93
 go_wp2_with fail
 have hBa:=fun x y z=>(((Below.refl w.heap.size w).alloc (Nat.le_refl _) x).alloc (by simp) y).alloc (by simp;omega) z
 refine(hA _ (hBa _ _ _)).mono ?_
 rintro e w1 ⟨rfl,B1⟩
 have hk1:=Kept.of_below (X:=[]) B1
 have hz1:(w.alloc (.cells #[.slice (some ⟨b,0,none⟩) (k+1+m) cp,.int .i64 c] 32)).heap.size=w.heap.size+1:=by simp
 have hz2:((w.alloc (.cells #[.slice (some ⟨b,0,none⟩) (k+1+m) cp,.int .i64 c] 32)).alloc (.cells #[.string (str f.p),.string (str f.t),.int .i64 f.c,.bool f.d] 29)).heap.size=w.heap.size+1+1:=by simp
 have H2:=(hk1.block (w.heap.size+1+1) (by simp) (by simp)).trans (zca _ _ hz2)
 have H1:=((hk1.block (w.heap.size+1) (by simp) (by simp)).trans (Below.heap_alloc _ _ _ (by simp))).trans (zca _ _ hz1)
 have hB:=(hBa _ _ _).trans (B1.mono (by simp;omega))
 have H0:=((hk1.block w.heap.size (by simp;omega) (by simp)).trans ((Below.heap_alloc _ _ _ (by simp;omega)).trans (Below.heap_alloc _ _ _ (by simp)))).trans (zca w (.cells #[.slice (some ⟨b,0,none⟩) (k+1+m) cp,.int .i64 c] 32) rfl)
 have hCb:Hid (∀ j u,(fCs L)[j]?=some u→w1.cell? ⟨b,j,none⟩=some u):=Lib.hid fun j u hu=>((Kept.of_below (X:=[]) hB).cell (p:=⟨b,j,none⟩) hb (by simp)).trans (hC.out j u hu)
 have hsz:w.heap.size+3≤w1.heap.size:=by have:=B1.size;simp at this;omega
 have hX:Boxes w1 w.heap.size b (.slice (some ⟨b,0,none⟩) (k+1+m) cp) c f L:=⟨hsz,hb,H0,H1,H2,hCb.out⟩
 clear hk1 hz1 hz2 B1 hBa H0 H1 H2 hCb hC hA hkl hl
 obtain⟨n,hn0⟩:∃ n,w.heap.size=n:=⟨_,rfl⟩
 obtain⟨i0,hi,hz0,hz1,hz2⟩:=info_parts infoF
 rw[hn0] at hb hB hsz hX
 have HN0:=Lib.hid hn0
 simp only [hn0]
 clear hn0
 obtain⟨⟨q0,q1,q2⟩,⟨m0,m1,zm⟩,⟨f0,f1,f2,f3⟩,⟨r0,r1,zr0,zr1⟩⟩:=hX.cells
 have hown0:((w1.alloc (.cells #[] 29)).ownsRow (n+3) 29 4 (.slice (some ⟨w1.heap.size,0,none⟩) 0 0) 0 []):=by
  have:=World.ownsRow_made (base:=n+3) (e:=29) (size:=4) w1 #[] 0 (by omega) (by unfold maxLen;omega) (by simp)
  simpa using this
 have hX1:=hX.alloc (.cells #[] 29)
 have hsrc:Hid (∀ j u,(fCs (L.take k))[j]?=some u→(w1.alloc (.cells #[] 29)).cell? (Addr.add ⟨b,0,none⟩ j)=some u):=Lib.hid fun j u hu=>by
  rw[Addr.add_lit,Nat.zero_add]
  refine hX1.src j u ?_
  rw[zjg,List.getElem?_take] at hu
  split at hu
  ·exact hu
  ·cases hu
 have hnew:=fun (W:World)=>zht W (.string (str f.p)) (.string (str f.t)) (.int .i64 f.c) (.bool f.d) 29
 go_wp2_with (first
  | (at_builtin;refine wpList_append_own _ rfl _ _ 22 rfl (n+3) 29 i0 (.agg #[.string ByteArray.empty,.string ByteArray.empty,.int .i64 0,.bool false]) 4 48 Tryz.underlying22 hi hz0 hz1 hz2 rfl (by decide) _ _ _ rfl hown3 ⟨b,(k+1) * 4,none⟩ m (cp - (k+1)) (fCs (L.drop (k+1))) rfl hdl.out (hX3.src_drop (.inl rfl)) (zhm _) (by unfold maxLen;omega) (by omega) (by have:=hX3.lt;omega) ?_;intro v4 w4 hown4 hgrow4 _;obtain⟨a4,c4,rfl⟩:=zac hown4;have hX4:=hX3.grown hown3 hgrow4;obtain⟨⟨q0,q1,q2⟩,⟨m0,m1,zm⟩,⟨f0,f1,f2,f3⟩,⟨r0,r1,zr0,zr1⟩⟩:=hX4.cells;clear tok3)
  | (at_builtin;refine wpList_append_own _ rfl _ _ 22 rfl (n+3) 29 i0 (.agg #[.string ByteArray.empty,.string ByteArray.empty,.int .i64 0,.bool false]) 4 48 Tryz.underlying22 hi hz0 hz1 hz2 rfl (by decide) _ _ _ rfl (hown2.alloc _) ⟨w2.heap.size,0,none⟩ 1 1 [.string (str f.p),.string (str f.t),.int .i64 f.c,.bool f.d] rfl rfl (hnew w2) (by simp[Value.oneCell']) (by unfold maxLen;omega) (by omega) (by have:=hX2.lt;simp;omega) ?_;intro v3 w3 hown3 hgrow3 _;obtain⟨a3,c3,rfl⟩:=zac hown3;have hX3:=(hX2.alloc _).grown (hown2.alloc _) hgrow3;obtain⟨⟨q0,q1,q2⟩,⟨m0,m1,zm⟩,⟨f0,f1,f2,f3⟩,⟨r0,r1,zr0,zr1⟩⟩:=hX3.cells;have tok3:True:=trivial)
  | (at_builtin;refine wpList_append_own _ rfl _ _ 22 rfl (n+3) 29 i0 (.agg #[.string ByteArray.empty,.string ByteArray.empty,.int .i64 0,.bool false]) 4 48 Tryz.underlying22 hi hz0 hz1 hz2 rfl (by decide) _ _ _ rfl hown0 ⟨b,0,none⟩ k cp (fCs (L.take k)) rfl hlen1.out hsrc.out (zhm _) (by unfold maxLen;omega) (by omega) (by simp;omega) ?_;intro v2 w2 hown2 hgrow2 _;rw[Nat.zero_add,List.nil_append] at hown2;obtain⟨a2,c2,rfl⟩:=zac hown2;have hX2:=hX1.grown hown0 hgrow2;obtain⟨⟨q0,q1,q2⟩,⟨m0,m1,zm⟩,⟨f0,f1,f2,f3⟩,⟨r0,r1,zr0,zr1⟩⟩:=hX2.cells))
 have B4:Below n w ((((w4.setCell ⟨n,0,none⟩ (.slice a4 (k+1+m) c4)).setCell ⟨n+1+1,0,none⟩ (.slice a4 (k+1+m) c4)).setCell ⟨n+1+1,1,none⟩ (.int .i64 c))):=by
  have b1:Below n w1 w4:=(((((Below.refl n w1).alloc (by omega) _).grown hgrow2 (by simp;omega) fun j e=>by have:=(hown0.lt j e).1;omega).alloc (by have:=hX2.lt;omega) _).grown hgrow3 (by have:=hX2.lt;simp;omega) fun j e=>by have:=(hown2.lt j e).1;omega).grown hgrow4 (by have:=hX3.lt;omega) fun j e=>by have:=(hown3.lt j e).1;omega
  exact(((hB.trans b1).setCell (by simp) _).setCell (by simp;omega) _).setCell (by simp;omega) _
 have o5:=zat (zat (zat hown4 (a:=n) (by omega) 0 (.slice a4 (k+1+m) c4)) (a:=n+1+1) (by omega) 0 (.slice a4 (k+1+m) c4)) (a:=n+1+1) (by omega) 1 (.int .i64 c)
 have hfin:zdl w (L.take k++f :: L.drop (k+1)) c (.returned (.agg #[.slice a4 (k+1+m) c4,.int .i64 c])) (((w4.setCell ⟨n,0,none⟩ (.slice a4 (k+1+m) c4)).setCell ⟨n+1+1,0,none⟩ (.slice a4 (k+1+m) c4)).setCell ⟨n+1+1,1,none⟩ (.int .i64 c)):=by
  refine⟨_,rfl,?_,by rw[HN0.out];exact B4⟩
  rw[HN0.out,hsl.out,zrx]
  have e:fCs (L.take k)++fCs (f :: L.drop (k+1))=fCs (L.take k)++[.string (str f.p),.string (str f.t),.int .i64 f.c,.bool f.d]++fCs (L.drop (k+1)):=by
   rw[List.append_assoc];rfl
  rw[e]
  exact zjt o5 (by omega)
 exact bodyPost_ret (v:=.agg #[.slice a4 (k+1+m) c4,.int .i64 c]) (by simp[results,Tryz.results93,go_sem,r0,r1]) rfl hfin
theorem set_no (w:World) (b:Nat) (c:Int) (L:List F) (f:F) (k m cp:Nat) (hN:Hid (L.length=k+m)) (hcp:k<cp) (_hcp2:k+m≤cp) (hl:L.length≤100000) (hb:b<w.heap.size)
  (hp:Hid (Sp.pos L f.p=(k,false))) (hA:∀ W,Below w.heap.size w W→Calls Tryz.prog 92 #[.agg #[.slice (some ⟨b,0,none⟩) (k+m) cp,.int .i64 c],.string (str f.p)] W (zlk W (k,false))) (hC:Hid (∀ j u,(fCs L)[j]?=some u→w.cell? ⟨b,j,none⟩=some u)) :
  Calls Tryz.prog 93 #[.agg #[.slice (some ⟨b,0,none⟩) (k+m) cp,.int .i64 c],.agg #[.string (str f.p),.string (str f.t),.int .i64 f.c,.bool f.d]] w (zdl w (Sp.ins L f) c):=by
 have hi1:Hid (Sp.ins L f=L.take k++f :: L.drop k):=Lib.hid (by rw[Sp.zkz,hp.out];rfl)
 have hkl:k≤L.length:=by rw[hN.out];omega
 have hkb:(k+m)≤100000:=by rw[←hN.out];exact hl
 have hdl:Hid ((fCs (L.drop k)).length=m * 4):=Lib.hid (by rw[zhc,List.length_drop,hN.out];omega)
 have hlen1:Hid ((fCs (L.take k)).length=k * 4):=Lib.hid (by rw[zhc,List.length_take,Nat.min_eq_left hkl])
 have hsl:Hid ((L.take k++f :: L.drop k).length=k+1+m):=Lib.hid (by rw[List.length_append,List.length_take,Nat.min_eq_left hkl,List.length_cons,List.length_drop,hN.out];omega)
 rw[hi1.out]
 go_enter Tryz.func93,Tryz.ntmps93
 go_wp2_with fail
 have hBa:=fun x y z=>(((Below.refl w.heap.size w).alloc (Nat.le_refl _) x).alloc (by simp) y).alloc (by simp;omega) z
 refine(hA _ (hBa _ _ _)).mono ?_
 rintro e w1 ⟨rfl,B1⟩
 have hk1:=Kept.of_below (X:=[]) B1
 have hz1:(w.alloc (.cells #[.slice (some ⟨b,0,none⟩) (k+m) cp,.int .i64 c] 32)).heap.size=w.heap.size+1:=by simp
 have hz2:((w.alloc (.cells #[.slice (some ⟨b,0,none⟩) (k+m) cp,.int .i64 c] 32)).alloc (.cells #[.string (str f.p),.string (str f.t),.int .i64 f.c,.bool f.d] 29)).heap.size=w.heap.size+1+1:=by simp
 have H2:=(hk1.block (w.heap.size+1+1) (by simp) (by simp)).trans (zca _ _ hz2)
 have H1:=((hk1.block (w.heap.size+1) (by simp) (by simp)).trans (Below.heap_alloc _ _ _ (by simp))).trans (zca _ _ hz1)
 have hB:=(hBa _ _ _).trans (B1.mono (by simp;omega))
 have H0:=((hk1.block w.heap.size (by simp;omega) (by simp)).trans ((Below.heap_alloc _ _ _ (by simp;omega)).trans (Below.heap_alloc _ _ _ (by simp)))).trans (zca w (.cells #[.slice (some ⟨b,0,none⟩) (k+m) cp,.int .i64 c] 32) rfl)
 have hCb:Hid (∀ j u,(fCs L)[j]?=some u→w1.cell? ⟨b,j,none⟩=some u):=Lib.hid fun j u hu=>((Kept.of_below (X:=[]) hB).cell (p:=⟨b,j,none⟩) hb (by simp)).trans (hC.out j u hu)
 have hsz:w.heap.size+3≤w1.heap.size:=by have:=B1.size;simp at this;omega
 have hX:Boxes w1 w.heap.size b (.slice (some ⟨b,0,none⟩) (k+m) cp) c f L:=⟨hsz,hb,H0,H1,H2,hCb.out⟩
 clear hk1 hz1 hz2 B1 hBa H0 H1 H2 hCb hC hA hkl hl
 obtain⟨n,hn0⟩:∃ n,w.heap.size=n:=⟨_,rfl⟩
 obtain⟨i0,hi,hz0,hz1,hz2⟩:=info_parts infoF
 rw[hn0] at hb hB hsz hX
 have HN0:=Lib.hid hn0
 simp only [hn0]
 clear hn0
 obtain⟨⟨q0,q1,q2⟩,⟨m0,m1,zm⟩,⟨f0,f1,f2,f3⟩,⟨r0,r1,zr0,zr1⟩⟩:=hX.cells
 have hown0:((w1.alloc (.cells #[] 29)).ownsRow (n+3) 29 4 (.slice (some ⟨w1.heap.size,0,none⟩) 0 0) 0 []):=by
  have:=World.ownsRow_made (base:=n+3) (e:=29) (size:=4) w1 #[] 0 (by omega) (by unfold maxLen;omega) (by simp)
  simpa using this
 have hX1:=hX.alloc (.cells #[] 29)
 have hsrc:Hid (∀ j u,(fCs (L.take k))[j]?=some u→(w1.alloc (.cells #[] 29)).cell? (Addr.add ⟨b,0,none⟩ j)=some u):=Lib.hid fun j u hu=>by
  rw[Addr.add_lit,Nat.zero_add]
  refine hX1.src j u ?_
  rw[zjg,List.getElem?_take] at hu
  split at hu
  ·exact hu
  ·cases hu
 have hnew:=fun (W:World)=>zht W (.string (str f.p)) (.string (str f.t)) (.int .i64 f.c) (.bool f.d) 29
 go_wp2_with (first
  | (at_builtin;refine wpList_append_own _ rfl _ _ 22 rfl (n+3) 29 i0 (.agg #[.string ByteArray.empty,.string ByteArray.empty,.int .i64 0,.bool false]) 4 48 Tryz.underlying22 hi hz0 hz1 hz2 rfl (by decide) _ _ _ rfl hown3 ⟨b,k * 4,none⟩ m (cp - k) (fCs (L.drop k)) rfl hdl.out (hX3.src_drop (.inl rfl)) (zhm _) (by unfold maxLen;omega) (by omega) (by have:=hX3.lt;omega) ?_;intro v4 w4 hown4 hgrow4 _;obtain⟨a4,c4,rfl⟩:=zac hown4;have hX4:=hX3.grown hown3 hgrow4;obtain⟨⟨q0,q1,q2⟩,⟨m0,m1,zm⟩,⟨f0,f1,f2,f3⟩,⟨r0,r1,zr0,zr1⟩⟩:=hX4.cells;clear tok3)
  | (at_builtin;refine wpList_append_own _ rfl _ _ 22 rfl (n+3) 29 i0 (.agg #[.string ByteArray.empty,.string ByteArray.empty,.int .i64 0,.bool false]) 4 48 Tryz.underlying22 hi hz0 hz1 hz2 rfl (by decide) _ _ _ rfl (hown2.alloc _) ⟨w2.heap.size,0,none⟩ 1 1 [.string (str f.p),.string (str f.t),.int .i64 f.c,.bool f.d] rfl rfl (hnew w2) (by simp[Value.oneCell']) (by unfold maxLen;omega) (by omega) (by have:=hX2.lt;simp;omega) ?_;intro v3 w3 hown3 hgrow3 _;obtain⟨a3,c3,rfl⟩:=zac hown3;have hX3:=(hX2.alloc _).grown (hown2.alloc _) hgrow3;obtain⟨⟨q0,q1,q2⟩,⟨m0,m1,zm⟩,⟨f0,f1,f2,f3⟩,⟨r0,r1,zr0,zr1⟩⟩:=hX3.cells;have tok3:True:=trivial)
  | (at_builtin;refine wpList_append_own _ rfl _ _ 22 rfl (n+3) 29 i0 (.agg #[.string ByteArray.empty,.string ByteArray.empty,.int .i64 0,.bool false]) 4 48 Tryz.underlying22 hi hz0 hz1 hz2 rfl (by decide) _ _ _ rfl hown0 ⟨b,0,none⟩ k cp (fCs (L.take k)) rfl hlen1.out hsrc.out (zhm _) (by unfold maxLen;omega) (by omega) (by simp;omega) ?_;intro v2 w2 hown2 hgrow2 _;rw[Nat.zero_add,List.nil_append] at hown2;obtain⟨a2,c2,rfl⟩:=zac hown2;have hX2:=hX1.grown hown0 hgrow2;obtain⟨⟨q0,q1,q2⟩,⟨m0,m1,zm⟩,⟨f0,f1,f2,f3⟩,⟨r0,r1,zr0,zr1⟩⟩:=hX2.cells))
 have B4:Below n w ((((w4.setCell ⟨n,0,none⟩ (.slice a4 (k+1+m) c4)).setCell ⟨n+1+1,0,none⟩ (.slice a4 (k+1+m) c4)).setCell ⟨n+1+1,1,none⟩ (.int .i64 c))):=by
  have b1:Below n w1 w4:=(((((Below.refl n w1).alloc (by omega) _).grown hgrow2 (by simp;omega) fun j e=>by have:=(hown0.lt j e).1;omega).alloc (by have:=hX2.lt;omega) _).grown hgrow3 (by have:=hX2.lt;simp;omega) fun j e=>by have:=(hown2.lt j e).1;omega).grown hgrow4 (by have:=hX3.lt;omega) fun j e=>by have:=(hown3.lt j e).1;omega
  exact(((hB.trans b1).setCell (by simp) _).setCell (by simp;omega) _).setCell (by simp;omega) _
 have o5:=zat (zat (zat hown4 (a:=n) (by omega) 0 (.slice a4 (k+1+m) c4)) (a:=n+1+1) (by omega) 0 (.slice a4 (k+1+m) c4)) (a:=n+1+1) (by omega) 1 (.int .i64 c)
 have hfin:zdl w (L.take k++f :: L.drop k) c (.returned (.agg #[.slice a4 (k+1+m) c4,.int .i64 c])) (((w4.setCell ⟨n,0,none⟩ (.slice a4 (k+1+m) c4)).setCell ⟨n+1+1,0,none⟩ (.slice a4 (k+1+m) c4)).setCell ⟨n+1+1,1,none⟩ (.int .i64 c)):=by
  refine⟨_,rfl,?_,by rw[HN0.out];exact B4⟩
  rw[HN0.out,hsl.out,zrx]
  have e:fCs (L.take k)++fCs (f :: L.drop k)=fCs (L.take k)++[.string (str f.p),.string (str f.t),.int .i64 f.c,.bool f.d]++fCs (L.drop k):=by
   rw[List.append_assoc];rfl
  rw[e]
  exact zjt o5 (by omega)
 exact bodyPost_ret (v:=.agg #[.slice a4 (k+1+m) c4,.int .i64 c]) (by simp[results,Tryz.results93,go_sem,r0,r1]) rfl hfin
theorem set_yes_end (w:World) (b:Nat) (c:Int) (L:List F) (f:F) (k:Nat) (hN:Hid (L.length=k+1)) (hl:L.length≤100000) (hb:b<w.heap.size)
  (hp:Hid (Sp.pos L f.p=(k,true))) (hA:∀ W,Below w.heap.size w W→Calls Tryz.prog 92 #[.agg #[.slice (some ⟨b,0,none⟩) (k+1) (k+1),.int .i64 c],.string (str f.p)] W (zlk W (k,true))) (hC:Hid (∀ j u,(fCs L)[j]?=some u→w.cell? ⟨b,j,none⟩=some u)) :
  Calls Tryz.prog 93 #[.agg #[.slice (some ⟨b,0,none⟩) (k+1) (k+1),.int .i64 c],.agg #[.string (str f.p),.string (str f.t),.int .i64 f.c,.bool f.d]] w (zdl w (Sp.ins L f) c):=by
 have hi1:Hid (Sp.ins L f=L.take k++f :: L.drop (k+1)):=Lib.hid (by rw[Sp.zkz,hp.out];rfl)
 have hkl:k≤L.length:=by rw[hN.out];omega
 have hkb:(k+1)≤100000:=by rw[←hN.out];exact hl
 have hdl:Hid ((fCs (L.drop (k+1))).length=0 * 4):=Lib.hid (by rw[zhc,List.length_drop,hN.out];omega)
 have hlen1:Hid ((fCs (L.take k)).length=k * 4):=Lib.hid (by rw[zhc,List.length_take,Nat.min_eq_left hkl])
 have hsl:Hid ((L.take k++f :: L.drop (k+1)).length=k+1):=Lib.hid (by rw[List.length_append,List.length_take,Nat.min_eq_left hkl,List.length_cons,List.length_drop,hN.out];omega)
 rw[hi1.out]
 go_enter Tryz.func93,Tryz.ntmps93
 go_wp2_with fail
 have hBa:=fun x y z=>(((Below.refl w.heap.size w).alloc (Nat.le_refl _) x).alloc (by simp) y).alloc (by simp;omega) z
 refine(hA _ (hBa _ _ _)).mono ?_
 rintro e w1 ⟨rfl,B1⟩
 have hk1:=Kept.of_below (X:=[]) B1
 have hz1:(w.alloc (.cells #[.slice (some ⟨b,0,none⟩) (k+1) (k+1),.int .i64 c] 32)).heap.size=w.heap.size+1:=by simp
 have hz2:((w.alloc (.cells #[.slice (some ⟨b,0,none⟩) (k+1) (k+1),.int .i64 c] 32)).alloc (.cells #[.string (str f.p),.string (str f.t),.int .i64 f.c,.bool f.d] 29)).heap.size=w.heap.size+1+1:=by simp
 have H2:=(hk1.block (w.heap.size+1+1) (by simp) (by simp)).trans (zca _ _ hz2)
 have H1:=((hk1.block (w.heap.size+1) (by simp) (by simp)).trans (Below.heap_alloc _ _ _ (by simp))).trans (zca _ _ hz1)
 have hB:=(hBa _ _ _).trans (B1.mono (by simp;omega))
 have H0:=((hk1.block w.heap.size (by simp;omega) (by simp)).trans ((Below.heap_alloc _ _ _ (by simp;omega)).trans (Below.heap_alloc _ _ _ (by simp)))).trans (zca w (.cells #[.slice (some ⟨b,0,none⟩) (k+1) (k+1),.int .i64 c] 32) rfl)
 have hCb:Hid (∀ j u,(fCs L)[j]?=some u→w1.cell? ⟨b,j,none⟩=some u):=Lib.hid fun j u hu=>((Kept.of_below (X:=[]) hB).cell (p:=⟨b,j,none⟩) hb (by simp)).trans (hC.out j u hu)
 have hsz:w.heap.size+3≤w1.heap.size:=by have:=B1.size;simp at this;omega
 have hX:Boxes w1 w.heap.size b (.slice (some ⟨b,0,none⟩) (k+1) (k+1)) c f L:=⟨hsz,hb,H0,H1,H2,hCb.out⟩
 clear hk1 hz1 hz2 B1 hBa H0 H1 H2 hCb hC hA hkl hl
 obtain⟨n,hn0⟩:∃ n,w.heap.size=n:=⟨_,rfl⟩
 obtain⟨i0,hi,hz0,hz1,hz2⟩:=info_parts infoF
 rw[hn0] at hb hB hsz hX
 have HN0:=Lib.hid hn0
 simp only [hn0]
 clear hn0
 obtain⟨⟨q0,q1,q2⟩,⟨m0,m1,zm⟩,⟨f0,f1,f2,f3⟩,⟨r0,r1,zr0,zr1⟩⟩:=hX.cells
 have hown0:((w1.alloc (.cells #[] 29)).ownsRow (n+3) 29 4 (.slice (some ⟨w1.heap.size,0,none⟩) 0 0) 0 []):=by
  have:=World.ownsRow_made (base:=n+3) (e:=29) (size:=4) w1 #[] 0 (by omega) (by unfold maxLen;omega) (by simp)
  simpa using this
 have hX1:=hX.alloc (.cells #[] 29)
 have hsrc:Hid (∀ j u,(fCs (L.take k))[j]?=some u→(w1.alloc (.cells #[] 29)).cell? (Addr.add ⟨b,0,none⟩ j)=some u):=Lib.hid fun j u hu=>by
  rw[Addr.add_lit,Nat.zero_add]
  refine hX1.src j u ?_
  rw[zjg,List.getElem?_take] at hu
  split at hu
  ·exact hu
  ·cases hu
 have hnew:=fun (W:World)=>zht W (.string (str f.p)) (.string (str f.t)) (.int .i64 f.c) (.bool f.d) 29
 go_wp2_with (first
  | (at_builtin;refine wpList_append_own _ rfl _ _ 22 rfl (n+3) 29 i0 (.agg #[.string ByteArray.empty,.string ByteArray.empty,.int .i64 0,.bool false]) 4 48 Tryz.underlying22 hi hz0 hz1 hz2 rfl (by decide) _ _ _ rfl hown3 ⟨b,0,none⟩ 0 0 (fCs (L.drop (k+1))) rfl hdl.out (hX3.src_drop (.inr (by rw[hN.out];exact Nat.le_refl _))) (zhm _) (by unfold maxLen;omega) (by omega) (by have:=hX3.lt;omega) ?_;intro v4 w4 hown4 hgrow4 _;obtain⟨a4,c4,rfl⟩:=zac hown4;have hX4:=hX3.grown hown3 hgrow4;obtain⟨⟨q0,q1,q2⟩,⟨m0,m1,zm⟩,⟨f0,f1,f2,f3⟩,⟨r0,r1,zr0,zr1⟩⟩:=hX4.cells;clear tok3)
  | (at_builtin;refine wpList_append_own _ rfl _ _ 22 rfl (n+3) 29 i0 (.agg #[.string ByteArray.empty,.string ByteArray.empty,.int .i64 0,.bool false]) 4 48 Tryz.underlying22 hi hz0 hz1 hz2 rfl (by decide) _ _ _ rfl (hown2.alloc _) ⟨w2.heap.size,0,none⟩ 1 1 [.string (str f.p),.string (str f.t),.int .i64 f.c,.bool f.d] rfl rfl (hnew w2) (by simp[Value.oneCell']) (by unfold maxLen;omega) (by omega) (by have:=hX2.lt;simp;omega) ?_;intro v3 w3 hown3 hgrow3 _;obtain⟨a3,c3,rfl⟩:=zac hown3;have hX3:=(hX2.alloc _).grown (hown2.alloc _) hgrow3;obtain⟨⟨q0,q1,q2⟩,⟨m0,m1,zm⟩,⟨f0,f1,f2,f3⟩,⟨r0,r1,zr0,zr1⟩⟩:=hX3.cells;have tok3:True:=trivial)
  | (at_builtin;refine wpList_append_own _ rfl _ _ 22 rfl (n+3) 29 i0 (.agg #[.string ByteArray.empty,.string ByteArray.empty,.int .i64 0,.bool false]) 4 48 Tryz.underlying22 hi hz0 hz1 hz2 rfl (by decide) _ _ _ rfl hown0 ⟨b,0,none⟩ k (k+1) (fCs (L.take k)) rfl hlen1.out hsrc.out (zhm _) (by unfold maxLen;omega) (by omega) (by simp;omega) ?_;intro v2 w2 hown2 hgrow2 _;rw[Nat.zero_add,List.nil_append] at hown2;obtain⟨a2,c2,rfl⟩:=zac hown2;have hX2:=hX1.grown hown0 hgrow2;obtain⟨⟨q0,q1,q2⟩,⟨m0,m1,zm⟩,⟨f0,f1,f2,f3⟩,⟨r0,r1,zr0,zr1⟩⟩:=hX2.cells))
 have B4:Below n w ((((w4.setCell ⟨n,0,none⟩ (.slice a4 (k+1) c4)).setCell ⟨n+1+1,0,none⟩ (.slice a4 (k+1) c4)).setCell ⟨n+1+1,1,none⟩ (.int .i64 c))):=by
  have b1:Below n w1 w4:=(((((Below.refl n w1).alloc (by omega) _).grown hgrow2 (by simp;omega) fun j e=>by have:=(hown0.lt j e).1;omega).alloc (by have:=hX2.lt;omega) _).grown hgrow3 (by have:=hX2.lt;simp;omega) fun j e=>by have:=(hown2.lt j e).1;omega).grown hgrow4 (by have:=hX3.lt;omega) fun j e=>by have:=(hown3.lt j e).1;omega
  exact(((hB.trans b1).setCell (by simp) _).setCell (by simp;omega) _).setCell (by simp;omega) _
 have o5:=zat (zat (zat hown4 (a:=n) (by omega) 0 (.slice a4 (k+1) c4)) (a:=n+1+1) (by omega) 0 (.slice a4 (k+1) c4)) (a:=n+1+1) (by omega) 1 (.int .i64 c)
 have hfin:zdl w (L.take k++f :: L.drop (k+1)) c (.returned (.agg #[.slice a4 (k+1) c4,.int .i64 c])) (((w4.setCell ⟨n,0,none⟩ (.slice a4 (k+1) c4)).setCell ⟨n+1+1,0,none⟩ (.slice a4 (k+1) c4)).setCell ⟨n+1+1,1,none⟩ (.int .i64 c)):=by
  refine⟨_,rfl,?_,by rw[HN0.out];exact B4⟩
  rw[HN0.out,hsl.out,zrx]
  have e:fCs (L.take k)++fCs (f :: L.drop (k+1))=fCs (L.take k)++[.string (str f.p),.string (str f.t),.int .i64 f.c,.bool f.d]++fCs (L.drop (k+1)):=by
   rw[List.append_assoc];rfl
  rw[e]
  exact zjt o5 (by omega)
 exact bodyPost_ret (v:=.agg #[.slice a4 (k+1) c4,.int .i64 c]) (by simp[results,Tryz.results93,go_sem,r0,r1]) rfl hfin
theorem set_no_end (w:World) (b:Nat) (c:Int) (L:List F) (f:F) (k:Nat) (hN:Hid (L.length=k)) (hl:L.length≤100000) (hb:b<w.heap.size)
  (hp:Hid (Sp.pos L f.p=(k,false))) (hA:∀ W,Below w.heap.size w W→Calls Tryz.prog 92 #[.agg #[.slice (some ⟨b,0,none⟩) k k,.int .i64 c],.string (str f.p)] W (zlk W (k,false))) (hC:Hid (∀ j u,(fCs L)[j]?=some u→w.cell? ⟨b,j,none⟩=some u)) :
  Calls Tryz.prog 93 #[.agg #[.slice (some ⟨b,0,none⟩) k k,.int .i64 c],.agg #[.string (str f.p),.string (str f.t),.int .i64 f.c,.bool f.d]] w (zdl w (Sp.ins L f) c):=by
 have hi1:Hid (Sp.ins L f=L.take k++f :: L.drop k):=Lib.hid (by rw[Sp.zkz,hp.out];rfl)
 have hkl:k≤L.length:=by rw[hN.out];omega
 have hkb:k≤100000:=by rw[←hN.out];exact hl
 have hdl:Hid ((fCs (L.drop k)).length=0 * 4):=Lib.hid (by rw[zhc,List.length_drop,hN.out];omega)
 have hlen1:Hid ((fCs (L.take k)).length=k * 4):=Lib.hid (by rw[zhc,List.length_take,Nat.min_eq_left hkl])
 have hsl:Hid ((L.take k++f :: L.drop k).length=k+1):=Lib.hid (by rw[List.length_append,List.length_take,Nat.min_eq_left hkl,List.length_cons,List.length_drop,hN.out];omega)
 rw[hi1.out]
 go_enter Tryz.func93,Tryz.ntmps93
 go_wp2_with fail
 have hBa:=fun x y z=>(((Below.refl w.heap.size w).alloc (Nat.le_refl _) x).alloc (by simp) y).alloc (by simp;omega) z
 refine(hA _ (hBa _ _ _)).mono ?_
 rintro e w1 ⟨rfl,B1⟩
 have hk1:=Kept.of_below (X:=[]) B1
 have hz1:(w.alloc (.cells #[.slice (some ⟨b,0,none⟩) k k,.int .i64 c] 32)).heap.size=w.heap.size+1:=by simp
 have hz2:((w.alloc (.cells #[.slice (some ⟨b,0,none⟩) k k,.int .i64 c] 32)).alloc (.cells #[.string (str f.p),.string (str f.t),.int .i64 f.c,.bool f.d] 29)).heap.size=w.heap.size+1+1:=by simp
 have H2:=(hk1.block (w.heap.size+1+1) (by simp) (by simp)).trans (zca _ _ hz2)
 have H1:=((hk1.block (w.heap.size+1) (by simp) (by simp)).trans (Below.heap_alloc _ _ _ (by simp))).trans (zca _ _ hz1)
 have hB:=(hBa _ _ _).trans (B1.mono (by simp;omega))
 have H0:=((hk1.block w.heap.size (by simp;omega) (by simp)).trans ((Below.heap_alloc _ _ _ (by simp;omega)).trans (Below.heap_alloc _ _ _ (by simp)))).trans (zca w (.cells #[.slice (some ⟨b,0,none⟩) k k,.int .i64 c] 32) rfl)
 have hCb:Hid (∀ j u,(fCs L)[j]?=some u→w1.cell? ⟨b,j,none⟩=some u):=Lib.hid fun j u hu=>((Kept.of_below (X:=[]) hB).cell (p:=⟨b,j,none⟩) hb (by simp)).trans (hC.out j u hu)
 have hsz:w.heap.size+3≤w1.heap.size:=by have:=B1.size;simp at this;omega
 have hX:Boxes w1 w.heap.size b (.slice (some ⟨b,0,none⟩) k k) c f L:=⟨hsz,hb,H0,H1,H2,hCb.out⟩
 clear hk1 hz1 hz2 B1 hBa H0 H1 H2 hCb hC hA hkl hl
 obtain⟨n,hn0⟩:∃ n,w.heap.size=n:=⟨_,rfl⟩
 obtain⟨i0,hi,hz0,hz1,hz2⟩:=info_parts infoF
 rw[hn0] at hb hB hsz hX
 have HN0:=Lib.hid hn0
 simp only [hn0]
 clear hn0
 obtain⟨⟨q0,q1,q2⟩,⟨m0,m1,zm⟩,⟨f0,f1,f2,f3⟩,⟨r0,r1,zr0,zr1⟩⟩:=hX.cells
 have hown0:((w1.alloc (.cells #[] 29)).ownsRow (n+3) 29 4 (.slice (some ⟨w1.heap.size,0,none⟩) 0 0) 0 []):=by
  have:=World.ownsRow_made (base:=n+3) (e:=29) (size:=4) w1 #[] 0 (by omega) (by unfold maxLen;omega) (by simp)
  simpa using this
 have hX1:=hX.alloc (.cells #[] 29)
 have hsrc:Hid (∀ j u,(fCs (L.take k))[j]?=some u→(w1.alloc (.cells #[] 29)).cell? (Addr.add ⟨b,0,none⟩ j)=some u):=Lib.hid fun j u hu=>by
  rw[Addr.add_lit,Nat.zero_add]
  refine hX1.src j u ?_
  rw[zjg,List.getElem?_take] at hu
  split at hu
  ·exact hu
  ·cases hu
 have hnew:=fun (W:World)=>zht W (.string (str f.p)) (.string (str f.t)) (.int .i64 f.c) (.bool f.d) 29
 go_wp2_with (first
  | (at_builtin;refine wpList_append_own _ rfl _ _ 22 rfl (n+3) 29 i0 (.agg #[.string ByteArray.empty,.string ByteArray.empty,.int .i64 0,.bool false]) 4 48 Tryz.underlying22 hi hz0 hz1 hz2 rfl (by decide) _ _ _ rfl hown3 ⟨b,0,none⟩ 0 0 (fCs (L.drop k)) rfl hdl.out (hX3.src_drop (.inr (by rw[hN.out];exact Nat.le_refl _))) (zhm _) (by unfold maxLen;omega) (by omega) (by have:=hX3.lt;omega) ?_;intro v4 w4 hown4 hgrow4 _;obtain⟨a4,c4,rfl⟩:=zac hown4;have hX4:=hX3.grown hown3 hgrow4;obtain⟨⟨q0,q1,q2⟩,⟨m0,m1,zm⟩,⟨f0,f1,f2,f3⟩,⟨r0,r1,zr0,zr1⟩⟩:=hX4.cells;clear tok3)
  | (at_builtin;refine wpList_append_own _ rfl _ _ 22 rfl (n+3) 29 i0 (.agg #[.string ByteArray.empty,.string ByteArray.empty,.int .i64 0,.bool false]) 4 48 Tryz.underlying22 hi hz0 hz1 hz2 rfl (by decide) _ _ _ rfl (hown2.alloc _) ⟨w2.heap.size,0,none⟩ 1 1 [.string (str f.p),.string (str f.t),.int .i64 f.c,.bool f.d] rfl rfl (hnew w2) (by simp[Value.oneCell']) (by unfold maxLen;omega) (by omega) (by have:=hX2.lt;simp;omega) ?_;intro v3 w3 hown3 hgrow3 _;obtain⟨a3,c3,rfl⟩:=zac hown3;have hX3:=(hX2.alloc _).grown (hown2.alloc _) hgrow3;obtain⟨⟨q0,q1,q2⟩,⟨m0,m1,zm⟩,⟨f0,f1,f2,f3⟩,⟨r0,r1,zr0,zr1⟩⟩:=hX3.cells;have tok3:True:=trivial)
  | (at_builtin;refine wpList_append_own _ rfl _ _ 22 rfl (n+3) 29 i0 (.agg #[.string ByteArray.empty,.string ByteArray.empty,.int .i64 0,.bool false]) 4 48 Tryz.underlying22 hi hz0 hz1 hz2 rfl (by decide) _ _ _ rfl hown0 ⟨b,0,none⟩ k k (fCs (L.take k)) rfl hlen1.out hsrc.out (zhm _) (by unfold maxLen;omega) (by omega) (by simp;omega) ?_;intro v2 w2 hown2 hgrow2 _;rw[Nat.zero_add,List.nil_append] at hown2;obtain⟨a2,c2,rfl⟩:=zac hown2;have hX2:=hX1.grown hown0 hgrow2;obtain⟨⟨q0,q1,q2⟩,⟨m0,m1,zm⟩,⟨f0,f1,f2,f3⟩,⟨r0,r1,zr0,zr1⟩⟩:=hX2.cells))
 have B4:Below n w ((((w4.setCell ⟨n,0,none⟩ (.slice a4 (k+1) c4)).setCell ⟨n+1+1,0,none⟩ (.slice a4 (k+1) c4)).setCell ⟨n+1+1,1,none⟩ (.int .i64 c))):=by
  have b1:Below n w1 w4:=(((((Below.refl n w1).alloc (by omega) _).grown hgrow2 (by simp;omega) fun j e=>by have:=(hown0.lt j e).1;omega).alloc (by have:=hX2.lt;omega) _).grown hgrow3 (by have:=hX2.lt;simp;omega) fun j e=>by have:=(hown2.lt j e).1;omega).grown hgrow4 (by have:=hX3.lt;omega) fun j e=>by have:=(hown3.lt j e).1;omega
  exact(((hB.trans b1).setCell (by simp) _).setCell (by simp;omega) _).setCell (by simp;omega) _
 have o5:=zat (zat (zat hown4 (a:=n) (by omega) 0 (.slice a4 (k+1) c4)) (a:=n+1+1) (by omega) 0 (.slice a4 (k+1) c4)) (a:=n+1+1) (by omega) 1 (.int .i64 c)
 have hfin:zdl w (L.take k++f :: L.drop k) c (.returned (.agg #[.slice a4 (k+1) c4,.int .i64 c])) (((w4.setCell ⟨n,0,none⟩ (.slice a4 (k+1) c4)).setCell ⟨n+1+1,0,none⟩ (.slice a4 (k+1) c4)).setCell ⟨n+1+1,1,none⟩ (.int .i64 c)):=by
  refine⟨_,rfl,?_,by rw[HN0.out];exact B4⟩
  rw[HN0.out,hsl.out,zrx]
  have e:fCs (L.take k)++fCs (f :: L.drop k)=fCs (L.take k)++[.string (str f.p),.string (str f.t),.int .i64 f.c,.bool f.d]++fCs (L.drop k):=by
   rw[List.append_assoc];rfl
  rw[e]
  exact zjt o5 (by omega)
 exact bodyPost_ret (v:=.agg #[.slice a4 (k+1) c4,.int .i64 c]) (by simp[results,Tryz.results93,go_sem,r0,r1]) rfl hfin
def RFiles (w:World) (v:Value) (L:List F):Prop :=
 (L=[]∧v=.slice none 0 0)∨(0<L.length∧∃ b cp,v=.slice (some ⟨b,0,none⟩) L.length cp∧L.length≤cp∧b<w.heap.size∧∀ j u,(fCs L)[j]?=some u→w.cell? ⟨b,j,none⟩=some u)
theorem RFiles.below {w w':World} {v:Value} {L:List F} (h:RFiles w v L) (hB:Below w.heap.size w w'):RFiles w' v L:=by
 rcases h with h | ⟨h0,b,cp,h1,h2,h3,h4⟩
 ·exact .inl h
 ·exact .inr ⟨h0,b,cp,h1,h2,Nat.lt_of_lt_of_le h3 hB.size,fun j u hj=>(hB.cell (p:=⟨b,j,none⟩) h3).trans (h4 j u hj)⟩
theorem RFiles.of_own {w:World} {base:Nat} {v:Value} {L:List F} (h:w.ownsRow base 29 4 v L.length (fCs L)) (hv:L=[]→v=.slice none 0 0):RFiles w v L:=by
 rcases Nat.eq_zero_or_pos L.length with h0 | h0
 ·have e:=List.length_eq_zero_iff.1 h0
  exact .inl ⟨e,hv e⟩
 ·rcases h.2 with ⟨_,e⟩ | ⟨g,cap,cur,rfl,hb,hg,hn,hc,hs,ht⟩
  ·omega
  ·refine .inr ⟨h0,g,cap,rfl,hn,(Array.getElem?_eq_some_iff.1 hg).1,fun j u hj=>?_⟩
   have:=h.cells (g:=g) rfl j u hj
   simpa[Addr.add_lit] using this
theorem rfCs_get {L:List F} {k i:Nat} (hk:k<L.length) (hi:i<4):(fCs L)[k * 4+i]?=(fC L[k])[i]?:=by
 have h:=zra L k
 have e:(fCs L)[k * 4+i]?=((fCs L).drop (k * 4))[i]?:=by rw[List.getElem?_drop]
 rw[e,←h,List.drop_eq_getElem_cons hk]
 show (fC L[k]++fCs (L.drop (k+1)))[i]?=_
 rw[List.getElem?_append_left (by rw[zts];exact hi)]
theorem RFiles.files {w:World} {v:Value} {L:List F} (h:RFiles w v L):Files w v L:=by
 rcases h with ⟨rfl,rfl⟩ | ⟨h0,b,cp,rfl,h2,h3,h4⟩
 ·exact .inl ⟨rfl,none,0,rfl⟩
 ·refine .inr ⟨b,0,cp,rfl,h3,fun j hj=>?_⟩
  have e:∀ i u,i<4→(fC L[j])[i]?=some u→w.cell? ⟨b,0+j * 4+i,none⟩=some u:=fun i u hi hu=>by
   rw[Nat.zero_add]
   exact h4 _ u (by rw[rfCs_get hj hi];exact hu)
  exact⟨e 0 _ (by decide) rfl,e 1 _ (by decide) rfl,e 2 _ (by decide) rfl,e 3 _ (by decide) rfl⟩
theorem set_nil (w:World) (c:Int) (f:F) :
  Calls Tryz.prog 93 #[.agg #[.slice none 0 0,.int .i64 c],.agg #[.string (str f.p),.string (str f.t),.int .i64 f.c,.bool f.d]] w (zdl w [f] c):=by
 go_enter Tryz.func93,Tryz.ntmps93
 go_wp2_with fail
 have hBa:=fun x y z=>(((Below.refl w.heap.size w).alloc (Nat.le_refl _) x).alloc (by simp) y).alloc (by simp;omega) z
 refine(zsd _ none 0 c (str f.p)).mono ?_
 rintro e w1 ⟨rfl,B1⟩
 have hk1:=Kept.of_below (X:=[]) B1
 have hz1:(w.alloc (.cells #[.slice none 0 0,.int .i64 c] 32)).heap.size=w.heap.size+1:=by simp
 have hz2:((w.alloc (.cells #[.slice none 0 0,.int .i64 c] 32)).alloc (.cells #[.string (str f.p),.string (str f.t),.int .i64 f.c,.bool f.d] 29)).heap.size=w.heap.size+1+1:=by simp
 have H2:=(hk1.block (w.heap.size+1+1) (by simp) (by simp)).trans (zca _ _ hz2)
 have H1:=((hk1.block (w.heap.size+1) (by simp) (by simp)).trans (Below.heap_alloc _ _ _ (by simp))).trans (zca _ _ hz1)
 have hB:=(hBa _ _ _).trans (B1.mono (by simp;omega))
 have H0:=((hk1.block w.heap.size (by simp;omega) (by simp)).trans ((Below.heap_alloc _ _ _ (by simp;omega)).trans (Below.heap_alloc _ _ _ (by simp)))).trans (zca w (.cells #[.slice none 0 0,.int .i64 c] 32) rfl)
 have hsz:w.heap.size+3≤w1.heap.size:=by have:=B1.size;simp at this;omega
 clear hk1 hz1 hz2 B1 hBa
 obtain⟨n,hn0⟩:∃ n,w.heap.size=n:=⟨_,rfl⟩
 obtain⟨i0,hi,hz0,hz1,hz2⟩:=info_parts infoF
 rw[hn0] at hB hsz H0 H1 H2
 have HN0:=Lib.hid hn0
 simp only [hn0]
 clear hn0
 have q0:n<w1.heap.size:=by omega
 have q1:n+1<w1.heap.size:=by omega
 have q2:n+1+1<w1.heap.size:=by omega
 have HX:=fun (W:World) (h:Below (n+3) w1 W)=>(show (W.heap[n]?=_∧W.heap[n+1]?=_∧W.heap[n+1+1]?=_) from ⟨(h.block n (by omega)).trans H0,(h.block (n+1) (by omega)).trans H1,(h.block (n+1+1) (by omega)).trans H2⟩)
 have HXh:=Lib.hid HX
 clear HX
 have f0:w1.cell? ⟨n+1,0,none⟩=some (.string (str f.p)):=zaa H1 rfl
 have f1:w1.cell? ⟨n+1,1,none⟩=some (.string (str f.t)):=zaa H1 rfl
 have f2:w1.cell? ⟨n+1,2,none⟩=some (.int .i64 f.c):=zaa H1 rfl
 have f3:w1.cell? ⟨n+1,3,none⟩=some (.bool f.d):=zaa H1 rfl
 have m0:w1.cell? ⟨n,0,none⟩=some (.slice none 0 0):=zaa H0 rfl
 have m1:w1.cell? ⟨n,1,none⟩=some (.int .i64 c):=zaa H0 rfl
 clear H0 H1 H2
 have hown0:((w1.alloc (.cells #[] 29)).ownsRow (n+3) 29 4 (.slice (some ⟨w1.heap.size,0,none⟩) 0 0) 0 []):=by
  have:=World.ownsRow_made (base:=n+3) (e:=29) (size:=4) w1 #[] 0 (by omega) (by unfold maxLen;omega) (by simp)
  simpa using this
 have hnew:Hid (∀ (j:Nat) (u:Value),[Value.string (str f.p),.string (str f.t),.int .i64 f.c,.bool f.d][j]?=some u→((w1.alloc (.cells #[] 29)).alloc (.cells #[.string (str f.p),.string (str f.t),.int .i64 f.c,.bool f.d] 29)).cell? (Addr.add ⟨w1.heap.size+1,0,none⟩ j)=some u):=Lib.hid (by
  have:=zht (w1.alloc (.cells #[] 29)) (.string (str f.p)) (.string (str f.t)) (.int .i64 f.c) (.bool f.d) 29
  rwa[World.size_alloc] at this)
 have HB3:Hid (∀ w3,(((w1.alloc (.cells #[] 29)).alloc (.cells #[.string (str f.p),.string (str f.t),.int .i64 f.c,.bool f.d] 29))).grownBy w3 (Value.slice (some ⟨w1.heap.size,0,none⟩) 0 0).ownBlock→Below (n+3) w1 w3):=Lib.hid fun w3 hg =>
  (((Below.refl (n+3) w1).alloc hsz _).alloc (by simp;omega) _).grown hg (by simp;omega) (fun j e=>(hown0.lt j e).1)
 have tok1:True:=trivial
 go_wp2_with (first
  | (at_builtin;have _t:=tok1;refine wpList_append_own_none rfl _ _ 22 rfl (n+3) 29 i0 4 Tryz.underlying22 hi _ _ _ rfl hown0 rfl ?_;clear tok1 _t)
  | (at_builtin;refine wpList_append_own_none rfl _ _ 22 rfl (n+3) 29 i0 4 Tryz.underlying22 hi _ _ _ rfl hown3 rfl ?_)
  | (at_builtin;refine wpList_append_own _ rfl _ _ 22 rfl (n+3) 29 i0 (.agg #[.string ByteArray.empty,.string ByteArray.empty,.int .i64 0,.bool false]) 4 48 Tryz.underlying22 hi hz0 hz1 hz2 rfl (by decide) _ _ _ rfl (hown0.alloc _) ⟨w1.heap.size+1,0,none⟩ 1 1 [.string (str f.p),.string (str f.t),.int .i64 f.c,.bool f.d] rfl rfl hnew.out (by simp[Value.oneCell']) (by unfold maxLen;omega) (by omega) (by simp;omega) ?_;intro v3 w3 hown3 hgrow3 _;rw[Nat.zero_add,List.nil_append] at hown3;obtain⟨a3,c3,rfl⟩:=zac hown3;have b3:=HB3.out w3 hgrow3;obtain⟨G0,G1,G2⟩:=HXh.out w3 b3;have m0:w3.cell? ⟨n,0,none⟩=some (.slice none 0 0):=zaa G0 rfl;have m1:w3.cell? ⟨n,1,none⟩=some (.int .i64 c):=zaa G0 rfl;have zm:=zad G0 0;have r0:w3.cell? ⟨n+1+1,0,none⟩=some (.slice none 0 0):=zaa G2 rfl;have r1:w3.cell? ⟨n+1+1,1,none⟩=some (.int .i64 0):=zaa G2 rfl;have zr0:=zad G2 0;have zr1:=zad G2 1;have q0:n<w3.heap.size:=(by have:=b3.size;omega);have q2:n+1+1<w3.heap.size:=(by have:=b3.size;omega)))
 have o3:w3.ownsRow (n+3) 29 4 (.slice a3 1 c3) 1 (fCs [f]):=hown3
 have B4:Below n w ((((w3.setCell ⟨n,0,none⟩ (.slice a3 1 c3)).setCell ⟨n+1+1,0,none⟩ (.slice a3 1 c3)).setCell ⟨n+1+1,1,none⟩ (.int .i64 c))) :=
  (((hB.trans (b3.mono (by omega))).setCell (by simp) _).setCell (by simp;omega) _).setCell (by simp;omega) _
 have o5:=zat (zat (zat o3 (a:=n) (by omega) 0 (.slice a3 1 c3)) (a:=n+1+1) (by omega) 0 (.slice a3 1 c3)) (a:=n+1+1) (by omega) 1 (.int .i64 c)
 have hfin:zdl w [f] c (.returned (.agg #[.slice a3 1 c3,.int .i64 c])) (((w3.setCell ⟨n,0,none⟩ (.slice a3 1 c3)).setCell ⟨n+1+1,0,none⟩ (.slice a3 1 c3)).setCell ⟨n+1+1,1,none⟩ (.int .i64 c)):=by
  refine⟨_,rfl,?_,by rw[HN0.out];exact B4⟩
  rw[HN0.out]
  exact zjt o5 (by omega)
 exact bodyPost_ret (v:=.agg #[.slice a3 1 c3,.int .i64 c]) (by simp[results,Tryz.results93,go_sem,r0,r1]) rfl hfin
theorem ziv (w:World) (v:Value) (c:Int) (L:List F) (f:F) (hl:L.length≤100000) (h:RFiles w v L) :
  Calls Tryz.prog 93 #[.agg #[v,.int .i64 c],.agg #[.string (str f.p),.string (str f.t),.int .i64 f.c,.bool f.d]] w (zdl w (Sp.ins L f) c):=by
 have hA:∀ W,Below w.heap.size w W→Calls Tryz.prog 92 #[.agg #[v,.int .i64 c],.string (str f.p)] W (zlk W (Sp.pos L f.p)):=fun W hB=>by
  have:=zhb W v c L (str f.p) hl (h.below hB).files
  rwa[zas] at this
 rcases h with ⟨rfl,rfl⟩ | ⟨h0,b,cp,rfl,hcp,hb,hC⟩
 ·exact set_nil w c f
 ·rcases hp:Sp.pos L f.p with ⟨k,y⟩
  rw[hp] at hA
  have hk:=Sp.zna L f.p
  rw[hp] at hk
  cases y with
  | true =>
   have hk2:=Sp.pos_lt L f.p (by rw[hp])
   rw[hp] at hk2
   obtain⟨m,hm⟩:∃ m,L.length=k+1+m:=⟨L.length - (k+1),by simp at hk2;omega⟩
   rw[hm] at hA hcp ⊢
   rcases Nat.lt_or_ge (k+1) cp with h1 | h1
   ·exact set_yes w b c L f k m cp (Lib.hid hm) h1 hcp hl hb (Lib.hid hp) hA (Lib.hid hC)
   ·obtain rfl:m=0:=by omega
    have e:cp=k+1:=by omega
    rw[Nat.add_zero] at hm
    rw[e,Nat.add_zero] at hA ⊢
    exact set_yes_end w b c L f k (Lib.hid hm) hl hb (Lib.hid hp) hA (Lib.hid hC)
  | false =>
   obtain⟨m,hm⟩:∃ m,L.length=k+m:=⟨L.length - k,by simp at hk;omega⟩
   rw[hm] at hA hcp ⊢
   rcases Nat.lt_or_ge k cp with h1 | h1
   ·exact set_no w b c L f k m cp (Lib.hid hm) h1 hcp hl hb (Lib.hid hp) hA (Lib.hid hC)
   ·obtain rfl:m=0:=by omega
    have e:cp=k:=by omega
    rw[Nat.add_zero] at hm
    rw[e,Nat.add_zero] at hA ⊢
    exact set_no_end w b c L f k (Lib.hid hm) hl hb (Lib.hid hp) hA (Lib.hid hC)
theorem zvh (L:List F) (f:F):Sp.ins L f≠[]:=by
 rw[Sp.zkz];simp
end Sw
end Go.Proofs.YtgdpbnfgcabneaaGreatDoor

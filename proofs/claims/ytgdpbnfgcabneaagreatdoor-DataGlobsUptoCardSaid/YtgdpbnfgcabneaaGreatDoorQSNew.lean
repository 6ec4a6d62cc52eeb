/- Part of the proof. -/
import Derived.Test.YtgdpbnfgcabneaaGreatDoorQSAdd
import Derived.Shelf.SlSortCmp.NoneTotal
set_option maxRecDepth 100000
set_option maxHeartbeats 40000000
namespace Go.Proofs.YtgdpbnfgcabneaaGreatDoor
namespace Sw
open Go.RowKit Go.Maps Go.Shelf
theorem zju (L:List F):strKeys (Sp.mapOf L)=L.map (·.p):=by
 show ((L.map Sp.ent).map fun q=>strOf q.1)=_
 rw[List.map_map];rfl
theorem zwe {L:List F} (hs:Sp.Sorted L) {ss:List (List UInt8)} (h:ss.Perm (strKeys (Sp.mapOf L))):ss.mergeSort (fun x y=>decide (x≤y))=L.map (·.p):=by
 rw[zju] at h
 have h2:ss.mergeSort (fun x y=>decide (x≤y))=(L.map (·.p)).mergeSort (fun x y=>decide (x≤y)):=mergeSort_of_perm h
 rw[h2]
 exact List.mergeSort_of_pairwise (List.pairwise_map.2 (hs.imp fun {a b} hab=>by simpa using List.le_of_lt hab))
theorem Keys_any (w:World) (bm:Nat):Calls Tryz.prog 163 #[.map (some bm)] w fun e w' =>
  e=.returned (.func (.func 235) #[] #[.pointer (some ⟨w.heap.size,0,none⟩)])∧w'=w.alloc (.cells #[.map (some bm)] 178) :=
 (callsIn_wide (n:=5)).1 (AnyZ.keys_in Tryz.laysKeys Fence.wide 5 trivial rfl (some bm) w)
theorem sorts (m:Nat):AnyZ.SortsIn Tryz.prog Tryz.laysSorted_ren Fence.wide m :=
 ⟨fun blk off cap ss W hH hblk hsz=>callsIn_wide.2 (Tryz.slices_Sort_string blk off cap ss W hH hblk hsz),
  fun p cap W=>callsIn_wide.2 (Tryz.slices_Sort_string_none p cap W)⟩
theorem Sorted_any (w:World) {bm:Nat} {L:List F} (hM:MapAt w bm L) (hl:L.length≤1000000) :
  Calls Tryz.prog 162 #[.func (.func 235) #[] #[.pointer (some ⟨w.heap.size,0,none⟩)]] (w.alloc (.cells #[.map (some bm)] 178)) fun e w' =>
   ∃ v,e=.returned v∧w'.ownsRow (w.alloc (.cells #[.map (some bm)] 178)).heap.size 9 1 v (L.map fun f=>str f.p).length (strC (L.map fun f=>str f.p))∧Below (w.alloc (.cells #[.map (some bm)] 178)).heap.size (w.alloc (.cells #[.map (some bm)] 178)) w':=by
 have hbl:=hM.lt
 have hs:=hM.sorted
 have hown:=hM.own
 have hmax:Maps.size (Sp.mapOf L)≤maxLen:=by rw[Sp.zcv];unfold maxLen;omega
 have hbytes:Maps.size (Sp.mapOf L) * 16≤140737488355328:=by rw[Sp.zcv];omega
 have hseq:SeqGives Fence.wide 2 Tryz.prog 235 #[.pointer (some ⟨w.heap.size,0,none⟩)] encStr (fun ss=>ss.Perm (strKeys (Sp.mapOf L))) (Maps.size (Sp.mapOf L)) (w.alloc (.cells #[.map (some bm)] 178)) :=
  AnyZ.keys_gives (ρ:=Tryz.laysKeys_ren) { Tryz.laysKeys with } Fence.wide _ trivial rfl (by omega) w.heap.size bm _ (Sp.mapOf L) _ (by simp) (by simp) ((hM.alloc _).own)
 have h:=AnyZ.sorted_in Tryz.laysSorted Fence.wide 5 trivial trivial trivial trivial rfl (by omega) (sorts _) (enters_of Tryz.func234 (by kernel_rfl) rfl) 235 #[.pointer (some ⟨w.heap.size,0,none⟩)] trivial (enters_of Tryz.func235 (by kernel_rfl) rfl) _ _ hmax hbytes _ hseq
 refine((callsIn_wide (n:=5)).1 h).mono ?_
 rintro e w' ⟨v,ss,rfl,hS,hrow,_,hb⟩
 refine⟨v,rfl,?_,hb⟩
 have hlen:ss.length=(L.map fun f=>str f.p).length:=by rw[hS.length_eq,zju];simp
 rw[zwe hs hS,hlen] at hrow
 have e1:(L.map (·.p)).map encStr=strC (L.map fun f=>str f.p):=by simp[strC,encStr,str]
 rw[e1] at hrow
 exact hrow
def child (L:List F) (p:List UInt8):Bool:=L.any fun g=>(p++[47]).isPrefixOf g.p
def zcw (L:List F):Bool:=L.any fun f=>!f.d && child L f.p
def lb:List F→List UInt8→Nat
 | [],_=>0
 | f :: r,q=>if f.p<q then lb r q+1 else 0
theorem between:∀ (t a r:List UInt8),t≤a→a≤t++r→t.isPrefixOf a=true
 | [],_,_,_,_=>by simp
 | x :: t,[],r,h,_=>by exact absurd h (by simp)
 | x :: t,y :: a,r,h1,h2=>by
  rw[List.cons_append] at h2
  have h1':¬ (y<x∨y=x∧a<t):=fun h=>(List.not_lt.2 h1) (List.cons_lt_cons_iff.2 h)
  have h2':¬ (x<y∨x=y∧t++r<a):=fun h=>(List.not_lt.2 h2) (List.cons_lt_cons_iff.2 h)
  have e:x=y:=UInt8.le_antisymm (UInt8.not_lt.1 fun h=>h1' (.inl h)) (UInt8.not_lt.1 fun h=>h2' (.inl h))
  subst e
  have:=between t a r (List.not_lt.1 fun h=>h1' (.inr ⟨rfl,h⟩)) (List.not_lt.1 fun h=>h2' (.inr ⟨rfl,h⟩))
  simpa using this
theorem le_app (t r:List UInt8):t≤t++r:=by
 refine List.not_lt.1 fun h=>?_
 induction t with
 | nil=>simp at h
 | cons x t ih =>
  rw[List.cons_append] at h
  rcases List.cons_lt_cons_iff.1 h with h | ⟨_,h⟩
  ·exact absurd h (UInt8.lt_irrefl x)
  ·exact ih h
theorem lb_low:∀ {L:List F} {q:List UInt8} {t:Nat},t<lb L q→∃ f,L[t]?=some f∧f.p<q
 | [],_,_,h=>by simp[lb] at h
 | f :: r,q,t,h=>by
  unfold lb at h
  split at h
  ·rename_i hf
   cases t with
   | zero=>exact⟨f,rfl,hf⟩
   | succ t=>exact lb_low (L:=r) (by omega)
  ·omega
theorem lb_le:∀ (L:List F) (q:List UInt8),lb L q≤L.length
 | [],_=>by simp[lb]
 | f :: r,q=>by
  unfold lb
  split
  ·have:=lb_le r q;simp;omega
  ·simp
theorem zwp:∀ {L:List F} {q:List UInt8},Sp.Sorted L→∀ {t:Nat} {f:F},lb L q≤t→L[t]?=some f→¬ f.p<q
 | [],_,_,_,_,_,h=>by simp at h
 | g :: r,q,hs,t,f,h,hf=>by
  obtain⟨h1,h2⟩:=List.pairwise_cons.1 hs
  intro hlt
  unfold lb at h
  split at h
  ·cases t with
   | zero=>omega
   | succ t=>exact zwp h2 (t:=t) (by omega) (by simpa using hf) hlt
  ·rename_i hg
   cases t with
   | zero=>cases hf;exact hg hlt
   | succ t=>exact hg (Sp.ziq (h1 f (List.mem_of_getElem? (by simpa using hf))) hlt)
theorem child_lb {L:List F} (hs:Sp.Sorted L) (p:List UInt8):child L p=match L[lb L (p++[47])]? with
  | some g=>(p++[47]).isPrefixOf g.p
  | none=>false:=by
 unfold child
 rw[Bool.eq_iff_iff,List.any_eq_true]
 constructor
 ·rintro ⟨g,hg,hp⟩
  obtain⟨t,ht⟩:=List.getElem?_of_mem hg
  obtain⟨r,hr⟩:=List.isPrefixOf_iff_prefix.1 hp
  have hge:¬ g.p<p++[47]:=fun h=>by rw[←hr] at h;exact(List.not_lt.2 (le_app _ r)) h
  have hle:lb L (p++[47])≤t:=by
   by_cases hlt:t<lb L (p++[47])
   ·obtain⟨f,hf,hlt2⟩:=lb_low hlt
    rw[ht] at hf;cases hf
    exact absurd hlt2 hge
   ·omega
  have htl:t<L.length:=(List.getElem?_eq_some_iff.1 ht).1
  have hk:lb L (p++[47])<L.length:=by omega
  rw[List.getElem?_eq_getElem hk]
  have h1:¬ (L[lb L (p++[47])]).p<p++[47]:=zwp hs (Nat.le_refl _) (List.getElem?_eq_getElem hk)
  refine between _ _ r (List.not_lt.1 h1) ?_
  rw[hr]
  rcases Nat.lt_or_eq_of_le hle with h | h
  ·have:=List.pairwise_iff_getElem.1 hs _ t hk htl h
   rw[List.getElem?_eq_getElem htl] at ht
   cases ht
   exact List.le_of_lt this
  ·have:L[lb L (p++[47])]=g:=by
    have h3:=List.getElem?_eq_getElem hk
    have h4:L[lb L (p++[47])]?=some g:=by rw[h];exact ht
    exact Option.some.inj (h3.symm.trans h4)
   rw[this];exact List.le_refl _
 ·intro h
  split at h
  ·rename_i g hg
   exact⟨g,List.mem_of_getElem? hg,h⟩
  ·cases h
def BoolPost (w:World) (b:Bool) (e:Ending) (w':World):Prop:=e=.returned (.bool b)∧Below w.heap.size w w'
theorem Search_any (w:World) {b n c:Nat} {L:List F} {q:ByteArray} (hs:Sp.Sorted L) (hn:n=L.length) (hl:n≤1000000) (hc:∀ j,j<n→w.cell? ⟨b,j,none⟩=some (.string ((L.map fun f=>str f.p)[j]?.getD ByteArray.empty))) :
  Calls Tryz.prog 164 #[.slice (some ⟨b,0,none⟩) n c,.string q] w fun e w'=>∃ found,e=.returned (.tuple #[.int .i64 (lb L (bs q):Nat),.bool found])∧∃ k,w'=w.drewN k:=by
 subst hn
 let Sx:Nat→ByteArray:=fun j=>(L[j]?.map fun f=>str f.p).getD q
 have hc':∀ j,j<L.length→w.cell? ⟨b,0+j,none⟩=some (.string (Sx j)):=fun j hj=>by
  have e1:(L.map fun f=>str f.p)[j]?.getD ByteArray.empty=Sx j:=by simp[Sx,hj]
  rw[Nat.zero_add,←e1];exact hc j hj
 have h:=Any2.slices_BinarySearch_string Tryz.laysSearch b 0 L.length c Sx q w (by omega) hc'
 have hk:Lib.bsGo (fun t=>Op.bytesLess (Sx t).toList q.toList) L.length 0 L.length=lb L (bs q):=by
  refine Lib.bsGo_spec _ (lb L (bs q)) (fun t ht=>?_) (fun t ht=>?_) _ _ _ (by omega) (Nat.zero_le _) (lb_le _ _)
  ·obtain⟨f,hf,hlt⟩:=lb_low ht
   have:Sx t=str f.p:=by simp[Sx,hf]
   rw[this,bytesLess_eq,Lib.toList_data,Lib.toList_data,decide_eq_true_eq]
   exact hlt
  ·cases hf:L[t]? with
   | none =>
    have:Sx t=q:=by simp[Sx,hf]
    rw[this,bytesLess_eq]
    simp
   | some f =>
    have:Sx t=str f.p:=by simp[Sx,hf]
    rw[this,bytesLess_eq,Lib.toList_data,Lib.toList_data,decide_eq_false_iff_not]
    exact zwp hs ht hf
 rw[hk] at h
 exact h.mono fun e w' ⟨a,b⟩=>⟨_,a,b⟩
theorem zsp (w:World) (s p:ByteArray) (r:Bool) (h:Hid ((bs p).isPrefixOf (bs s)=r)):Calls Tryz.prog 165 #[.string s,.string p] w fun e w'=>e=.returned (.bool r)∧w=w':=by
 refine(Tryz.strings_HasPrefix s p w).mono ?_
 rw[show Lib.hasPrefix s.data.toList p.data.toList=r from h.out]
 exact fun e w' ⟨a,b⟩=>⟨a,b.symm⟩
theorem sorted_at {L:List F} (hs:Sp.Sorted L) {k:Nat} {f:F} (h:L[k]?=some f):Sp.get L f.p=some f:=(Sp.zgm hs).2 ⟨List.mem_of_getElem? h,rfl⟩
def Free (L:List F) (k:Nat):Prop:=∀ j f,j<k→L[j]?=some f→f.d=false→child L f.p=false
theorem Free.step {L:List F} {k:Nat} (h:Free L k) (hk:∀ f,L[k]?=some f→f.d=false→child L f.p=false):Free L (k+1):=fun j f hj hf hd=>by
 by_cases e:j=k
 ·subst e;exact hk f hf hd
 ·exact h j f (by omega) hf hd
theorem Free.all {L:List F} (h:Free L L.length):zcw L=false:=by
 unfold zcw
 rw[List.any_eq_false]
 intro f hf
 obtain⟨j,hj⟩:=List.getElem?_of_mem hf
 cases hd:f.d with
 | true=>simp
 | false=>rw[h j f (List.getElem?_eq_some_iff.1 hj).1 hj hd];simp
theorem blocked_at {L:List F} {k:Nat} {f:F} (hf:L[k]?=some f) (hd:f.d=false) (hc:child L f.p=true):zcw L=true:=by
 unfold zcw
 rw[List.any_eq_true]
 exact⟨f,List.mem_of_getElem? hf,by rw[hd,hc];rfl⟩
theorem field_dir (a b c d:Value) (w:World):(Instr.field 29 (.agg #[a,b,c,d]) 3).run Tryz.prog w=.ok d w:=by kernel_rfl
def BlRel (w w2:World) (L:List F) (i:Value) (wr:World):Prop:=∃ k:Nat,i=.int .i64 k∧k≤L.length∧wr.heap=w2.heap∧Below w.heap.size w wr∧Free L k
theorem zob (w:World) {sb bm:Nat} {L:List F} {c:Int} (hS:StoreAt w sb bm L c) (hl:L.length≤1000000) (hp:∀ f∈L,f.p.length≤1000000) :
  Calls Tryz.prog 89 #[.pointer (some ⟨sb,0,none⟩)] w (BoolPost w (zcw L)):=by
 have hlt:=hS.lt
 have c1:=hS.c1
 have hM:=hS.map
 have hs:=hM.sorted
 go_enter Tryz.func89,Tryz.ntmps89
 go_wp2_with fail
 refine(Keys_any _ bm).mono ?_
 rintro e w1 ⟨rfl,rfl⟩
 go_wp2_with fail
 refine(Sorted_any w hM hl).mono ?_
 rintro e w2 ⟨v,rfl,hrow,hB⟩
 have hB0:=((Below.refl w.heap.size w).alloc (Nat.le_refl _) (.cells #[.map (some bm)] 178)).trans (hB.mono (by simp))
 have hlen:(L.map fun f=>str f.p).length=L.length:=by simp
 rcases Nat.eq_zero_or_pos L.length with h0 | h0
 ·obtain rfl:L=[]:=List.eq_nil_of_length_eq_zero h0
  obtain⟨a,cp,rfl⟩:∃ a c,v=.slice a 0 c:=by
   rcases hrow.2 with ⟨rfl,_⟩ | ⟨g,cap,cur,rfl,_⟩
   ·exact⟨_,_,rfl⟩
   ·exact⟨_,_,rfl⟩
  clear hrow hlen
  go_wp2
  refine wp_loop_rounds 1 ?_
  rw[rounds_succ]
  go_wp2
  go_ret
  exact⟨rfl,hB0⟩
 ·obtain⟨g,cp,rfl,_,_⟩:=zcl hrow (by rw[hlen];exact h0)
  have hS2:=hS.below hB0
  have hcell:=fun j (hj:j<L.length)=>zgt hrow (j:=j) (by rw[hlen];exact hj)
  rw[hlen]
  clear hrow hlen hS hM c1 hB
  go_wp2
  go_loopw [17] (fun i wr=>BlRel w w2 L i wr) (fun i _=>L.length - (intOf i).toNat)
  case atStart=>exact⟨0,rfl,Nat.zero_le _,rfl,hB0,fun j f h=>by omega⟩
  case round =>
   obtain⟨k,rfl,hk,hheap,hBr,hfree⟩:=hrel
   have hSr:StoreAt wr sb bm L c:=⟨by rw[hheap];exact hS2.cells,hS2.map.block (by rw[hheap])⟩
   have hcr:∀ j,j<L.length→wr.cell? ⟨g,j,none⟩=some (.string ((L.map fun f=>str f.p)[j]?.getD ByteArray.empty)):=fun j hj=>by
    rw[←hcell j hj];exact World.cell?_of_block (w:=w2) (by rw[hheap])
   have HH:=Lib.hid hheap
   have HF:=Lib.hid hfree
   clear hheap hfree hS2 hcell
   by_cases hlt:k<L.length
   ·obtain⟨f,hf⟩:∃ f,L[k]?=some f:=⟨_,List.getElem?_eq_getElem hlt⟩
    have hpk:(L.map fun f=>str f.p)[k]?.getD ByteArray.empty=str f.p:=by rw[List.getElem?_map,hf];rfl
    have ck:=hcr k hlt
    rw[hpk] at ck
    have hfp:=hp f (List.mem_of_getElem? hf)
    have hps:(str f.p).size≤1000000:=by rw[←zax,zas];exact hfp
    have hg:=sorted_at hs hf
    have hG:Hid ((Sp.get L (bs (str f.p))).getD noF=f):=Lib.hid (by rw[zas,hg];rfl)
    have hpm:(str f.p).size≤maxLen:=by unfold maxLen;omega
    have ik:(k:Int)<L.length:=by omega
    have c1:=hSr.c1
    have hM:=hSr.map
    have HF2:=Lib.hid hf
    have HC:=Lib.hid hcr
    clear hf hcr hpk hg hSr
    obtain⟨fp,ft,fc,fd⟩:=f
    simp only at *
    have hfd:=fun (d:Value) (wx:World)=>field_dir (.string (str fp)) (.string (str ft)) (.int .i64 fc) d wx
    cases fd with
    | true =>
     go_wp2_with (at_lookup;refine zib _ rfl _ _ rfl rfl rfl hM hpm hG ?_)
     go_roundw
     case rel=>exact⟨k+1,by go_num,by omega,HH.out,hBr,HF.out.step fun f hf hd=>by rw[HF2.out] at hf;cases hf;cases hd⟩
     case measure=>simp[intOf];omega
    | false =>
     obtain⟨q,hq⟩:∃ q,q=str fp++⟨#[47]⟩:=⟨_,rfl⟩
     have hqb:bs q=fp++[47]:=by rw[hq,zpx,zas];rfl
     have hqs:(str fp).size+1≤1000001:=by omega
     have hch:=child_lb hs fp
     have hll:=lb_le L (fp++[47])
     obtain⟨m,hm⟩:∃ m,lb L (fp++[47])=m:=⟨_,rfl⟩
     have hsr:=fun wx hcx=>Search_any wx (b:=g) (n:=L.length) (c:=cp) (q:=q) hs rfl hl hcx
     rw[hqb,hm] at hsr
     rw[hm] at hch hll
     have HSR:=Lib.hid hsr
     rw[hq] at HSR
     have hml:Hid (lb L (fp++[47])=m):=Lib.hid hm
     clear hsr hm
     by_cases hmn:m<L.length
     ·obtain⟨x,hx⟩:∃ x,L[m]?=some x:=⟨_,List.getElem?_eq_getElem hmn⟩
      have hxk:(L.map fun f=>str f.p)[m]?.getD ByteArray.empty=str x.p:=by rw[List.getElem?_map,hx];rfl
      have cm:=HC.out m hmn
      rw[hxk] at cm
      rw[hx] at hch
      simp only at hch
      have hxp:=hp x (List.mem_of_getElem? hx)
      have im:(m:Int)<L.length:=by omega
      obtain⟨r,hr⟩:∃ r,(fp++[47]).isPrefixOf x.p=r:=⟨_,rfl⟩
      have hR:Hid ((bs (str fp++⟨#[47]⟩)).isPrefixOf (bs (str x.p))=r):=Lib.hid (by rw[←hq,hqb,zas];exact hr)
      rw[hr] at hch
      have HCH:=Lib.hid hch
      clear hch hr hx hxk hqb hq
      cases r with
      | true =>
       have HE:=Lib.hid (blocked_at HF2.out rfl HCH.out)
       go_wp2_with (first
        | (at_lookup;refine zib _ rfl _ _ rfl rfl rfl hM hpm hG ?_)
        | (go_at_call 164;go_must (refine(HSR.out _ HC.out).mono ?_);rintro e w4 ⟨fo,rfl,nq,rfl⟩)
        | (go_at_call 165;go_must (refine(zsp _ _ _ true hR).mono ?_);rintro e w5 ⟨rfl,rfl⟩))
       go_ret
       exact⟨by rw[HE.out];rfl,below_drewN hBr nq⟩
      | false =>
       go_wp2_with (first
        | (at_lookup;refine zib _ rfl _ _ rfl rfl rfl hM hpm hG ?_)
        | (go_at_call 164;go_must (refine(HSR.out _ HC.out).mono ?_);rintro e w4 ⟨fo,rfl,nq,rfl⟩)
        | (go_at_call 165;go_must (refine(zsp _ _ _ false hR).mono ?_);rintro e w5 ⟨rfl,rfl⟩))
       go_roundw
       case rel=>exact⟨k+1,by go_num,by omega,HH.out,below_drewN hBr nq,HF.out.step fun f hf hd=>by rw[HF2.out] at hf;cases hf;exact HCH.out⟩
       case measure=>simp[intOf];omega
     ·have im:¬ (m:Int)<L.length:=by omega
      have hn:L[m]?=none:=List.getElem?_eq_none (by omega)
      rw[hn] at hch
      have HCH:=Lib.hid hch
      clear hch hn hqb hq
      go_wp2_with (first
       | (at_lookup;refine zib _ rfl _ _ rfl rfl rfl hM hpm hG ?_)
       | (go_at_call 164;go_must (refine(HSR.out _ HC.out).mono ?_);rintro e w4 ⟨fo,rfl,nq,rfl⟩))
      go_roundw
      case rel=>exact⟨k+1,by go_num,by omega,HH.out,below_drewN hBr nq,HF.out.step fun f hf hd=>by rw[HF2.out] at hf;cases hf;exact HCH.out⟩
      case measure=>simp[intOf];omega
   ·obtain rfl:k=L.length:=by omega
    have HE:=Lib.hid HF.out.all
    go_wp2
    go_ret
    exact⟨by rw[HE.out];rfl,hBr⟩
end Sw
namespace Sw
open Go.RowKit Go.Maps
def dirF (d:List UInt8):F:=⟨d,[],0,true⟩
def zfk:Nat→List F→List UInt8→List F
 | 0,L,_=>L
 | n+1,L,d=>if 4096<L.length then L else match getR L d with
  | some _=>L
  | none=>zfk n (Sp.ins L (dirF d)) (dirL d)
def mu (d:List UInt8):Nat:=if d=[46] then 0 else d.length+1
def zgl (L:List F) (d:List UInt8):List F:=zfk (mu d+1) L d
theorem last_le (d:List UInt8):Lib.Pa.lastIndexByte d 47<d.length:=by
 have h:=Lib.Pa.lastIndexByte_bounds d 47
 exact h.2
theorem mu_dir {d:List UInt8} (h:d≠[46]):mu (dirL d)<mu d:=by
 unfold mu
 rw[if_neg h]
 unfold dirL
 split
 ·rename_i h0
  have h1:=last_le d
  split
  ·omega
  ·rw[List.length_take];omega
 ·rw[if_pos rfl];omega
theorem zpr:∀ (n m:Nat) (L:List F) (d:List UInt8),mu d+1≤n→mu d+1≤m→zfk n L d=zfk m L d
 | 0,_,_,_,h,_=>by omega
 | _,0,_,_,_,h=>by omega
 | n+1,m+1,L,d,hn,hm=>by
  unfold zfk
  split
  ·rfl
  ·cases hg:getR L d with
   | some f=>rfl
   | none =>
    have hd:d≠[46]:=fun e=>by subst e;cases hg
    have:=mu_dir hd
    exact zpr n m _ _ (by omega) (by omega)
theorem surr_full {L:List F} {d:List UInt8} (h:4096<L.length):zgl L d=L:=by unfold zgl zfk;rw[if_pos h]
theorem surr_there {L:List F} {d:List UInt8} {f:F} (h:getR L d=some f):zgl L d=L:=by
 unfold zgl zfk
 split
 ·rfl
 ·rw[h]
theorem surr_step {L:List F} {d:List UInt8} (h:¬ 4096<L.length) (hg:getR L d=none):zgl L d=zgl (Sp.ins L (dirF d)) (dirL d):=by
 have hd:d≠[46]:=fun e=>by subst e;cases hg
 have h1:zgl L d=zfk (mu d) (Sp.ins L (dirF d)) (dirL d):=by
  show zfk (mu d+1) L d=_
  rw[zfk,if_neg h,hg]
 rw[h1]
 exact zpr _ _ _ _ (mu_dir hd) (Nat.le_refl _)
def muV:Value→Nat
 | .string s=>mu (bs s)
 | _=>0
def SuRel (w:World) (sb bm:Nat) (L:List F) (c:Int) (d0:List UInt8) (v:Value) (wr:World):Prop :=
 ∃ (d:ByteArray) (M:List F),v=.string d∧d.size≤1000000∧M.length≤1000000∧StoreAt wr sb bm M c∧Kept [sb,bm] w wr∧zgl M (bs d)=zgl L d0
theorem zti (w:World) {sb bm:Nat} {L:List F} {c:Int} (p:ByteArray) (hS:StoreAt w sb bm L c) (hp:p.size≤999999) (hl:L.length≤1000000) :
  Calls Tryz.prog 90 #[.pointer (some ⟨sb,0,none⟩),.string p] w fun e w'=>e=.returned (.tuple #[])∧StoreAt w' sb bm (zgl L (dirL (bs p))) c∧Kept [sb,bm] w w':=by
 have hsz:∀ (q:ByteArray),q.size≤1000000→∃ d:ByteArray,dirL (bs q)=bs d∧d.size≤1000000:=fun q hq=>by
  refine⟨str (dirL (bs q)),rfl,?_⟩
  rw[←zax,zas]
  unfold dirL
  split
  ·rw[List.length_take,zax];omega
  ·simp
 obtain⟨d,hd,hds⟩:=hsz p (by omega)
 have HD:=Lib.hid hd
 rw[hd]
 clear hd
 go_enter Tryz.func90,Tryz.ntmps90
 go_wp2_with (go_at_call 166;go_must (refine(dir_is _ p d (by omega) HD).mono ?_);rintro e w2 ⟨rfl,rfl⟩)
 go_loopw [4] (fun v wr=>SuRel w sb bm L c (bs d) v wr) (fun v _=>muV v)
 case atStart=>exact⟨d,L,rfl,hds,hl,hS,.refl _ _,rfl⟩
 case round =>
  obtain⟨d,M,rfl,hds,hMl,hSr,hK,hrun⟩:=hrel
  have c1:=hSr.c1
  have hM:=hSr.map
  have hlt:=hSr.lt
  have HR:=Lib.hid hrun
  clear hrun
  by_cases h4:4096<M.length
  ·have i4:¬ (M.length:Int)≤4096:=by omega
   have HE:Hid (zgl L (bs _)=M):=Lib.hid (HR.out.symm.trans (surr_full h4))
   go_wp2_with (at_len;refine zdq _ rfl _ rfl rfl hM ?_)
   go_end0
   exact⟨rfl,by rw[HE.out];exact hSr,hK⟩
  ·have i4:(M.length:Int)≤4096:=by omega
   have hdm:d.size≤maxLen:=by unfold maxLen;omega
   cases hg:getR M (bs d) with
   | some f =>
    have hG:=Lib.hid hg
    have HE:Hid (zgl L (bs _)=M):=Lib.hid (HR.out.symm.trans (surr_there hg))
    clear hg
    go_wp2_with (first
     | (at_len;refine zdq _ rfl _ rfl rfl hM ?_)
     | (go_at_call 27;go_must (refine(zvv _ d hSr hdm hG).mono ?_);rintro e w1 ⟨rfl,B1⟩;unfold fV))
    refine bodyPost_ret (results_none rfl _ _ _) rfl ?_
    exact⟨rfl,by rw[HE.out];exact(hSr.below B1).alloc _,(hK.below B1).alloc _⟩
   | none =>
    have hG:=Lib.hid hg
    have HE:=Lib.hid ((surr_step (by omega) hg).symm.trans HR.out)
    have hdn:bs d≠[46]:=fun e=>by rw[e] at hg;cases hg
    have hmu:=mu_dir hdn
    obtain⟨d2,hd2,hds2⟩:=hsz d hds
    rw[hd2] at HE hmu
    have HD2:=Lib.hid hd2
    have HN:=Lib.hid hdn
    have hbl:(bs d).length≤maxLen:=by rw[zax];exact hdm
    have hml:M.length<maxLen:=by unfold maxLen;omega
    have hne:=hSr.ne
    clear hg hd2 hdn
    go_wp2_with (first
     | (at_len;refine zdq _ rfl _ rfl rfl hM ?_)
     | (go_at_call 27;go_must (refine(Get_no _ d hSr hdm hG).mono ?_);rintro e w1 ⟨rfl,B1⟩;unfold fV;have hS1:=hSr.below B1;have c1':=hS1.c1;have hlt1:=hS1.lt)
     | (at_mapUpdate;refine zfw (f:=dirF (bs d)) _ rfl _ _ _ rfl rfl rfl rfl (hS1.map.alloc _) hbl hml ?_;intro w3 hM3 htn)
     | (go_at_call 166;go_must (refine(dir_is _ d d2 hds HD2).mono ?_);rintro e w4 ⟨rfl,rfl⟩))
    go_roundw
    case rel =>
     have hS3:StoreAt w3 sb bm (Sp.ins M (dirF (bs d))) c:=⟨(htn.grown.block sb (hS1.alloc _).lt (by simpa using fun e=>hne e.symm)).trans (hS1.alloc _).cells,hM3⟩
     refine⟨d2,Sp.ins M (dirF (bs d)),rfl,hds2,?_,hS3,((hK.below B1).alloc _).grown htn.grown (by simp),HE.out⟩
     rw[Sp.znu];split<;>omega
    case measure=>exact hmu
open Go.Shelf Go.Sort
instance:Inhabited F:=⟨noF⟩
theorem cmp_lt:∀ (a b:List UInt8),decide (Lib.compareBytes a b<0)=decide (a<b)
 | [],[]=>by simp[Lib.compareBytes]
 | [],_ :: _=>by simp[Lib.compareBytes]
 | _ :: _,[]=>by simp[Lib.compareBytes]
 | a :: r,b :: s=>by
  have ih:=cmp_lt r s
  unfold Lib.compareBytes
  simp only [List.cons_lt_cons_iff]
  by_cases h1:a<b
  ·simp[h1]
  ·by_cases h2:b<a
   ·have:a≠b:=fun e=>by subst e;exact absurd h2 h1
    simp[h1,h2,this]
   ·have:a=b:=UInt8.le_antisymm (UInt8.not_lt.1 h2) (UInt8.not_lt.1 h1)
    subst this
    simp only [h1,if_false,false_or,true_and]
    exact ih
def cmpF (x y:F):Int:=Lib.compareBytes x.p y.p
theorem ltF (x y:F):ltOf cmpF x y=decide (x.p<y.p):=cmp_lt x.p y.p
theorem swoF:SWO (ltOf cmpF) where
 irrefl x:=by rw[ltF];simp[Sp.zdd x.p]
 trans x y z h1 h2:=by rw[ltF] at *;simp only [decide_eq_true_eq] at *;exact Sp.ziq h1 h2
 ntrans x y z h1 h2:=by
  rw[ltF] at *
  simp only [decide_eq_false_iff_not] at *
  exact List.not_lt.2 (List.le_trans (List.not_lt.1 h2) (List.not_lt.1 h1))
theorem zxa (x y:F) (W:World):Calls Tryz.prog 120 #[.agg #[.string (str x.p),.string (str x.t),.int .i64 x.c,.bool x.d],.agg #[.string (str y.p),.string (str y.t),.int .i64 y.c,.bool y.d]] W fun e w'=>e=.returned (.int .i64 (cmpF x y))∧∃ q os',w'=grow (W.drewN q) os':=by
 obtain⟨r,hr⟩:∃ r,Hid (cmpF x y=r):=⟨_,Lib.hid rfl⟩
 have hcon:∀ W',Calls Tryz.prog 121 #[.string (str x.p),.string (str y.p)] W' fun e w'=>e=.returned (.int .i64 r)∧w'=W':=fun W'=>by
  have:=Tryz.strings_Compare (str x.p) (str y.p) W'
  rwa[show Lib.compareBytes (str x.p).data.toList (str y.p).data.toList=r from hr.out] at this
 rw[hr.out]
 go_enter Tryz.func120,Tryz.ntmps120
 go_wp2_with (go_at_call 121;go_must (refine(hcon _).mono ?_);rintro e w' ⟨rfl,rfl⟩)
 go_ret
 exact⟨rfl,0,_,by rw[alloc_eq_grow,alloc_eq_grow,grow_grow];rfl⟩
def Files (w:World) (v:Value) (L:List F):Prop :=
 (L=[]∧∃ a c,v=.slice a 0 c)∨∃ b o c,v=.slice (some ⟨b,o,none⟩) L.length c∧b<w.heap.size∧∀ j,(h:j<L.length) →
  w.cell? ⟨b,o+j * 4,none⟩=some (.string (str L[j].p))∧w.cell? ⟨b,o+j * 4+1,none⟩=some (.string (str L[j].t))∧w.cell? ⟨b,o+j * 4+2,none⟩=some (.int .i64 L[j].c)∧w.cell? ⟨b,o+j * 4+3,none⟩=some (.bool L[j].d)
theorem Files.kept {X:List Nat} {w w':World} {v:Value} {L:List F} (h:Files w v L) (hk:Kept X w w') (hx:∀ b,v.ownBlock=some b→b∉X):Files w' v L:=by
 rcases h with h | ⟨b,o,c,rfl,hb,hc⟩
 ·exact .inl h
 ·refine .inr ⟨b,o,c,rfl,Nat.lt_of_lt_of_le hb hk.size,fun j hj=>?_⟩
  have hn:b∉X:=hx b rfl
  obtain⟨c0,c1,c2,c3⟩:=hc j hj
  have e:=fun i=>hk.cell (p:=⟨b,i,none⟩) hb hn
  exact⟨(e _).trans c0,(e _).trans c1,(e _).trans c2,(e _).trans c3⟩
theorem Files.below {w w':World} {v:Value} {L:List F} (h:Files w v L) (hB:Below w.heap.size w w'):Files w' v L:=h.kept (X:=[]) (.of_below hB) (fun _ _=>by simp)
theorem fCs_get:∀ (L:List F) (j c:Nat) (h:j<L.length),c<4→(fCs L)[j * 4+c]?=(fC L[j])[c]?
 | f :: r,0,c,_,hc=>by
  show (fC f++fCs r)[0 * 4+c]?=_
  rw[List.getElem?_append_left (by simp[fC];omega)];simp
 | f :: r,j+1,c,h,hc=>by
  show (fC f++fCs r)[(j+1) * 4+c]?=_
  rw[List.getElem?_append_right (by simp[fC];omega),show (j+1) * 4+c - (fC f).length=j * 4+c by simp[fC];omega,fCs_get r j c (by simpa using h) hc]
  rfl
theorem holdsK_own {w:World} {base:Nat} {v:Value} {L:List F} (h:w.ownsRow base 29 4 v L.length (fCs L)) (hn:0<L.length) :
  ∃ g cap,v=.slice (some ⟨g,0,none⟩) L.length cap∧base≤g∧g<w.heap.size∧HoldsK fC 4 w g 0 L.toArray:=by
 rcases h.2 with ⟨_,h0⟩ | ⟨g,cap,cur,rfl,hb,hgb,_⟩
 ·omega
 ·refine⟨g,cap,rfl,hb,(Array.getElem?_eq_some_iff.1 hgb).1,fun t ht=>?_⟩
  rw[size_flatK] at ht
  simp only [List.size_toArray] at ht
  have hj:t / 4<L.length:=by omega
  refine⟨?_,by simp[World.frozen?,hgb]⟩
  have e1:=fCs_get L (t / 4) (t % 4) hj (by omega)
  have e2:∃ u,(fC L[t / 4])[t % 4]?=some u:=⟨_,List.getElem?_eq_getElem (by simp[fC];omega)⟩
  obtain⟨u,hu⟩:=e2
  have e3:=h.cells (g:=g) rfl (t / 4 * 4+t % 4) u (by rw[e1];exact hu)
  rw[Addr.add_lit,Nat.zero_add,show t / 4 * 4+t % 4=t by omega] at e3
  rw[get_flatK _ _ _ _ (by simpa using ht),Nat.zero_add,e3]
  simp only [id]
  congr 1
  rw[show L.toArray[t / 4]! = L[t / 4] by simp[hj]]
  simp[List.getElem!_eq_getElem?_getD,hu]
theorem zva {w:World} {g:Nat} {d:Array F} {cap n:Nat} (h:HoldsK fC 4 w g 0 d) (hg:g<w.heap.size) (hd:d.size=n):Files w (.slice (some ⟨g,0,none⟩) n cap) d.toList:=by
 refine .inr ⟨g,0,cap,by rw[Array.length_toList,hd],hg,fun j hj=>?_⟩
 have hj':j<d.size:=by simpa using hj
 have e:=fun c (hc:c<4)=>(HoldsK.cell h hj' hc).1
 have hx:d[j]! = d.toList[j]:=by rw[getElem!_pos d j hj'];rfl
 rw[hx] at e
 exact⟨e 0 (by omega),e 1 (by omega),e 2 (by omega),e 3 (by omega)⟩
theorem zrl {w:World} {g n:Nat} {os:Array Obj} (d:Array F):w.grownBy (sortWorldK fC 4 w g 0 n d os) (some g):=by
 refine⟨rfl,rfl,rfl,by simp[sortWorldK,putRowK],fun k hk hne=>?_⟩
 unfold sortWorldK putRowK
 rw[heap_grow_old _ _ (by simpa using hk)]
 have:g≠k:=fun e=>hne (by rw[e])
 simp[putRow,mapBlock,Sort.ahead,Array.getElem?_modify,this]
theorem sorted_is {L xs:List F} {d:Array F} (hs:Sp.Sorted L) (hx:xs.Perm L) (hp:PermIn 0 xs.length xs.toArray d) (ho:SortedIn (ltOf cmpF) 0 xs.length d):d.toList=L:=by
 obtain⟨h1,_,h3⟩:=hp
 have hd:d.size=xs.length:=by simpa using h1
 have h4:d.toList.Perm L:=by
  have:(d.extract 0 xs.length).toList=d.toList:=by rw[←hd];simp
  rw[this] at h3
  exact(h3.trans (by simp)).trans hx
 refine Sp.zeo ?_ hs fun g=>h4.mem_iff
 have hnd:d.toList.Pairwise fun a b=>a.p≠b.p:=(h4.pairwise_iff (fun {a b} (h:a.p≠b.p)=>h.symm)).2 (hs.imp fun {a b} h=>Sp.zjs h)
 refine List.pairwise_iff_getElem.2 fun i j hi hj hij=>?_
 have hi':i<d.size:=by simpa using hi
 have hj':j<d.size:=by simpa using hj
 have a:=ho i j (by omega) hij (by omega)
 rw[ltF,getElem!_pos d i hi',getElem!_pos d j hj',decide_eq_false_iff_not] at a
 exact Sp.lt_or a fun e=>List.pairwise_iff_getElem.1 hnd i j hi hj hij e.symm
def ztq (w:World) (L:List F) (e:Ending) (w':World):Prop:=∃ v,e=.returned v∧Files w' v L∧(∃ a c,v=.slice a L.length c)∧Below w.heap.size w w'
theorem zwq {L:List F} {bm:Nat} (n:Nat) (hn:5≤n) (B:Nat) (w:World) (hB:B<w.heap.size) (hm:w.cell? ⟨B,0,none⟩=some (.map (some bm))) (hM:MapAt w bm L) (hL:L.length≤1000000) :
  CallsIn Fence.wide n Tryz.prog 201 #[.func (.func 203) #[] #[.pointer (some ⟨B,0,none⟩)]] w fun e w' =>
   ∃ (v:Value) (xs:List F),e=.returned v∧xs.Perm L∧w'.ownsRow w.heap.size 29 4 v xs.length (fCs xs)∧Below w.heap.size w w':=by
 refine callsIn_of_wp Tryz.func201 rfl trivial ?_ rfl
 simp only [Tryz.ntmps201,List.size_toArray,List.length_cons,List.length_nil,Nat.reduceAdd,Nat.reduceSub,Array.replicate_succ,Array.replicate_zero,List.push_toArray,List.append_toArray,List.nil_append,List.cons_append]
 gi_wp2_with (refine⟨trivial,fun _=>by omega,?_⟩;gi_at_call 267;refine(zre (n - 1) (by omega) B _ hB hm hM hL).mono ?_;rintro e w' ⟨v,xs,rfl,h1,h2,h3⟩)
 go_ret
 exact⟨v,xs,rfl,h1,h2,h3⟩
theorem zpc {L:List F} {bm:Nat} (n:Nat) (hn:6≤n) (B:Nat) (w:World) (hB:B<w.heap.size) (hm:w.cell? ⟨B,0,none⟩=some (.map (some bm))) (hM:MapAt w bm L) (hL:L.length≤1000000) :
  CallsIn Fence.wide n Tryz.prog 118 #[.func (.func 203) #[] #[.pointer (some ⟨B,0,none⟩)],.func (.func 120) #[] #[]] w (ztq w L):=by
 have hs:=hM.sorted
 refine callsIn_of_wp Tryz.func118 rfl trivial ?_ rfl
 simp only [Tryz.ntmps118,List.size_toArray,List.length_cons,List.length_nil,Nat.reduceAdd,Nat.reduceSub,Array.replicate_succ,Array.replicate_zero,List.push_toArray,List.append_toArray,List.nil_append,List.cons_append]
 gi_wp2_with (refine⟨trivial,fun _=>by omega,?_⟩;gi_at_call 201;refine(zwq (n - 1) (by omega) B _ hB hm hM hL).mono ?_;rintro e w1 ⟨v,xs,rfl,h1,h2,h3⟩)
 rcases Nat.eq_zero_or_pos xs.length with h0 | h0
 ·obtain rfl:xs=[]:=List.eq_nil_of_length_eq_zero h0
  obtain rfl:L=[]:=h1.symm.eq_nil
  obtain⟨a,c,rfl⟩:∃ a c,v=.slice a 0 c:=by
   rcases h2.2 with ⟨rfl,_⟩ | ⟨g,cap,cur,rfl,_⟩
   ·exact⟨_,_,rfl⟩
   ·exact⟨_,_,rfl⟩
  have hcon:=fun fv W=>AnyF.slices_SortFunc_none Tryz.laysSortF a c fv W
  change ∀ fv W,Calls Tryz.prog 202 _ _ _ at hcon
  gi_wp2_with (refine⟨trivial,fun _=>by omega,?_⟩;gi_at_call 202;refine(callsIn_wide.2 (hcon _ _)).mono ?_;rintro e w2 ⟨rfl,rfl⟩)
  go_ret
  exact⟨_,rfl,.inl ⟨rfl,_,_,rfl⟩,⟨_,_,rfl⟩,h3⟩
 ·obtain⟨g,cap,rfl,hb,hg,hH⟩:=holdsK_own h2 h0
  have eg:∀ args w,(callFunc 120 args).run Tryz.prog w=.ok (.enter 120 args) w:=enters_of Tryz.func120 (by kernel_rfl) rfl
  have hxl:=h1.length_eq
  have hcon:=AnyQ.slices_SortFunc Tryz.laysSortF 4 Tryz.isAgg29 Tryz.sizeOf29 fC (fun _=>rfl) (fun x v hv=>by simp[fC] at hv;rcases hv with rfl | rfl | rfl | rfl<;>rfl) cmpF swoF 120 #[] g 0 cap xs.toArray w1 eg
   (fun m os dk _ x y=>zxa x y _) hH hg (by simp;omega)
  change Calls Tryz.prog 202 _ _ _ at hcon
  simp only [List.size_toArray] at hcon
  have HC:=Lib.hid hcon
  have HH:=Lib.hid hH
  clear hcon hH hxl
  gi_wp2_with (refine⟨trivial,fun _=>by omega,?_⟩;gi_at_call 202;refine(callsIn_wide.2 HC.out).mono ?_;rintro e w2 ⟨rfl,d,nn,os,hp,ho,rfl⟩)
  go_ret
  have hd:d.size=xs.length:=by simpa using hp.1
  have hxl:=h1.length_eq
  have hB2:=zrl (w:=w1) (g:=g) (n:=nn) (os:=os) d
  have hL2:=sorted_is hs h1 hp ho
  refine⟨.slice (some ⟨g,0,none⟩) xs.length cap,rfl,?_,⟨some ⟨g,0,none⟩,cap,by rw[←hxl]⟩,h3.grown hB2 h3.size (fun j e=>by cases e;exact hb)⟩
  have:=zva (cap:=cap) (n:=xs.length) (holdsK_sortWorldK fC 4 w1 g 0 nn xs.toArray d os hg HH.out (by simpa using hd)) (lt_sortWorldK fC 4 w1 g 0 nn d os hg) hd
  rw[hL2] at this
  exact this
theorem All_any (w:World) {sb bm:Nat} {L:List F} {c:Int} (hS:StoreAt w sb bm L c) (hL:L.length≤1000000) :
  Calls Tryz.prog 64 #[.pointer (some ⟨sb,0,none⟩)] w (ztq w L):=by
 have c1:=hS.c1
 have hlt:=hS.lt
 have hM:=(hS.map).alloc (.cells #[.map (some bm)] 178)
 have hm:=(Boxed.new w 178 (.map (some bm))).cell
 clear hS
 refine(callsIn_wide (n:=9)).1 ?_
 refine callsIn_of_wp Tryz.func64 rfl trivial ?_ rfl
 simp only [Tryz.ntmps64,List.size_toArray,List.length_cons,List.length_nil,Nat.reduceAdd,Nat.reduceSub,Array.replicate_succ,Array.replicate_zero,List.push_toArray,List.append_toArray,List.nil_append,List.cons_append]
 gi_wp2_with (first
  | (refine⟨trivial,?_⟩;gi_at_call 119;refine(Values_any _ _ bm).mono ?_;rintro e w1 ⟨rfl,rfl⟩)
  | (refine⟨trivial,?_⟩;gi_at_call 118;refine(zpc _ (by omega) w.heap.size _ (by simp) hm hM hL).mono ?_;rintro e w2 ⟨v,rfl,h1,h2,h3⟩))
 go_ret
 exact⟨v,rfl,h1,h2,((Below.refl _ w).alloc (Nat.le_refl _) _).trans (h3.mono (by simp))⟩
end Sw
namespace Sw
open Go.RowKit Go.Maps
def zbd (s:St):List F→St×Int
 | []=>(s,0)
 | f :: r=>if (addA s f).2≠0 then addA s f else zbd (addA s f).1 r
def zbr (L:List F):List F→List F
 | []=>L
 | f :: r=>zbr (zgl L (dirL f.p)) r
theorem zdb (s:St) (f:F) (r:List F):zbd s (f :: r)=if (addA s f).2≠0 then addA s f else zbd (addA s f).1 r:=rfl
theorem zli (L:List F) (f:F) (r:List F):zbr L (f :: r)=zbr (zgl L (dirL f.p)) r:=rfl
def newA (l:List F):St×Int :=
 if (zbd ⟨[],0⟩ l).2≠0 then (⟨[],0⟩,(zbd ⟨[],0⟩ l).2) else
 if zcw (zbd ⟨[],0⟩ l).1.L=true then (⟨[],0⟩,4) else
 if 4096<(zbr (zbd ⟨[],0⟩ l).1.L l).length then (⟨[],0⟩,12) else (⟨zbr (zbd ⟨[],0⟩ l).1.L l,(zbd ⟨[],0⟩ l).1.c⟩,0)
def ziw (w:World) (r:St×Int) (e:Ending) (w':World):Prop :=
 if r.2=0 then ∃ sb bm,e=.returned (.tuple #[.pointer (some ⟨sb,0,none⟩),.int .i64 0])∧w.heap.size≤sb∧w.heap.size≤bm∧StoreAt w' sb bm r.1.L r.1.c∧Below w.heap.size w w'
 else e=.returned (.tuple #[.pointer none,.int .i64 r.2])∧Below w.heap.size w w'
theorem ztj:∀ (n:Nat) (L:List F) (d:List UInt8),(zfk n L d).length≤max L.length 4097
 | 0,L,d=>by show L.length≤_;omega
 | n+1,L,d=>by
  unfold zfk
  split
  ·omega
  ·split
   ·omega
   ·have:=ztj n (Sp.ins L (dirF d)) (dirL d)
    have h2:=Sp.znu L (dirF d)
    split at h2<;>omega
theorem zul (w:World):StoreAt ((w.alloc (.map #[] 0)).alloc (.cells #[.int .i64 0,.map (some w.heap.size)] 180)) (w.heap.size+1) w.heap.size [] 0:=by
 have h1:=World.ownsMap_made w Tryz.prog 9 zid
 have h2:MapAt (w.alloc (.map #[] 0)) w.heap.size []:=⟨h1,List.Pairwise.nil⟩
 have h3:=World.alloc_heap_new (w.alloc (.map #[] 0)) (.cells #[.int .i64 0,.map (some w.heap.size)] 180)
 simp only [World.size_alloc] at h3
 exact⟨h3,h2.alloc _⟩
theorem New_none (w:World) (a:Option Addr) (c:Nat) :
  Calls Tryz.prog 37 #[.slice a 0 c] w (ziw w (newA [])):=by
 have hmm:=@run_makeMap Tryz.prog
 have hS:=zul w
 have hB:Below w.heap.size w ((w.alloc (.map #[] 0)).alloc (.cells #[.int .i64 0,.map (some w.heap.size)] 180)):=((Below.refl _ w).alloc (Nat.le_refl _) _).alloc (by simp) _
 have HS:=Lib.hid hS
 clear hS
 go_enter Tryz.func37,Tryz.ntmps37
 go_wp2
 generalize ((w.alloc (.map #[] 0)).alloc (.cells #[.int .i64 0,.map (some w.heap.size)] 180))=W at *
 refine wp_loop_rounds 1 ?_
 rw[rounds_succ]
 go_wp2_with fail
 refine(zob W HS.out (by simp) (by simp)).mono ?_
 rintro e w1 ⟨rfl,B1⟩
 have hS1:=HS.out.below B1
 have c1:=hS1.c1
 have hlt:=hS1.lt
 have hM:=hS1.map
 rw[show zcw []=false from rfl]
 go_wp2
 refine wp_loop_rounds 1 ?_
 rw[rounds_succ]
 go_wp2_with (at_len;refine zdq _ rfl _ rfl rfl hM ?_)
 go_ret2
 exact⟨_,_,rfl,by omega,Nat.le_refl _,hS1,hB.trans (B1.mono hB.size)⟩
theorem zqe:∀ (l:List F) (s:St),Sp.Sorted s.L→∀ f∈(zbd s l).1.L,f∈s.L∨f∈l
 | [],s,_,f,h=>.inl h
 | g :: r,s,hs,f,h=>by
  have h1:∀ x∈(addA s g).1.L,x∈s.L∨x=g:=fun x hx=>by
   unfold addA at hx
   split at hx
   ·exact .inl hx
   ·split at hx
    ·exact .inl hx
    ·rcases (Sp.zcn hs x).1 hx with e | ⟨e,_⟩
     ·exact .inr e
     ·exact .inl e
  have h2:Sp.Sorted (addA s g).1.L:=by
   unfold addA
   split
   ·exact hs
   ·split
    ·exact hs
    ·exact Sp.zby hs
  rw[zdb] at h
  split at h
  ·rcases h1 f h with e | e
   ·exact .inl e
   ·exact .inr (by simp[e])
  ·rcases zqe r _ h2 f h with e | e
   ·rcases h1 f e with e | e
    ·exact .inl e
    ·exact .inr (by simp[e])
   ·exact .inr (by simp[e])
theorem zdj (s:St) (f:F):(addA s f).1.L.length≤s.L.length+1:=by
 unfold addA
 split
 ·simp
 ·split
  ·simp
  ·show (Sp.ins s.L f).length≤_
   rw[Sp.znu];split<;>omega
structure Given (w:World) (b o c:Nat) (l:List F):Prop where
 lt:b<w.heap.size
 cell:∀ j f,l[j]?=some f→w.cell? ⟨b,o+j * 4,none⟩=some (.string (str f.p))∧w.cell? ⟨b,o+j * 4+1,none⟩=some (.string (str f.t))∧w.cell? ⟨b,o+j * 4+2,none⟩=some (.int .i64 f.c)∧w.cell? ⟨b,o+j * 4+3,none⟩=some (.bool f.d)
 small:∀ f∈l,f.p.length≤100000∧f.t.length≤1000000000
 len:l.length≤10000
theorem Given.later {w w':World} {b o c:Nat} {l:List F} (h:Given w b o c l) (hB:Below w.heap.size w w'):Given w' b o c l :=
 ⟨Nat.lt_of_lt_of_le h.lt hB.size,fun j f hf=>by
  have e:=fun i=>hB.cell (p:=⟨b,i,none⟩) h.lt
  obtain⟨a0,a1,a2,a3⟩:=h.cell j f hf
  exact⟨(e _).trans a0,(e _).trans a1,(e _).trans a2,(e _).trans a3⟩,h.small,h.len⟩
def NwRel (w:World) (l:List F) (v:Value) (wr:World):Prop :=
 ∃ (k:Nat) (st:St),v=.int .i64 k∧k≤l.length∧zbd ⟨[],0⟩ l=zbd st (l.drop k)∧StoreAt wr (w.heap.size+1) w.heap.size st.L st.c∧Below w.heap.size w wr∧st.L.length≤k
def SwRel (w:World) (l L:List F) (c:Int) (v:Value) (wr:World):Prop :=
 ∃ (k:Nat) (M:List F),v=.int .i64 k∧k≤l.length∧zbr L l=zbr M (l.drop k)∧StoreAt wr (w.heap.size+1) w.heap.size M c∧Below w.heap.size w wr∧M.length≤20000
theorem drop_at {l:List F} {k:Nat} {f:F} (h:l[k]?=some f):l.drop k=f :: l.drop (k+1):=by
 obtain⟨hk,e⟩:=List.getElem?_eq_some_iff.1 h
 rw[List.drop_eq_getElem_cons hk,e]
theorem New_some (w:World) (b o c:Nat) (l:List F) (hG:Given w b o c l) :
  Calls Tryz.prog 37 #[.slice (some ⟨b,o,none⟩) l.length c] w (ziw w (newA l)):=by
 have hmm:=@run_makeMap Tryz.prog
 have hS:=zul w
 have hB:Below w.heap.size w ((w.alloc (.map #[] 0)).alloc (.cells #[.int .i64 0,.map (some w.heap.size)] 180)):=((Below.refl _ w).alloc (Nat.le_refl _) _).alloc (by simp) _
 have HS:=Lib.hid hS
 have hl:=hG.len
 clear hS
 go_enter Tryz.func37,Tryz.ntmps37
 go_wp2
 clear hmm
 generalize ((w.alloc (.map #[] 0)).alloc (.cells #[.int .i64 0,.map (some w.heap.size)] 180))=W at *
 go_loopw [15] (fun v wr=>NwRel w l v wr) (fun v _=>l.length - (intOf v).toNat)
 case atStart=>exact⟨0,⟨[],0⟩,rfl,Nat.zero_le _,rfl,HS.out,hB,Nat.le_refl _⟩
 case round =>
  obtain⟨k,st,rfl,hk,hrun,hSt,hBr,hlen⟩:=hrel
  clear HS hB
  by_cases hlt:k<l.length
  ·obtain⟨f,hf⟩:∃ f,l[k]?=some f:=⟨_,List.getElem?_eq_getElem hlt⟩
   obtain⟨a0,a1,a2,a3⟩:=(hG.later hBr).cell k f hf
   obtain⟨s1,s2⟩:=hG.small f (List.mem_of_getElem? hf)
   rw[drop_at hf,zdb] at hrun
   have hcon:=fun oo=>zgr (wr.alloc oo) f (hSt.alloc oo) (by omega) s2 (by omega)
   have hal:=zdj st f
   obtain⟨⟨t,n⟩,hr⟩:∃ r,addA st f=r:=⟨_,rfl⟩
   rw[hr] at hrun hcon hal
   simp only at hrun hal
   have HR:=Lib.hid hrun
   have HC:=Lib.hid hcon
   have ik:(k:Int)<l.length:=by omega
   have hbl:b<wr.heap.size:=(hG.later hBr).lt
   clear hrun hcon hr hf
   by_cases hn:n=0
   ·subst hn
    go_wp2_with (go_at_call 88;go_must (refine(HC.out _).mono ?_);rintro e w2 ⟨rfl,hS2,hK2⟩)
    go_roundw
    case rel=>exact⟨k+1,t,by go_num,by omega,HR.out.trans (if_neg (by simp)),hS2,(hBr.alloc hBr.size _).trans (hK2.to_below (by have:=hBr.size;simp;omega) (by simp)),by omega⟩
    case measure=>simp[intOf];omega
   ·have hn':(n == 0)=false:=by simpa using hn
    have HE:Hid (newA l=(⟨[],0⟩,n)):=Lib.hid (by
     have h1:zbd ⟨[],0⟩ l=(t,n):=HR.out.trans (if_pos hn)
     unfold newA;rw[h1,if_pos hn])
    go_wp2_with (go_at_call 88;go_must (refine(HC.out _).mono ?_);rintro e w2 ⟨rfl,hS2,hK2⟩)
    go_ret2
    rw[HE.out]
    unfold ziw
    rw[if_neg hn]
    exact⟨rfl,(hBr.alloc hBr.size _).trans (hK2.to_below (by have:=hBr.size;simp;omega) (by simp))⟩
  ·obtain rfl:k=l.length:=by omega
   rw[List.drop_length] at hrun
   have h1:zbd ⟨[],0⟩ l=(st,0):=hrun
   have hmem:=fun f hf=>zqe l ⟨[],0⟩ List.Pairwise.nil f (by rw[h1];exact hf)
   have hpl:∀ f∈st.L,f.p.length≤1000000:=fun f hf=>by
    rcases hmem f hf with h | h
    ·cases h
    ·have:=(hG.small f h).1;omega
   clear hrun hmem
   have H1:=Lib.hid h1
   clear h1
   go_wp2_with fail
   refine(zob wr hSt (by omega) hpl).mono ?_
   rintro e w1 ⟨rfl,B1⟩
   have hS1:=hSt.below B1
   have hB1:=hBr.trans (B1.mono hBr.size)
   cases hbl:zcw st.L with
   | true =>
    have HE:Hid (newA l=(⟨[],0⟩,4)):=Lib.hid (by unfold newA;rw[H1.out,if_neg (by simp),if_pos hbl])
    clear hbl
    go_wp2
    go_ret2
    rw[HE.out]
    exact⟨rfl,hB1⟩
   | false =>
    have HBl:=Lib.hid hbl
    clear hbl
    go_wp2
    have hsl:st.L.length≤20000:=by omega
    have hc9:=Lib.hid (rfl:st.c=st.c)
    go_loopw [30] (fun v wr=>SwRel w l st.L st.c v wr) (fun v _=>l.length - (intOf v).toNat)
    case atStart=>exact⟨0,st.L,rfl,Nat.zero_le _,rfl,hS1,hB1,hsl⟩
    case round =>
     obtain⟨k,M,rfl,hk,hrun,hSt,hBr,hlen⟩:=hrel
     clear hS1 hB1 B1
     by_cases hlt:k<l.length
     ·obtain⟨f,hf⟩:∃ f,l[k]?=some f:=⟨_,List.getElem?_eq_getElem hlt⟩
      obtain⟨a0,a1,a2,a3⟩:=(hG.later hBr).cell k f hf
      obtain⟨s1,s2⟩:=hG.small f (List.mem_of_getElem? hf)
      rw[drop_at hf,zli] at hrun
      have hps:(str f.p).size≤999999:=by rw[←zax,zas];omega
      have hcon:=fun oo=>zti (wr.alloc oo) (str f.p) (hSt.alloc oo) hps (by omega)
      rw[zas] at hcon
      have hsn:=ztj (mu (dirL f.p)+1) M (dirL f.p)
      have hsn2:(zgl M (dirL f.p)).length≤20000:=by unfold zgl;omega
      obtain⟨M2,hM2⟩:∃ M2,zgl M (dirL f.p)=M2:=⟨_,rfl⟩
      rw[hM2] at hcon hrun hsn2
      have HR:=Lib.hid hrun
      have HC:=Lib.hid hcon
      have ik:(k:Int)<l.length:=by omega
      have hbl:b<wr.heap.size:=(hG.later hBr).lt
      clear hrun hcon hf hM2 hsn hk
      go_wp2_with (go_at_call 90;go_must (refine(HC.out _).mono ?_);rintro e w2 ⟨rfl,hS2,hK2⟩)
      go_roundw
      case rel=>exact⟨k+1,M2,by go_num,by omega,HR.out,hS2,(hBr.alloc hBr.size _).trans (hK2.to_below (by have:=hBr.size;simp;omega) (by simp)),hsn2⟩
      case measure=>simp[intOf];omega
     ·obtain rfl:k=l.length:=by omega
      rw[List.drop_length] at hrun
      have HR:Hid (zbr st.L l=M):=Lib.hid hrun
      have c1:=hSt.c1
      have hlt2:=hSt.lt
      have hM:=hSt.map
      clear hrun
      by_cases h4:4096<M.length
      ·have i4:(4096:Int)<M.length:=by omega
       have HE:Hid (newA l=(⟨[],0⟩,12)):=Lib.hid (by unfold newA;rw[H1.out,if_neg (by simp),if_neg (by simp[HBl.out]),if_pos (by rw[HR.out];exact h4)])
       go_wp2_with (at_len;refine zdq _ rfl _ rfl rfl hM ?_)
       go_ret2
       rw[HE.out]
       exact⟨rfl,hBr⟩
      ·have i4:¬ (4096:Int)<M.length:=by omega
       have HE:Hid (newA l=(⟨M,st.c⟩,0)):=Lib.hid (by unfold newA;rw[H1.out,if_neg (by simp),if_neg (by simp[HBl.out]),if_neg (by rw[HR.out];exact h4),HR.out])
       go_wp2_with (at_len;refine zdq _ rfl _ rfl rfl hM ?_)
       go_ret2
       rw[HE.out]
       exact⟨_,_,rfl,by omega,Nat.le_refl _,hSt,hBr⟩
end Sw
end Go.Proofs.YtgdpbnfgcabneaaGreatDoor

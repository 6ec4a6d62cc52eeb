/- Part of the proof. -/
import Derived.Test.YtgdpbnfgcabneaaGreatDoorQRMatch2
set_option maxRecDepth 100000
set_option maxHeartbeats 40000000
namespace Go.Proofs.YtgdpbnfgcabneaaGreatDoor
namespace Gm
open Go.RowKit
set_option maxRecDepth 1000000
set_option maxRecDepth 1000000
set_option maxRecDepth 1000000
theorem RMatch_is (w:World) (p s:ByteArray) (b:Bool) (hb:Hid (Gl.zei (by8 p) (by8 s)=b)) (hp:p.size≤1000000) (hs:s.size≤1000000) :
  Calls Tryz.prog 112 #[.string p,.string s] w fun e w'=>e=.returned (.bool b)∧Below w.heap.size w w':=by
 have:=RMatch_any w p s hp hs
 rwa[hb.out] at this
theorem zpu (w:World) (s:ByteArray) (q:Bs) (hs:s.size≤900000) (h:Hid (Pt.join [bs s]=some q)) :
  Calls Tryz.prog 9 #[.slice (some ⟨w.heap.size,0,none⟩) 1 1] (w.alloc (.cells #[.string s] 9)) fun e w'=>e=.returned (.tuple #[.string (str q),.bool true])∧Below w.heap.size w w':=by
 have hss:=zrs w s 1
 rcases hss with ⟨h0,_⟩ | ⟨b,o,c,hv,hb,hc⟩
 ·cases h0
 ·cases hv
  refine(zdp (w.alloc (.cells #[.string s] 9)) w.heap.size 0 1 [s] hb hc (by simp[tot];omega)).mono ?_
  rw[show [s].map bs=[bs s] from rfl,h.out]
  rintro e w' ⟨hB,rfl⟩
  exact⟨rfl,((Below.refl _ w).alloc (Nat.le_refl _) _).trans (hB.mono (by simp))⟩
theorem RJoin_none (w:World) (s:ByteArray) (hs:s.size≤900000) (h:Hid (Pt.join [bs s]=none)) :
  Calls Tryz.prog 9 #[.slice (some ⟨w.heap.size,0,none⟩) 1 1] (w.alloc (.cells #[.string s] 9)) fun e w'=>e=.returned (.tuple #[.string (str []),.bool false])∧Below w.heap.size w w':=by
 have hss:=zrs w s 1
 rcases hss with ⟨h0,_⟩ | ⟨b,o,c,hv,hb,hc⟩
 ·cases h0
 ·cases hv
  refine(zdp (w.alloc (.cells #[.string s] 9)) w.heap.size 0 1 [s] hb hc (by simp[tot];omega)).mono ?_
  rw[show [s].map bs=[bs s] from rfl,h.out]
  rintro e w' ⟨hB,rfl⟩
  exact⟨rfl,((Below.refl _ w).alloc (Nat.le_refl _) _).trans (hB.mono (by simp))⟩
theorem drop_map {ss:List ByteArray} {k:Nat} (h:k<ss.length):(ss.map bs).drop k=bs (ss[k]?.getD ByteArray.empty) :: (ss.map bs).drop (k+1):=by
 rw[List.drop_eq_getElem_cons (by rw[List.length_map];exact h),List.getElem_map,List.getElem?_eq_getElem h];rfl
theorem zgt {w:World} {base g c:Nat} {ps:List ByteArray} (h:w.ownsRow base 9 1 (.slice (some ⟨g,0,none⟩) ps.length c) ps.length (strC ps)) {j:Nat} (hj:j<ps.length) :
  w.cell? ⟨g,j,none⟩=some (.string (ps[j]?.getD ByteArray.empty)):=by
 rw[h.cellAt j (by omega),strC,List.getElem?_map,List.getElem?_eq_getElem hj];rfl
theorem mem_get {ps:List ByteArray} {j:Nat} (hj:j<ps.length):ps[j]?.getD ByteArray.empty∈ps:=by
 rw[List.getElem?_eq_getElem hj];exact List.getElem_mem hj
theorem zue {w:World} {base base':Nat} {e:TypeId} {size:Nat} {v:Value} {n:Nat} {xs:List Value} (h:w.ownsRow base e size v n xs) (hb:base'≤base):w.ownsRow base' e size v n xs:=by
 refine⟨h.1,?_⟩
 rcases h.2 with h0 | ⟨g,cap,cur,hv,hg,r⟩
 ·exact .inl h0
 ·exact .inr ⟨g,cap,cur,hv,Nat.le_trans hb hg,r⟩
theorem parts_step {A S:List ByteArray} {k:Nat} (hA:k<A.length) (hS:k<S.length):zbo ((A.map bs).drop k) ((S.map bs).drop k)=(zif (bs (A[k]?.getD ByteArray.empty)) (bs (S[k]?.getD ByteArray.empty)) && zbo ((A.map bs).drop (k+1)) ((S.map bs).drop (k+1))):=by
 rw[drop_map hA,drop_map hS];rfl
theorem parts_end {A S:List ByteArray} {k:Nat} (hA:A.length≤k):zbo ((A.map bs).drop k) ((S.map bs).drop k)=true:=by
 rw[List.drop_of_length_le (by rw[List.length_map];exact hA)];rfl
def QRel (B:Nat) (w:World) (A S:List ByteArray) (ga ca gb cb:Nat) (i:Value) (wr:World):Prop :=
 ∃ k:Nat,i=.int .i64 k∧k≤A.length∧zbo ((A.map bs).drop k) ((S.map bs).drop k)=zbo (A.map bs) (S.map bs) ∧
  wr.ownsRow B 9 1 (.slice (some ⟨ga,0,none⟩) A.length ca) A.length (strC A)∧wr.ownsRow B 9 1 (.slice (some ⟨gb,0,none⟩) S.length cb) S.length (strC S)∧Below B w wr
theorem hid_no {b:ByteArray} (h:¬ 0<b.size):hid (bs b)=false:=by
 have:bs b=[]:=List.length_eq_zero_iff.1 (by rw[zax];omega)
 rw[this];rfl
theorem hid_at {b:ByteArray} (h:0<b.size):hid (bs b)=decide (b[0]=46):=by
 unfold hid
 rw[show (bs b).head?=some b[0] from zqk h]
 by_cases e:b[0]=46<;>simp[e]
theorem RPath_any (w:World) (p s:ByteArray) (hp:p.size≤900000) (hs:s.size≤900000) :
  Calls Tryz.prog 58 #[.string p,.string s] w fun e w'=>e=.returned (.bool (zef (bs p) (bs s)))∧Below w.heap.size w w':=by
 cases hj:Pt.join [bs s] with
 | none =>
  have HJ:=Lib.hid hj
  have HE:Hid (zef (bs p) (bs s)=false):=Lib.hid (znd (by unfold zaq;rw[hj];rfl))
  clear hj
  go_enter Tryz.func58,Tryz.ntmps58
  go_wp2_with fail
  refine(RJoin_none w s hs HJ).mono ?_
  rintro e w1 ⟨rfl,B1⟩
  go_wp2_with fail
  refine(zfs _ p (by omega)).mono ?_
  rintro e w2 ⟨A,ga,ca,rfl,hA,oA,B2,lA⟩
  have hB2:=B1.trans (B2.mono B1.size)
  go_wp2_with fail
  refine(zfs _ s (by omega)).mono ?_
  rintro e w3 ⟨S,gb,cb,rfl,hS,oS,B3,lS⟩
  have hB3:=hB2.trans (B3.mono hB2.size)
  have HA:=Lib.hid hA
  have HS:=Lib.hid hS
  clear hA hS
  go_wp2_with fail
  go_ret
  exact⟨zao HE.out.symm,hB3⟩
 | some q =>
  have HJ:=Lib.hid hj
  by_cases hq:q=bs s
  ·subst hq
   have hqb:((str (bs s)).toList == s.toList)=true:=by rw[Lib.toList_data,Lib.toList_data,beq_iff_eq];rfl
   have hqn:((str (bs s)).toList != s.toList)=false:=by rw[bne,hqb];rfl
   have hip:Hid (zaq (bs s)=true):=Lib.hid (by unfold zaq;rw[hj];simp)
   clear hj
   go_enter Tryz.func58,Tryz.ntmps58
   go_wp2_with fail
   refine(zpu w s (bs s) hs HJ).mono ?_
   rintro e w1 ⟨rfl,B1⟩
   go_wp2_with fail
   refine(zfs _ p (by omega)).mono ?_
   rintro e w2 ⟨A,ga,ca,rfl,hA,oA,B2,lA⟩
   have hB2:=B1.trans (B2.mono B1.size)
   have HA:=Lib.hid hA
   have LA:=Lib.hid lA
   clear hA lA
   go_wp2_with fail
   refine(zfs _ s (by omega)).mono ?_
   rintro e w3 ⟨S,gb,cb,rfl,hS,oS,B3,lS⟩
   have hB3:=hB2.trans (B3.mono hB2.size)
   have HS:=Lib.hid hS
   have LS:=Lib.hid lS
   have oA2:=zae oA B3
   clear hS lS oA
   have hlenA:Hid ((Pt.pieces (bs p)).length=A.length):=Lib.hid (by rw[←HA.out,List.length_map])
   have hlenS:Hid ((Pt.pieces (bs s)).length=S.length):=Lib.hid (by rw[←HS.out,List.length_map])
   have hAsz:A.length≤1000000:=by
    have:=zbu (bs p)
    have h2:=zhw (Pt.pieces (bs p))
    rw[hlenA.out] at h2
    rw[zax] at this;omega
   have hSsz:S.length≤1000000:=by
    have:=zbu (bs s)
    have h2:=zhw (Pt.pieces (bs s))
    rw[hlenS.out] at h2
    rw[zax] at this;omega
   by_cases hl:A.length=S.length
   ·have hbe:((A.length:Int) == (S.length:Int))=true:=by rw[beq_iff_eq];omega
    have hbn:((A.length:Int) != (S.length:Int))=false:=by rw[bne,hbe];rfl
    have hl1:A.length≤S.length:=by omega
    have HE:Hid (zef (bs p) (bs s)=zbo (A.map bs) (S.map bs)):=Lib.hid (by rw[zuy hip.out (by rw[hlenA.out,hlenS.out,hl]),HA.out,HS.out])
    clear hl
    have oA3:=zue oA2 B1.size
    have oS3:=zue oS hB2.size
    clear oA2 oS
    go_wp2_with fail
    go_loopw [9] (fun i wr=>QRel w.heap.size w A S ga ca gb cb i wr) (fun i _=>A.length - (intOf i).toNat)
    case atStart=>exact⟨0,rfl,Nat.zero_le _,rfl,oA3,oS3,hB3⟩
    case round =>
     obtain⟨k,rfl,hk,hpart,o1,o2,hB⟩:=hrel
     by_cases hlt:k<A.length
     ·have hlt2:k<S.length:=by omega
      have c1:=zgt o1 hlt
      have c2:=zgt o2 hlt2
      have hst:=parts_step hlt hlt2
      have la:=LA.out _ (mem_get hlt)
      have lb:=LS.out _ (mem_get hlt2)
      rw[hpart] at hst
      generalize A[k]?.getD ByteArray.empty=a at *
      generalize S[k]?.getD ByteArray.empty=b at *
      have HST:=Lib.hid hst
      have hg1:=(o1.lt ga rfl).2
      have hg2:=(o2.lt gb rfl).2
      obtain⟨hv,HV⟩:∃ v,Hid ((hid (bs b) && !hid (bs a))=v):=⟨_,Lib.hid rfl⟩
      obtain⟨mv,HM⟩:∃ v,Hid (Gl.zei (bs a) (bs b)=v):=⟨_,Lib.hid rfl⟩
      have HPB:Hid (zif (bs a) (bs b)=(!hv && mv)):=Lib.hid (by unfold zif;rw[HV.out,HM.out])
      have hk0:(0:Int)≤(k:Int):=Int.natCast_nonneg _
      have hk1:(k:Int)<(A.length:Int):=by omega
      have hk2:(k:Int)<(S.length:Int):=by omega
      clear hst hpart
      go_upto_region 9 with (fail)
      go_cut [10] (fun v wx=>v=.bool hv∧wx=wr)
      case first =>
       by_cases h0:0<b.size
       ·by_cases h46:b[0]=46
        ·have hb:((b[0].toNat:Int) == 46)=true:=by rw[h46];rfl
         have hhb:hid (bs b)=true:=by rw[hid_at h0];exact decide_eq_true h46
         by_cases ha0:0<a.size
         ·have hae:a.toList.isEmpty=false:=by
           rw[Lib.toList_data]
           show (bs a).isEmpty=false
           cases hb:bs a with
           | nil=>have:=zax a;rw[hb] at this;simp at this;omega
           | cons=>rfl
          by_cases h46a:a[0]=46
          ·have hba:((a[0].toNat:Int) == 46)=true:=by rw[h46a];rfl
           have hban:((a[0].toNat:Int) != 46)=false:=by rw[bne,hba];rfl
           have HF:Hid (hv=false):=Lib.hid (by rw[←HV.out,hid_at ha0,decide_eq_true h46a,Bool.not_true,Bool.and_false])
           clear h46 h46a hhb
           go_wp2
           go_meet
           exact⟨by rw[HF.out],rfl⟩
          ·have hba:((a[0].toNat:Int) == 46)=false:=eq_false (b:=46) h46a
           have hban:((a[0].toNat:Int) != 46)=true:=by rw[bne,hba];rfl
           have HF:Hid (hv=true):=Lib.hid (by rw[←HV.out,hid_at ha0,decide_eq_false h46a,hhb];rfl)
           clear h46 h46a hhb
           go_wp2
           go_meet
           exact⟨by rw[HF.out],rfl⟩
         ·have hae:a.toList.isEmpty=true:=by
           rw[Lib.toList_data]
           show (bs a).isEmpty=true
           rw[show bs a=[] from List.length_eq_zero_iff.1 (by rw[zax];omega)];rfl
          have HF:Hid (hv=true):=Lib.hid (by rw[←HV.out,hid_no ha0,hhb];rfl)
          clear h46 hhb
          go_wp2
          go_meet
          exact⟨by rw[HF.out],rfl⟩
        ·have hb:((b[0].toNat:Int) == 46)=false:=eq_false (b:=46) h46
         have HF:Hid (hv=false):=Lib.hid (by rw[←HV.out,hid_at h0,decide_eq_false h46];rfl)
         clear h46
         go_wp2
         go_meet
         exact⟨by rw[HF.out],rfl⟩
       ·have HF:Hid (hv=false):=Lib.hid (by rw[←HV.out,hid_no h0];rfl)
        go_wp2
        go_meet
        exact⟨by rw[HF.out],rfl⟩
      case rest =>
       obtain⟨rfl,hwc⟩:=hcut
       subst hwc
       go_wp2
       go_region_held3 (fun w'=>w'.cell? ⟨ga,k,none⟩=some (.string a)∧w'.cell? ⟨gb,k,none⟩=some (.string b)) (first | go_keep | exact⟨(B4.cell (p:=⟨ga,k,none⟩) hg1).trans c1,(B4.cell (p:=⟨gb,k,none⟩) hg2).trans c2⟩)
        (first | (go_at_call 112;refine(RMatch_is _ a b mv HM (by omega) (by omega)).mono ?_;rintro e w4 ⟨rfl,B4⟩))
       have B4':Below wc.heap.size wc w4:=(Below.drew (Below.refl _ _)).trans B4
       have hB4:=hB.trans (B4'.mono hB.size)
       have o1':=zae o1 B4'
       have o2':=zae o2 B4'
       clear o1 o2 c1 c2
       cases hv with
       | true =>
        have HF:Hid (zbo (A.map bs) (S.map bs)=false):=Lib.hid (by rw[HST.out,HPB.out];rfl)
        go_wp2
        go_ret
        exact⟨zao (HE.out.trans HF.out).symm,hB4⟩
       | false =>
        cases mv with
        | false =>
         have HF:Hid (zbo (A.map bs) (S.map bs)=false):=Lib.hid (by rw[HST.out,HPB.out];rfl)
         go_wp2
         go_ret
         exact⟨zao (HE.out.trans HF.out).symm,hB4⟩
        | true =>
         have HN:Hid (zbo ((A.map bs).drop (k+1)) ((S.map bs).drop (k+1))=zbo (A.map bs) (S.map bs)):=Lib.hid (by rw[HST.out,HPB.out];rfl)
         go_wp2
         go_roundw
         case rel=>exact⟨k+1,by go_num,hlt,HN.out,o1',o2',hB4⟩
         case measure=>simp[intOf]<;>omega
     ·have HT:Hid (zbo (A.map bs) (S.map bs)=true):=Lib.hid (by rw[←hpart];exact parts_end (by omega))
      clear hpart
      go_wp2
      go_ret
      exact⟨zao (HE.out.trans HT.out).symm,hB⟩
   ·have hbe:((A.length:Int) == (S.length:Int))=false:=by rw[beq_eq_false_iff_ne];omega
    have hbn:((A.length:Int) != (S.length:Int))=true:=by rw[bne,hbe];rfl
    have HE:Hid (zef (bs p) (bs s)=false):=Lib.hid (zuk (by rw[hlenA.out,hlenS.out];exact hl))
    clear hl
    go_wp2_with fail
    go_ret
    exact⟨zao HE.out.symm,hB3⟩
  ·have HE:Hid (zef (bs p) (bs s)=false):=Lib.hid (znd (by unfold zaq;rw[hj];simpa using hq))
   have hqb:((str q).toList == s.toList)=false:=by rw[Lib.toList_data,Lib.toList_data,beq_eq_false_iff_ne];exact hq
   have hqn:((str q).toList != s.toList)=true:=by rw[bne,hqb];rfl
   clear hj hq
   go_enter Tryz.func58,Tryz.ntmps58
   go_wp2_with fail
   refine(zpu w s q hs HJ).mono ?_
   rintro e w1 ⟨rfl,B1⟩
   go_wp2_with fail
   refine(zfs _ p (by omega)).mono ?_
   rintro e w2 ⟨A,ga,ca,rfl,hA,oA,B2,lA⟩
   have hB2:=B1.trans (B2.mono B1.size)
   go_wp2_with fail
   refine(zfs _ s (by omega)).mono ?_
   rintro e w3 ⟨S,gb,cb,rfl,hS,oS,B3,lS⟩
   have hB3:=hB2.trans (B3.mono hB2.size)
   have HA:=Lib.hid hA
   have HS:=Lib.hid hS
   clear hA hS
   go_wp2_with fail
   go_ret
   exact⟨zao HE.out.symm,hB3⟩
end Gm
end Go.Proofs.YtgdpbnfgcabneaaGreatDoor

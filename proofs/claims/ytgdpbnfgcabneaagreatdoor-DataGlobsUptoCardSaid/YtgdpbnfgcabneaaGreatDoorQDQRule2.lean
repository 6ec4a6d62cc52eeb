/- Part of the proof. -/
import Derived.Test.YtgdpbnfgcabneaaGreatDoorQDQStart
import Derived.Test.YtgdpbnfgcabneaaGreatDoorQMRec
set_option maxRecDepth 100000
set_option maxHeartbeats 40000000
namespace Go.Proofs.YtgdpbnfgcabneaaGreatDoor
namespace Dq
open Go.RowKit Go.Maps Ww Tw Kw Jw Xb Xw Dz
abbrev LsT:TypeId:=347
def lC (rb:Nat) (t:ByteArray) (wv fv:Value) (sp md:Bool):Array Value:=#[.pointer (some ⟨rb,0,none⟩),.string t,wv,fv,.bool sp,.bool md]
theorem zel {w:World} {B:Nat} {e:TypeId} {z:Nat} {v:Value} {n:Nat} {xs:List Value} (h:w.ownsRow B e z v n xs):∃ a k c,v=.slice a k c:=by
 rcases h.2 with ⟨h,_⟩ | ⟨g,cap,_,h,_⟩
 ·exact⟨_,_,_,h⟩
 ·exact⟨_,_,_,h⟩
section
variable {rb db tb ib kb:Nat} {au gv:Value} {w:World}
theorem zou (hr:w.heap[rb]?=some (.cells (rC db tb au gv ib kb) RT (0,0))) (lb:Nat) (s:Bs) (hl:w.heap[lb]?=some (.cells (lC rb (str s) (.slice none 0 0) (.slice none 0 0) false false) LsT (0,0))) (h0:(36:UInt8)∉s) (hs:s.length≤1000) :
  Calls Tryz.prog 251 #[.pointer (some ⟨lb,0,none⟩)] w fun e w'=>∃ v,e=.returned v∧w'.heap[lb]?=some (.cells (lC rb (str s) v (.slice none 0 0) true false) LsT (0,0))∧w'.ownsRow w.heap.size ST 1 v (zbg (str s)).length (zbb (zbg (str s)))∧Kept [lb] w w':=by
 have HW:=Lib.hid (zoj (w:=w.drew) hr s h0 hs)
 have c0:w.cell? ⟨lb,0,none⟩=some (.pointer (some ⟨rb,0,none⟩)):=zaa hl rfl
 have c1:w.cell? ⟨lb,1,none⟩=some (.string (str s)):=zaa hl rfl
 have c4:w.cell? ⟨lb,4,none⟩=some (.bool false):=zaa hl rfl
 have hlt:=(Array.getElem?_eq_some_iff.1 hl).1
 have HL:=Lib.hid hl
 clear hl hr
 go_enter Tryz.func251,Tryz.ntmps251
 go_wp2_with fail
 go_region_with (go_at_call 176;refine HW.out.mono ?_;rintro e w1 ⟨v,rfl,B1,ho⟩;have hl1:=(B1.block lb (show lb<w.drew.heap.size from hlt)).trans HL.out;have HL1:=Lib.hid hl1;have HO1:=Lib.hid ho;have HB1:=Lib.hid B1;have hlt1:=(Array.getElem?_eq_some_iff.1 hl1).1;have f2:=zad hl1 2;have f4:=zad hl1 4;have k2:w1.cell? ⟨lb,2,none⟩=some (.slice none 0 0):=zaa hl1 rfl;have k4:w1.cell? ⟨lb,4,none⟩=some (.bool false):=zaa hl1 rfl;obtain⟨av,nv,cv,rfl⟩:=zel ho;clear hl1 ho B1 HW c0 c1 c4)
 all_goals (
  go_wp2_with fail
  go_ret
  have B1:Below w.heap.size w w1:=((Below.refl _ w).drew).trans HB1.out
  have hk:=((Kept.of_below (X:=[lb]) B1).setCell (p:=⟨lb,2,none⟩) (.inl (by simp)) (.slice av nv cv)).setCell (p:=⟨lb,4,none⟩) (.inl (by simp)) (.bool true)
  refine⟨_,rfl,heap_set (i:=4) (heap_set (i:=2) HL1.out (.slice av nv cv)) (.bool true),?_,hk⟩
  refine Mw.zbk HO1.out fun g' hg'=>?_
  have hge:w.heap.size≤g':=by
   rcases HO1.out.2 with ⟨h,_⟩ | ⟨g,_,_,h,hb,_⟩
   ·rw[h] at hg';cases hg'
   ·rw[h] at hg';cases hg';exact hb
  exact(Below.heap_setCell _ _ _ _ (by show g'≠lb;omega)).trans (Below.heap_setCell _ _ _ _ (by show g'≠lb;omega)))
theorem zwv (hr:w.heap[rb]?=some (.cells (rC db tb au gv ib kb) RT (0,0))) (lb:Nat) (s:Bs) (hl:w.heap[lb]?=some (.cells (lC rb (str s) (.slice none 0 0) (.slice none 0 0) false false) LsT (0,0))) (h0:(36:UInt8)∉s) (hs:s.length≤1000) (hw:zbg (str s)=[]) :
  Calls Tryz.prog 253 #[.pointer (some ⟨lb,0,none⟩)] w fun e w'=>e=.returned (.slice none 0 0)∧Kept [lb] w w':=by
 have HW:=Lib.hid (zou hr lb s hl h0 hs)
 rw[hw] at HW
 have c5:w.cell? ⟨lb,5,none⟩=some (.bool false):=zaa hl rfl
 have hlt:=(Array.getElem?_eq_some_iff.1 hl).1
 clear hl hr
 go_enter Tryz.func253,Tryz.ntmps253
 go_wp2_with fail
 refine HW.out.mono ?_
 rintro e w1 ⟨v,rfl,hl1,ho,hk1⟩
 obtain⟨av,cv,rfl⟩:∃ a c,v=.slice a 0 c:=by
  rcases ho.2 with ⟨h,_⟩ | ⟨g,cap,_,h,_⟩
  ·exact⟨_,_,h⟩
  ·exact⟨_,_,h⟩
 have HL1:=Lib.hid hl1
 have HK1:=Lib.hid hk1
 have hlt1:=(Array.getElem?_eq_some_iff.1 hl1).1
 have f5:=zad hl1 5
 have k5:w1.cell? ⟨lb,5,none⟩=some (.bool false):=zaa hl1 rfl
 have k3:w1.cell? ⟨lb,3,none⟩=some (.slice none 0 0):=zaa hl1 rfl
 clear hl1 hk1 ho HW c5
 go_wp2_with fail
 refine wp_loop_rounds 1 ?_
 rw[rounds_succ]
 go_wp2_with fail
 go_ret
 exact⟨rfl,HK1.out.setCell (p:=⟨lb,5,none⟩) (.inl (by simp)) _⟩
theorem infoFi:(Tryz.prog.info? FiT).map (fun i=>(i.zero,i.size,i.bytes))=some (some (.agg #[.string ⟨#[]⟩,.string ⟨#[]⟩]),2,32):=by kernel_rfl
theorem zni {x:ByteArray} {w:World} {B:Nat} {v:Value} (h:w.ownsRow B ST 1 v [x].length (zbb [x])):∃ g c,v=.slice (some ⟨g,0,none⟩) 1 c∧g<w.heap.size∧w.cell? ⟨g,0,none⟩=some (.string x)∧B≤g:=by
 rcases h.2 with ⟨_,h0⟩ | ⟨g,cap,cur,hv,hb,hg,_⟩
 ·cases h0
 ·subst hv
  refine⟨g,cap,rfl,(Array.getElem?_eq_some_iff.1 hg).1,?_,hb⟩
  have:=h.cells (g:=g) rfl 0 (.string x) rfl
  rwa[Addr.add_lit] at this
theorem zwk (hr:w.heap[rb]?=some (.cells (rC db tb au gv ib kb) RT (0,0))) {dir:ByteArray} {tv pv cv gl:Value} (hd:w.heap[db]?=some (.cells (dC dir tb tv pv cv gl) DT (0,0))) (x:ByteArray) (p:List UInt8) (hsz:dir.size≤1000000∧x.size≤1000000) (h:Hid (Pt.join [bs dir,bs x]=some p))
  (lb:Nat) (s:Bs) (hl:w.heap[lb]?=some (.cells (lC rb (str s) (.slice none 0 0) (.slice none 0 0) false false) LsT (0,0))) (h0:(36:UInt8)∉s) (hs:s.length≤1000) (hw:zbg (str s)=[x]) :
  Calls Tryz.prog 253 #[.pointer (some ⟨lb,0,none⟩)] w fun e w'=>∃ v,e=.returned v∧w'.ownsRow w.heap.size FiT 2 v 1 [.string (str p),.string x]∧Kept [lb] w w':=by
 have HW:=Lib.hid (zou hr lb s hl h0 hs)
 rw[hw] at HW
 have hnr:rb≠lb:=fun e=>by subst e;rw[hl] at hr;injection hr with h1;injection h1 with h2 h3;revert h3;decide
 have hnd:db≠lb:=fun e=>by subst e;rw[hl] at hd;injection hd with h1;injection h1 with h2 h3;revert h3;decide
 have HFi:=Lib.hid fun (W:World) (h1:W.heap[rb]?=some (.cells (rC db tb au gv ib kb) RT (0,0))) (h2:W.heap[db]?=some (.cells (dC dir tb tv pv cv gl) DT (0,0)))=>file_yes h1 h2 x p hsz h
 have c5:w.cell? ⟨lb,5,none⟩=some (.bool false):=zaa hl rfl
 have hlt:=(Array.getElem?_eq_some_iff.1 hl).1
 have hltr:=(Array.getElem?_eq_some_iff.1 hr).1
 have hltd:=(Array.getElem?_eq_some_iff.1 hd).1
 have HR:=Lib.hid hr
 have HD:=Lib.hid hd
 clear hl hr hd h hsz
 go_enter Tryz.func253,Tryz.ntmps253
 go_wp2_with fail
 refine HW.out.mono ?_
 rintro e w1 ⟨v,rfl,hl1,ho,hk1⟩
 obtain⟨gx,cx,rfl,hgx,kx,hge⟩:=zni ho
 have HR1:=Lib.hid ((hk1.block rb hltr (by simpa using hnr)).trans HR.out)
 have HD1:=Lib.hid ((hk1.block db hltd (by simpa using hnd)).trans HD.out)
 have HL1:=Lib.hid hl1
 have HK1:=Lib.hid hk1
 have hlt1:=(Array.getElem?_eq_some_iff.1 hl1).1
 have f3:=zad hl1 3
 have k3:w1.cell? ⟨lb,3,none⟩=some (.slice none 0 0):=zaa hl1 rfl
 have k0:w1.cell? ⟨lb,0,none⟩=some (.pointer (some ⟨rb,0,none⟩)):=zaa hl1 rfl
 clear hl1 hk1 ho HW c5
 go_wp2_with fail
 refine wp_loop_rounds 2 ?_
 rw[rounds_succ]
 go_wp2_with fail
 obtain⟨i0,hi,hz0,hz1,hz2⟩:=info_parts infoFi
 have hT0:(fun (b:Bool) (W:World)=>W.cell? ⟨lb,0,none⟩=some (.pointer (some ⟨rb,0,none⟩))∧(b=false→W.cell? ⟨lb,3,none⟩=some (.slice none 0 0))) false w1.drew:=⟨k0,fun _=>k3⟩
 refine zew 15 (fun (b:Bool) (W:World)=>W.cell? ⟨lb,0,none⟩=some (.pointer (some ⟨rb,0,none⟩))∧(b=false→W.cell? ⟨lb,3,none⟩=some (.slice none 0 0))) (by kernel_rfl) ?_
 refine zaj (i:=0) [0,15] (v:=.pointer (some ⟨lb,0,none⟩)) (by rfl) rfl (by rfl) (by kernel_rfl) (by kernel_rfl) (by kernel_rfl) (by kernel_rfl) (by kernel_rfl) (fun c a w h=>h) (Or.inl ⟨by rfl,?_⟩) hT0 ?_
 ·rintro W hW;have h1:=hW.1;have h2:=hW.2 rfl;go_simp
 simp only [Act.put,List.setIfInBounds_toArray]
 refine zaj (i:=1) [1,15] (v:=.pointer (some ⟨lb,0,none⟩)) (by rfl) rfl (by rfl) (by kernel_rfl) (by kernel_rfl) (by kernel_rfl) (by kernel_rfl) (by kernel_rfl) (fun c a w h=>h) (Or.inl ⟨by rfl,?_⟩) hT0 ?_
 ·rintro W hW;have h1:=hW.1;have h2:=hW.2 rfl;go_simp
 simp only [Act.put]
 refine zaj (i:=2) [2,15] (v:=.pointer (some ⟨lb,0,none⟩)) (by rfl) rfl (by rfl) (by kernel_rfl) (by kernel_rfl) (by kernel_rfl) (by kernel_rfl) (by kernel_rfl) (fun c a w h=>h) (Or.inl ⟨by rfl,?_⟩) hT0 ?_
 ·rintro W hW;have h1:=hW.1;have h2:=hW.2 rfl;go_simp
 simp only [Act.put]
 refine zaj (i:=3) [3,15] (v:=.pointer (some ⟨lb,3,none⟩)) (by rfl) rfl (by rfl) (by kernel_rfl) (by kernel_rfl) (by kernel_rfl) (by kernel_rfl) (by kernel_rfl) (fun c a w h=>h) (Or.inl ⟨by rfl,?_⟩) hT0 ?_
 ·rintro W hW;have h1:=hW.1;have h2:=hW.2 rfl;go_simp
 simp only [Act.put]
 refine zaj (i:=4) [4,15] (v:=.slice none 0 0) (by rfl) rfl (by rfl) (by kernel_rfl) (by kernel_rfl) (by kernel_rfl) (by kernel_rfl) (by kernel_rfl) (fun c a w h=>h) (Or.inl ⟨by rfl,?_⟩) hT0 ?_
 ·rintro W hW;have h1:=hW.1;have h2:=hW.2 rfl;go_simp
 simp only [Act.put]
 refine zaj (i:=5) [5,15] (v:=.pointer (some ⟨lb,0,none⟩)) (by rfl) rfl (by rfl) (by kernel_rfl) (by kernel_rfl) (by kernel_rfl) (by kernel_rfl) (by kernel_rfl) (fun c a w h=>h) (Or.inl ⟨by rfl,?_⟩) hT0 ?_
 ·rintro W hW;have h1:=hW.1;have h2:=hW.2 rfl;go_simp
 simp only [Act.put]
 refine zaj (i:=6) [6,15] (v:=.pointer (some ⟨lb,0,none⟩)) (by rfl) rfl (by rfl) (by kernel_rfl) (by kernel_rfl) (by kernel_rfl) (by kernel_rfl) (by kernel_rfl) (fun c a w h=>h) (Or.inl ⟨by rfl,?_⟩) hT0 ?_
 ·rintro W hW;have h1:=hW.1;have h2:=hW.2 rfl;go_simp
 simp only [Act.put]
 refine zaj (i:=7) [7,15] (v:=.pointer (some ⟨lb,0,none⟩)) (by rfl) rfl (by rfl) (by kernel_rfl) (by kernel_rfl) (by kernel_rfl) (by kernel_rfl) (by kernel_rfl) (fun c a w h=>h) (Or.inl ⟨by rfl,?_⟩) hT0 ?_
 ·rintro W hW;have h1:=hW.1;have h2:=hW.2 rfl;go_simp
 simp only [Act.put]
 refine zaj (i:=8) [8,15] (v:=.pointer (some ⟨rb,0,none⟩)) (by rfl) rfl (by rfl) (by kernel_rfl) (by kernel_rfl) (by kernel_rfl) (by kernel_rfl) (by kernel_rfl) (fun c a w h=>h) (Or.inl ⟨by rfl,?_⟩) hT0 ?_
 ·rintro W hW;have h1:=hW.1;have h2:=hW.2 rfl;go_simp
 simp only [Act.put]
 refine zaj (i:=9) [9,15] (v:=.string x) (by rfl) rfl (by rfl) (by kernel_rfl) (by kernel_rfl) (by kernel_rfl) (by kernel_rfl) (by kernel_rfl) (fun c a w h=>h) (Or.inl ⟨by rfl,?_⟩) hT0 ?_
 ·rintro W hW;have h1:=hW.1;have h2:=hW.2 rfl;go_simp
 simp only [Act.put]
 refine zbe (i:=10) (by kernel_rfl) rfl false (by rfl) (fun K hK=>?_)
 go_simp
 refine(HFi.out w1.drew HR1.out HD1.out).mono ?_
 rintro e w2 ⟨rfl,B2⟩
 have hl2:=(B2.block lb (show lb<w1.drew.heap.size from hlt1)).trans HL1.out
 have HL2:=Lib.hid hl2
 have HB2:=Lib.hid B2
 dsimp only
 refine hK.out _ _ ⟨zaa hl2 rfl,fun _=>zaa hl2 rfl⟩ ?_
 clear hK K B2 hl2
 refine zbe (i:=11) (by kernel_rfl) rfl false (by rfl) (fun K hK=>?_)
 go_simp
 have hl2a:=zaf HL2.out (.cells #[.string (str p),.string x] FiT)
 refine hK.out _ _ ⟨zaa hl2a rfl,fun _=>zaa hl2a rfl⟩ ?_
 clear hK K hl2a
 refine zbe (i:=12) (by kernel_rfl) rfl false (by rfl) (fun K hK=>?_)
 refine Mw.zdh rfl _ _ 86 rfl w.heap.size FiT i0 _ 2 32 Tryz.underlying86 hi hz0 hz1 hz2 rfl (by decide) (.slice none 0 0) 0 [] (by simp[go_sem]) (World.ownsRow_nil _ _ _ _) ⟨w2.heap.size,0,none⟩ 1 1 [.string (str p),.string x] (by simp[go_sem]) rfl (zbv _ #[.string (str p),.string x] _ rfl) (by simp[Value.oneCell']) (by unfold maxLen;omega) (by omega) (by have:=HK1.out.size;have:=HB2.out.size;have e:w1.drew.heap.size=w1.heap.size:=rfl;simp;omega) ?_
 intro v3 w3 hown hgrow hat
 obtain⟨a3,n3,c3,rfl⟩:=zel hown
 have hl3:=(hgrow.block lb (by have:=HB2.out.size;have e:w1.drew.heap.size=w1.heap.size:=rfl;simp;omega) (fun e=>by cases e)).trans (zaf HL2.out _)
 have HL3:=Lib.hid hl3
 have HO3:=Lib.hid hown
 have HG3:=Lib.hid hgrow
 refine hK.out _ _ ⟨zaa hl3 rfl,fun _=>zaa hl3 rfl⟩ ?_
 clear hK K hown hgrow hat hl3
 refine zbe (i:=13) (by kernel_rfl) rfl false (by rfl) (fun K hK=>?_)
 go_simp
 refine hK.out _ _ ⟨zaa HL3.out rfl,fun _=>zaa HL3.out rfl⟩ ?_
 clear hK K
 refine zbe (i:=14) (by kernel_rfl) rfl false (by rfl) (fun K hK=>?_)
 go_simp
 refine hK.out _ _ ⟨zaa HL3.out rfl,fun _=>zaa HL3.out rfl⟩ ?_
 clear hK K
 refine zbe (i:=15) (by kernel_rfl) rfl true (by rfl) (fun K hK=>?_)
 have k33:w3.cell? ⟨lb,3,none⟩=some (.slice none 0 0):=zaa HL3.out rfl
 have f33:=zad HL3.out 3
 have l33:=(Array.getElem?_eq_some_iff.1 HL3.out).1
 go_simp
 have hl4:=heap_set (i:=3) HL3.out (.slice a3 n3 c3)
 refine hK.out _ _ ⟨zaa hl4 rfl,fun h=>by cases h⟩ ?_
 clear hK K
 refine zet (by kernel_rfl) ?_ _
 have hk3:Kept [lb] w w3:=(((HK1.out.drewN 1).below HB2.out).alloc _).grown HG3.out (fun r e=>by cases e)
 have HK4:=Lib.hid (hk3.setCell (p:=⟨lb,3,none⟩) (.inl (by simp)) (.slice a3 n3 c3))
 have ho4:(w3.setCell ⟨lb,3,none⟩ (.slice a3 n3 c3)).ownsRow w.heap.size FiT 2 (.slice a3 n3 c3) 1 [.string (str p),.string x]:=Mw.zbk HO3.out fun g' hg'=>Below.heap_setCell _ _ _ _ (by
  show g'≠lb
  have hge':w.heap.size≤g':=by
   rcases HO3.out.2 with ⟨h,_⟩ | ⟨g,_,_,h,hb,_⟩
   ·rw[h] at hg';cases hg'
   ·rw[h] at hg';cases hg';exact hb
  have:lb<w.heap.size:=hlt
  omega)
 have HO4:=Lib.hid ho4
 have HL4:=Lib.hid hl4
 clear k33 f33 l33 hl4 ho4 hk3
 have k5:(w3.setCell ⟨lb,3,none⟩ (.slice a3 n3 c3)).cell? ⟨lb,5,none⟩=some (.bool false):=zaa HL4.out rfl
 have f5:=zad HL4.out 5
 have l5:=(Array.getElem?_eq_some_iff.1 HL4.out).1
 have k35:(w3.setCell ⟨lb,3,none⟩ (.slice a3 n3 c3)).cell? ⟨lb,3,none⟩=some (.slice a3 n3 c3):=zaa HL4.out rfl
 generalize w3.setCell ⟨lb,3,none⟩ (.slice a3 n3 c3)=w4 at *
 clear k0 k3 kx
 go_wp2_with fail
 rw[rounds_succ]
 go_wp2_with fail
 go_ret
 refine⟨_,rfl,?_,HK4.out.setCell (p:=⟨lb,5,none⟩) (.inl (by simp)) _⟩
 exact Mw.zbk HO4.out fun g' hg'=>Below.heap_setCell _ _ _ _ (by
  show g'≠lb
  have hge':w.heap.size≤g':=by
   rcases HO4.out.2 with ⟨h,_⟩ | ⟨g,_,_,h,hb,_⟩
   ·rw[h] at hg';cases hg'
   ·rw[h] at hg';cases hg';exact hb
  have:lb<w.heap.size:=hlt
  omega)
end
abbrev GT:TypeId:=125
theorem Clip_any (w:World) (a:Option Addr) (n c:Nat) (h:n≤c):Calls Tryz.prog 130 #[.slice a n c] w fun e w'=>e=.returned (.slice a n n)∧w'=w:=by
 go_enter Tryz.func130,Tryz.ntmps130
 go_wp2_with fail
 go_ret
 exact⟨rfl,rfl⟩
theorem join_none (w:World) (a:Option Addr) (n c:Nat) (h:n≤c):Calls Tryz.prog 379 #[.slice none 0 0,.slice a n c] w fun e w'=>e=.returned (.slice a n n)∧w'=w:=by
 go_enter Tryz.func379,Tryz.ntmps379
 go_wp2_with fail
 refine(Clip_any w a n c h).mono ?_
 rintro e w2 ⟨rfl,rfl⟩
 go_wp2_with fail
 go_ret
 exact⟨rfl,rfl⟩
def ruC (ln:Int) (t n o:ByteArray) (ra:Option Addr) (rc:Nat):Array Value:=#[.int .i64 1,.int .i64 ln,.string ⟨#[]⟩,.string ⟨#[]⟩,.string ⟨#[]⟩,.bool false,.bool false,.string t,.string n,.string o,.slice ra 0 rc]
structure One (w:World) (lo g c:Nat) (xs:List Value):Prop where
 lo:lo≤g
 row:∃ cur,w.heap[g]?=some (.cells cur GT (0,0))∧cur.size=c * 7∧cur.toList.take 7=xs
 c1:1≤c
 cm:c≤9223372036854775807
theorem One.of {w:World} {lo:Nat} {v:Value} {xs:List Value} (h:w.ownsRow lo GT 7 v 1 xs):∃ g c,v=.slice (some ⟨g,0,none⟩) 1 c∧One w lo g c xs:=by
 rcases h.2 with ⟨_,h0⟩ | ⟨g,cap,cur,hv,hb,hg,h1,h2,h3,h4⟩
 ·cases h0
 ·exact⟨g,cap,hv,hb,⟨cur,hg,h3,h4⟩,h1,h2⟩
theorem One.cell {w:World} {lo g c:Nat} {xs:List Value} (h:One w lo g c xs) {i:Nat} {u:Value} (hi:i<7) (hu:xs[i]?=some u):w.cell? ⟨g,i,none⟩=some u:=by
 obtain⟨cur,h1,h2,h3⟩:=h.row
 refine zaa h1 ?_
 rw[←h3,List.getElem?_take_of_lt hi] at hu
 rw[←hu];simp
theorem One.frozen {w:World} {lo g c:Nat} {xs:List Value} (h:One w lo g c xs) (i:Nat):w.frozen? ⟨g,i,none⟩=false:=by
 obtain⟨cur,h1,h2,h3⟩:=h.row
 exact zad h1 i
theorem One.lt {w:World} {lo g c:Nat} {xs:List Value} (h:One w lo g c xs):g<w.heap.size:=by
 obtain⟨cur,h1,h2,h3⟩:=h.row
 exact(Array.getElem?_eq_some_iff.1 h1).1
theorem One.block {w w':World} {lo g c:Nat} {xs:List Value} (h:One w lo g c xs) (hb:w'.heap[g]?=w.heap[g]?):One w' lo g c xs:=by
 obtain⟨cur,h1,h2,h3⟩:=h.row
 exact⟨h.lo,⟨cur,hb.trans h1,h2,h3⟩,h.c1,h.cm⟩
theorem One.set {w:World} {lo g c:Nat} {xs:List Value} (h:One w lo g c xs) (i:Nat) (v:Value):One (w.setCell ⟨g,i,none⟩ v) lo g c (xs.set i v):=by
 obtain⟨cur,h1,h2,h3⟩:=h.row
 refine⟨h.lo,⟨cur.setIfInBounds i v,heap_set (i:=i) h1 v,by simpa using h2,?_⟩,h.c1,h.cm⟩
 rw[Array.toList_setIfInBounds,List.take_set,h3]
theorem zvx {W:World} {b:Nat} (h:b<W.heap.size) (o:Obj):(W.alloc o).drew.heap[b]?=W.heap[b]?:=(((Below.refl _ W).alloc (Nat.le_refl _) o).block b h)
theorem extend_new (w:World) (g:Nat) (a a':Option Addr) (n c n' c':Nat) (ln:Int) (t nd o:ByteArray) (ra:Option Addr) (rc:Nat) (c2:w.cell? ⟨g,2,none⟩=some (.slice none 0 0)) (c3:w.cell? ⟨g,3,none⟩=some (.slice none 0 0)) (hf:∀ j,w.frozen? ⟨g,j,none⟩=false) (hg:g<w.heap.size)
  (h:n≤c) (h':n'≤c') :
  Calls Tryz.prog 306 #[.pointer (some ⟨g,0,none⟩),.slice a n c,.slice a' n' c',.agg (ruC ln t nd o ra rc)] w fun e w'=>e=.returned (.tuple #[])∧(∀ lo cp xs,One w lo g cp xs→One w' lo g cp ((xs.set 2 (.slice a n n)).set 3 (.slice a' n' n')))∧Kept [g] w w':=by
 have f2:=hf 2
 have f3:=hf 3
 have HJ:=Lib.hid fun W a n c h=>join_none W a n c h
 clear hf
 unfold ruC
 go_enter Tryz.func306,Tryz.ntmps306
 go_wp2_with fail
 go_region_with (go_at_call 379;refine(HJ.out _ _ _ _ (by assumption)).mono ?_;rintro e w2 ⟨rfl,rfl⟩)
 all_goals (
  go_wp2_with fail
  refine bodyPost_ret (results_none rfl _ _ _) rfl ?_
  refine⟨rfl,fun lo cp xs h1=>((h1.set 2 _).set 3 _).block (zvx (by simpa[World.setCell] using hg) _),((((Kept.refl [g] w).setCell (p:=⟨g,2,none⟩) (.inl (by simp)) _).setCell (p:=⟨g,3,none⟩) (.inl (by simp)) _).alloc _).drewN 1⟩)
theorem infoG:(Tryz.prog.info? GT).map (fun i=>(i.zero,i.size,i.bytes))=some (some (.agg #[.string ⟨#[]⟩,.string ⟨#[]⟩,.slice none 0 0,.slice none 0 0,.slice none 0 0,.int .i64 0,.bool false]),7,120):=by kernel_rfl
def gC (p x:ByteArray):List Value:=[.string p,.string x,.slice none 0 0,.slice none 0 0,.slice none 0 0,.int .i64 0,.bool false]
theorem put_run {α:Type} {K:Kind α} {w:World} {bm:Nat} {L:List (Bs×α)} {p:Bs} {c:α} (hM:Kw.MapAt K w bm L) (hp:p.length≤maxLen) (hn:L.length<maxLen) :
  ∃ w',(Instr.mapUpdate K.mt (.map (some bm)) (.string (str p)) (K.val c)).run Tryz.prog w=.ok () w'∧Kw.MapAt K w' bm (Kp.ins L (p,c))∧w.mapTurned w' bm:=by
 obtain⟨w',hrun,r1,r2⟩:=hM.own.store (val:=K.val c) (d:=K.enc c) (ps:=[]) key K.und hn (zfd (p:=str p) (by show p.toArray.size≤_;rw[List.size_toArray];exact hp)) (K.elem_mk c)
 rw[show by8 (str p)=p from rfl,Kp.zfp K.enc (f:=(p,c)) hM.sorted] at r1
 exact⟨w',hrun,Kw.MapAt.of_own r1 (Kp.zby hM.sorted),r2⟩
section
variable {rb db tb ib kb:Nat} {au gv:Value} {w:World}
theorem target_new (hr:w.heap[rb]?=some (.cells (rC db tb au gv ib kb) RT (0,0))) {dir:ByteArray} {pv cv gl:Value} (hd:w.heap[db]?=some (.cells (dC dir tb (.slice none 0 0) pv cv gl) DT (0,0))) (hI:Kw.MapAt IK w ib []) (p:Bs) (x:ByteArray) (hp:p.length≤1000000) :
  Calls Tryz.prog 304 #[.pointer (some ⟨rb,0,none⟩),.agg #[.string (str p),.string x]] w fun e w'=>∃ g c,e=.returned (.pointer (some ⟨g,0,none⟩))∧w'.heap[db]?=some (.cells (dC dir tb (.slice (some ⟨g,0,none⟩) 1 c) pv cv gl) DT (0,0))∧One w' w.heap.size g c (gC (str p) x)∧Kept [db,ib] w w':=by
 have hrl:=(Array.getElem?_eq_some_iff.1 hr).1
 have hdl:=(Array.getElem?_eq_some_iff.1 hd).1
 have hsz:(str p).size≤maxLen:=by show p.toArray.size≤_;rw[List.size_toArray];unfold maxLen;omega
 have nir:ib≠rb:=hI.not_cells hr
 have hib:ib<w.heap.size:=hI.lt
 have nid:ib≠db:=hI.not_cells hd
 have B0:=(Below.refl w.heap.size w).alloc (Nat.le_refl _) (.cells #[.string (str p),.string x] FiT)
 have hx0:=zah w (.cells #[.string (str p),.string x] FiT)
 have hr0:=(B0.block _ hrl).trans hr
 have hd0:=(B0.block _ hdl).trans hd
 have hI0:Kw.MapAt IK (w.alloc (.cells #[.string (str p),.string x] FiT)) ib []:=hI.below B0
 have hs0:(w.alloc (.cells #[.string (str p),.string x] FiT)).heap.size=w.heap.size+1:=by simp
 have HS0:=Lib.hid hs0
 clear hr hd hI hs0
 go_enter Tryz.func304,Tryz.ntmps304
 go_upto_region 1 with (fail)
 generalize w.alloc (.cells #[.string (str p),.string x] FiT)=w0 at *
 have hL:(Instr.lookup 142 (.map (some ib)) (.string (str p)) true).run Tryz.prog w0.drew=.ok (.tuple #[.int .i64 0,.bool false]) w0.drew:=(Kw.MOpt.run_look (K:=IK) (w:=w0.drew) (m:=some ib) (hI0.block (w':=w0.drew) rfl) hsz).1
 have z0:=zaa (i:=0) hx0 rfl
 have z1:=zaa (i:=1) hx0 rfl
 have c4:w0.cell? ⟨rb,4,none⟩=some (.map (some ib)):=zaa hr0 rfl
 have c0:w0.cell? ⟨rb,0,none⟩=some (.pointer (some ⟨db,0,none⟩)):=zaa hr0 rfl
 have d2:w0.cell? ⟨db,2,none⟩=some (.slice none 0 0):=zaa hd0 rfl
 have l1:=(Array.getElem?_eq_some_iff.1 hr0).1
 have l2:=(Array.getElem?_eq_some_iff.1 hd0).1
 have l3:=(Array.getElem?_eq_some_iff.1 hx0).1
 have HR:=Lib.hid hr0
 have HD:=Lib.hid hd0
 have HX:=Lib.hid hx0
 have HI:=Lib.hid hI0
 have HB:=Lib.hid B0
 have HIW:=Lib.hid hib
 clear hr0 hd0 hx0 hI0 B0
 go_region
 all_goals (
  go_wp2_with fail
  obtain⟨w2,hrun,hM2,ht2⟩:=put_run (K:=IK) (w:=w0.drew.drew) (p:=p) (c:=0) (HI.out.block (w':=w0.drew.drew) rfl) (by unfold maxLen;omega) (by decide)
  replace hrun:(Instr.mapUpdate 142 (.map (some ib)) (.string (str p)) (.int .i64 0)).run Tryz.prog w0.drew.drew=.ok () w2:=hrun
  clear hL
  go_region
  all_goals (
   have hk2:Kept [ib] w0 w2:=(((Kept.refl [ib] w0).drewN 1).drewN 1).grown ht2.grown (fun r e=>by cases e;exact .inl (by simp))
   have hr2:=(hk2.block rb l1 (by simpa using fun e=>nir e.symm)).trans HR.out
   have hd2:=(hk2.block db l2 (by simpa using fun e=>nid e.symm)).trans HD.out
   have hx2:=(hk2.block w.heap.size l3 (by simpa using fun e=>by have:=HIW.out;omega)).trans HX.out
   have HK2:=Lib.hid hk2
   clear hrun hM2 ht2 z0 z1 c4 c0 d2 l1 l2 l3 hk2
   have z0:=zaa (i:=0) hx2 rfl
   have z1:=zaa (i:=1) hx2 rfl
   have c0:w2.cell? ⟨rb,0,none⟩=some (.pointer (some ⟨db,0,none⟩)):=zaa hr2 rfl
   have d2:w2.cell? ⟨db,2,none⟩=some (.slice none 0 0):=zaa hd2 rfl
   have e2:=zad hd2 2
   have l1:=(Array.getElem?_eq_some_iff.1 hr2).1
   have l2:=(Array.getElem?_eq_some_iff.1 hd2).1
   have l3:=(Array.getElem?_eq_some_iff.1 hx2).1
   have HD2:=Lib.hid hd2
   have HR2:=Lib.hid hr2
   clear hr2 hd2 hx2
   have HNE:=Lib.hid (show rb≠db from fun e=>by subst e;have h1:=HR2.out;rw[HD2.out] at h1;injection h1 with h1;injection h1 with h2 h3;revert h3;decide)
   obtain⟨i0,hi,hz0,hz1,hz2⟩:=info_parts infoG
   have HKW:=Lib.hid (show Kept [db,ib] w w2 from (Kept.of_below HB.out).trans (HK2.out.mono (by simp)))
   go_wp2_with fail
   go_region_law (refine Mw.zdh rfl _ _ 66 rfl w.heap.size GT i0 _ 7 120 Tryz.underlying66 hi hz0 hz1 hz2 rfl (by decide) (.slice none 0 0) 0 [] (by simp[go_sem]) (World.ownsRow_nil _ _ _ _) ⟨w2.heap.size,0,none⟩ 1 1 (gC (str p) x) (by simp[go_sem]) rfl (zbv _ (gC (str p) x).toArray _ rfl) (by simp[gC,Value.oneCell']) (by unfold maxLen;omega) (by omega) (by have:=HKW.out.size;simp;omega) ?_;intro v1 w3 hown hgrow hat;obtain⟨g,cg,rfl,hone⟩:=One.of hown;have hr3:=(hgrow.block rb (by simp;omega) (fun e=>by cases e)).trans (zaf (W:=w2.drew) HR2.out _);have hd3:=(hgrow.block db (by simp;omega) (fun e=>by cases e)).trans (zaf (W:=w2.drew) HD2.out _);have k3:w3.cell? ⟨db,2,none⟩=some (.slice none 0 0):=zaa hd3 rfl;have q3:=zad hd3 2;have r30:w3.cell? ⟨rb,0,none⟩=some (.pointer (some ⟨db,0,none⟩)):=zaa hr3 rfl;have r31:=(Array.getElem?_eq_some_iff.1 hr3).1;have HR3:=Lib.hid hr3;have HD3:=Lib.hid hd3;have l4:=(Array.getElem?_eq_some_iff.1 hd3).1;have HO3:=Lib.hid hone;have HG3:=Lib.hid hgrow;clear hown hgrow hat hr3 hd3 hone)
   all_goals (
    go_wp2_with fail
    go_ret
    have hk3:Kept [db,ib] w w3:=((HKW.out.drewN 1).alloc _).grown HG3.out (fun r e=>by cases e)
    exact⟨g,cg,rfl,heap_set (i:=2) HD3.out _,HO3.out.block (Below.heap_setCell _ _ _ _ (by have:=HO3.out.lo;show g≠db;omega)),hk3.setCell (p:=⟨db,2,none⟩) (.inl (by simp)) _⟩))
  )
end
abbrev PT:TypeId:=219
section
variable {rb db tb ib kb:Nat} {au gv:Value} {w:World}
def RulePost (w:World) (db tb ib:Nat) (dir:ByteArray) (pv cv gl:Value) (p x:ByteArray) (nv:Value) (e:Ending) (w':World):Prop :=
 e=.returned (.tuple #[])∧∃ g c,w'.heap[db]?=some (.cells (dC dir tb (.slice (some ⟨g,0,none⟩) 1 c) pv cv gl) DT (0,0))∧One w' w.heap.size g c [.string p,.string x,nv,.slice none 0 0,.slice none 0 0,.int .i64 0,.bool false]∧Kept [db,ib] w w'
theorem zst (hr:w.heap[rb]?=some (.cells (rC db tb au gv ib kb) RT (0,0))) {dir:ByteArray} {pv cv gl:Value} (hd:w.heap[db]?=some (.cells (dC dir tb (.slice none 0 0) pv cv gl) DT (0,0))) (hI:Kw.MapAt IK w ib []) (x:ByteArray) (p:Bs) (hs:dir.size≤1000000∧x.size≤1000000) (h:Hid (Pt.join [bs dir,bs x]=some p)) (hp:p.length≤1000000)
  (hx1:(x.toList == [46,80,72,79,78,89])=false) (hx2:(x.toList == [46,80,82,69,67,73,79,85,83])=false) (_hx3:¬ x.toList=[46,80,72,79,78,89]) (_hx4:¬ x.toList=[46,80,82,69,67,73,79,85,83]) (a:Option Addr) (n c:Nat) (hn:n≤c)
  (ln:Int) (t nd o:ByteArray) (ra:Option Addr) (rc:Nat) :
  Calls Tryz.prog 252 #[.pointer (some ⟨rb,0,none⟩),.string x,.slice a n c,.slice none 0 0,.agg (ruC ln t nd o ra rc)] w (RulePost w db tb ib dir pv cv gl (str p) x (.slice a n n)):=by
 have hrl:=(Array.getElem?_eq_some_iff.1 hr).1
 have hdl:=(Array.getElem?_eq_some_iff.1 hd).1
 have B0:=(Below.refl w.heap.size w).alloc (Nat.le_refl _) (.cells (ruC ln t nd o ra rc) PT)
 have HX0:=Lib.hid (zah w (.cells (ruC ln t nd o ra rc) PT))
 have HR0:=Lib.hid ((B0.block _ hrl).trans hr)
 have HD0:=Lib.hid ((B0.block _ hdl).trans hd)
 have HI0:=Lib.hid (show Kw.MapAt IK (w.alloc (.cells (ruC ln t nd o ra rc) PT)) ib [] from hI.below B0)
 have HIL:=Lib.hid hI.lt
 have HB0:=Lib.hid B0
 have HF:=Lib.hid fun (W:World) (h1:W.heap[rb]?=some (.cells (rC db tb au gv ib kb) RT (0,0))) (h2:W.heap[db]?=some (.cells (dC dir tb (.slice none 0 0) pv cv gl) DT (0,0)))=>file_yes h1 h2 x p hs h
 have HT:=Lib.hid fun (W:World) (h1:W.heap[rb]?=some (.cells (rC db tb au gv ib kb) RT (0,0))) (h2:W.heap[db]?=some (.cells (dC dir tb (.slice none 0 0) pv cv gl) DT (0,0))) (h3:Kw.MapAt IK W ib [])=>target_new (w:=W) h1 h2 h3 p x hp
 have HX:=Lib.hid fun W g h1 h2 h3 h4=>extend_new W g a none n c 0 0 ln t nd o ra rc h1 h2 h3 h4 hn (Nat.le_refl _)
 clear hr hd hI B0 h hs hp
 unfold ruC at *
 go_enter Tryz.func252,Tryz.ntmps252
 go_wp2_with fail
 generalize w.alloc (.cells #[.int .i64 1,.int .i64 ln,.string ⟨#[]⟩,.string ⟨#[]⟩,.string ⟨#[]⟩,.bool false,.bool false,.string t,.string nd,.string o,.slice ra 0 rc] PT)=w0 at *
 have hT0:(fun (b:Bool) (W:World)=>W.heap[w.heap.size]?=some (.cells #[.int .i64 1,.int .i64 ln,.string ⟨#[]⟩,.string ⟨#[]⟩,.string ⟨#[]⟩,.bool false,.bool false,.string t,.string nd,.string o,.slice ra 0 rc] PT (0,0))) false w0.drew:=HX0.out
 refine zew 8 (fun (b:Bool) (W:World)=>W.heap[w.heap.size]?=some (.cells #[.int .i64 1,.int .i64 ln,.string ⟨#[]⟩,.string ⟨#[]⟩,.string ⟨#[]⟩,.bool false,.bool false,.string t,.string nd,.string o,.slice ra 0 rc] PT (0,0))) (by kernel_rfl) ?_
 refine zaj (i:=0) [0,4,8] (v:=.pointer (some ⟨rb,0,none⟩)) (by rfl) rfl (by rfl) (by kernel_rfl) (by kernel_rfl) (by kernel_rfl) (by kernel_rfl) (by kernel_rfl) (fun c a w h=>h) (Or.inl ⟨by rfl,?_⟩) hT0 ?_
 ·rintro W hW;go_simp
 simp only [Act.put,List.setIfInBounds_toArray]
 refine zaj (i:=1) [1,3,4,8] (v:=.pointer (some ⟨rb,0,none⟩)) (by rfl) rfl (by rfl) (by kernel_rfl) (by kernel_rfl) (by kernel_rfl) (by kernel_rfl) (by kernel_rfl) (fun c a w h=>h) (Or.inl ⟨by rfl,?_⟩) hT0 ?_
 ·rintro W hW;go_simp
 simp only [Act.put]
 refine zaj (i:=2) [2,3,4,8] (v:=.string x) (by rfl) rfl (by rfl) (by kernel_rfl) (by kernel_rfl) (by kernel_rfl) (by kernel_rfl) (by kernel_rfl) (fun c a w h=>h) (Or.inl ⟨by rfl,?_⟩) hT0 ?_
 ·rintro W hW;go_simp
 simp only [Act.put]
 refine zaj (i:=5) [5,8] (v:=.slice a n c) (by rfl) rfl (by rfl) (by kernel_rfl) (by kernel_rfl) (by kernel_rfl) (by kernel_rfl) (by kernel_rfl) (fun c a w h=>h) (Or.inl ⟨by rfl,?_⟩) hT0 ?_
 ·rintro W hW;go_simp
 simp only [Act.put]
 refine zaj (i:=6) [6,8] (v:=.slice none 0 0) (by rfl) rfl (by rfl) (by kernel_rfl) (by kernel_rfl) (by kernel_rfl) (by kernel_rfl) (by kernel_rfl) (fun c a w h=>h) (Or.inl ⟨by rfl,?_⟩) hT0 ?_
 ·rintro W hW;go_simp
 simp only [Act.put]
 refine zaj (i:=7) [7,8] (v:=.agg #[.int .i64 1,.int .i64 ln,.string ⟨#[]⟩,.string ⟨#[]⟩,.string ⟨#[]⟩,.bool false,.bool false,.string t,.string nd,.string o,.slice ra 0 rc]) (by rfl) rfl (by rfl) (by kernel_rfl) (by kernel_rfl) (by kernel_rfl) (by kernel_rfl) (by kernel_rfl) (fun c a w h=>h) (Or.inl ⟨by rfl,?_⟩) hT0 ?_
 ·rintro W hW;have y0:=zaa (i:=0) hW rfl;have y1:=zaa (i:=1) hW rfl;have y2:=zaa (i:=2) hW rfl;have y3:=zaa (i:=3) hW rfl;have y4:=zaa (i:=4) hW rfl;have y5:=zaa (i:=5) hW rfl;have y6:=zaa (i:=6) hW rfl;have y7:=zaa (i:=7) hW rfl;have y8:=zaa (i:=8) hW rfl;have y9:=zaa (i:=9) hW rfl;have y10:=zaa (i:=10) hW rfl;go_simp
 simp only [Act.put]
 refine zbe (i:=3) (by kernel_rfl) rfl false (by rfl) (fun K hK=>?_)
 go_simp
 refine(HF.out w0.drew HR0.out HD0.out).mono ?_
 rintro e w1 ⟨rfl,B1⟩
 have hlr0:=(Array.getElem?_eq_some_iff.1 HR0.out).1
 have hld0:=(Array.getElem?_eq_some_iff.1 HD0.out).1
 have hlx0:=(Array.getElem?_eq_some_iff.1 HX0.out).1
 have hr1:=(B1.block rb (show rb<w0.drew.heap.size from hlr0)).trans HR0.out
 have hd1:=(B1.block db (show db<w0.drew.heap.size from hld0)).trans HD0.out
 have hx1:=(B1.block w.heap.size (show w.heap.size<w0.drew.heap.size from hlx0)).trans HX0.out
 have hi1:Kw.MapAt IK w1 ib []:=HI0.out.block (w:=w0) (B1.block ib (show ib<w0.drew.heap.size from HI0.out.lt))
 have HB1:=Lib.hid (HB0.out.trans ((Below.refl _ w0).drew.trans B1 |>.mono HB0.out.size))
 have H1:=Lib.hid (And.intro hr1 (And.intro hd1 (And.intro hx1 hi1)))
 dsimp only
 refine hK.out _ _ hx1 ?_
 clear hK K B1 hr1 hd1 hx1 hi1
 refine zbe (i:=4) (by kernel_rfl) rfl false (by rfl) (fun K hK=>?_)
 go_simp
 refine(HT.out w1 H1.out.1 H1.out.2.1 H1.out.2.2.2).mono ?_
 rintro e w2 ⟨g,cg,rfl,hd2,hone,hk2⟩
 have hlx1:=(Array.getElem?_eq_some_iff.1 H1.out.2.2.1).1
 have hx2:=(hk2.block w.heap.size hlx1 (by simp;have:=HIL.out;omega)).trans H1.out.2.2.1
 have HK2:=Lib.hid ((Kept.of_below (X:=[db,ib]) HB1.out).trans hk2)
 have HO2:=Lib.hid hone
 have HD2:=Lib.hid hd2
 have hg1:w1.heap.size≤g:=hone.lo
 have HG:=Lib.hid (show w.heap.size≤g from Nat.le_trans HB1.out.size hg1)
 dsimp only
 refine hK.out _ _ hx2 ?_
 clear hK K hk2 hone hd2
 refine zbe (i:=8) (by kernel_rfl) rfl true (by rfl) (fun K hK=>?_)
 go_simp
 refine(HX.out w2 g (HO2.out.cell (by decide) rfl) (HO2.out.cell (by decide) rfl) (fun j=>HO2.out.frozen j) HO2.out.lt).mono ?_
 rintro e w3 ⟨rfl,hone3,hk3⟩
 have h3:=hone3 _ _ _ HO2.out
 have hlx2:=(Array.getElem?_eq_some_iff.1 hx2).1
 have hx3:=(hk3.block w.heap.size hlx2 (by simp;have:=HB0.out.size;have:=HB1.out.size;omega)).trans hx2
 have hd3:=(hk3.block db (Array.getElem?_eq_some_iff.1 HD2.out).1 (by simp;have:=HG.out;omega)).trans HD2.out
 have HK3:=Lib.hid (trans_new HK2.out hk3 (by simp;exact .inr HG.out))
 have H3:=Lib.hid (And.intro h3 hd3)
 dsimp only
 refine hK.out _ _ hx3 ?_
 clear hK K hk3 hone3 h3 hx3 hd3 hx2
 refine zet (by kernel_rfl) ?_ _
 go_wp2_with fail
 go_end0
 exact⟨rfl,g,cg,H3.out.2,⟨HG.out,H3.out.1.row,H3.out.1.c1,H3.out.1.cm⟩,HK3.out⟩
end
section
variable {rb db tb ib kb:Nat} {au gv:Value} {w:World}
def FAt (w:World) (g:Nat) (x y:ByteArray):Prop:=∃ cur,w.heap[g]?=some (.cells cur FiT (0,0))∧cur[0]?=some (.string x)∧cur[1]?=some (.string y)
theorem FAt.lt {w:World} {g:Nat} {x y:ByteArray} (h:FAt w g x y):g<w.heap.size:=by
 obtain⟨_,h,_⟩:=h
 exact(Array.getElem?_eq_some_iff.1 h).1
theorem FAt.block {w w':World} {g:Nat} {x y:ByteArray} (h:FAt w g x y) (hb:w'.heap[g]?=w.heap[g]?):FAt w' g x y:=by
 obtain⟨cur,h,h2⟩:=h
 exact⟨cur,hb.trans h,h2⟩
theorem zsw {x y:ByteArray} {w:World} {B:Nat} {v:Value} (h:w.ownsRow B FiT 2 v 1 [.string x,.string y]):∃ g c,v=.slice (some ⟨g,0,none⟩) 1 c∧FAt w g x y∧B≤g∧1≤c:=by
 rcases h.2 with ⟨_,h0⟩ | ⟨g,cap,cur,hv,hb,hg,h1,h2,h3,h4⟩
 ·cases h0
 ·refine⟨g,cap,hv,⟨cur,hg,?_,?_⟩,hb,h1⟩
  ·have:=congrArg (·[0]?) h4
   simpa using this
  ·have:=congrArg (·[1]?) h4
   simpa using this
def Lists (_w w1:World) (rb:Nat) (nd o:ByteArray) (v4 v5:Value) (W:World):Prop :=
 ∃ b1 b2,v4=.pointer (some ⟨b1,0,none⟩)∧v5=.pointer (some ⟨b2,0,none⟩)∧b1≠b2∧W.heap[b1]?=some (.cells (lC rb nd (.slice none 0 0) (.slice none 0 0) false false) LsT (0,0))∧W.heap[b2]?=some (.cells (lC rb o (.slice none 0 0) (.slice none 0 0) false false) LsT (0,0))∧w1.heap.size≤b1∧w1.heap.size≤b2∧Below w1.heap.size w1 W
def RuleP (w:World) (db tb ib:Nat) (dir:ByteArray) (pv cv gl:Value) (p x q y:ByteArray) (e:Ending) (w':World):Prop :=
 e=.returned (.tuple #[])∧∃ g c ga,w'.heap[db]?=some (.cells (dC dir tb (.slice (some ⟨g,0,none⟩) 1 c) pv cv gl) DT (0,0))∧One w' w.heap.size g c [.string p,.string x,.slice (some ⟨ga,0,none⟩) 1 1,.slice none 0 0,.slice none 0 0,.int .i64 0,.bool false]∧FAt w' ga q y∧Kept [db,ib] w w'
theorem rule_one (hr:w.heap[rb]?=some (.cells (rC db tb au gv ib kb) RT (0,0))) {dir:ByteArray} {pv cv gl:Value} (hd:w.heap[db]?=some (.cells (dC dir tb (.slice none 0 0) pv cv gl) DT (0,0))) (hI:Kw.MapAt IK w ib []) (x y:ByteArray) (p q:Bs)
  (hs:dir.size≤1000000∧x.size≤1000000) (hs2:y.size≤1000000) (h:Hid (Pt.join [bs dir,bs x]=some p)) (hq:Hid (Pt.join [bs dir,bs y]=some q)) (hp:p.length≤1000000) (hx1:(x.toList == [46,80,72,79,78,89])=false) (hx2:(x.toList == [46,80,82,69,67,73,79,85,83])=false) (hx3:¬ x.toList=[46,80,72,79,78,89]) (hx4:¬ x.toList=[46,80,82,69,67,73,79,85,83])
  (ln:Int) (t nd o:Bs) (ra:Option Addr) (rc:Nat) (ht:(36:UInt8)∉t∧t.length≤1000∧zbg (str t)=[x]) (hn:(36:UInt8)∉nd∧nd.length≤1000∧zbg (str nd)=[y]) (ho:(36:UInt8)∉o∧o.length≤1000∧zbg (str o)=[]) (hat:(Tp.atA (by8 x)).isSome=false) :
  Calls Tryz.prog 174 #[.pointer (some ⟨rb,0,none⟩),.agg (ruC ln (str t) (str nd) (str o) ra rc)] w (RuleP w db tb ib dir pv cv gl (str p) x (str q) y):=by
 have hrl:=(Array.getElem?_eq_some_iff.1 hr).1
 have hdl:=(Array.getElem?_eq_some_iff.1 hd).1
 have B0:=(Below.refl w.heap.size w).alloc (Nat.le_refl _) (.cells (ruC ln (str t) (str nd) (str o) ra rc) PT)
 have hx0:=zah w (.cells (ruC ln (str t) (str nd) (str o) ra rc) PT)
 have HX0:=Lib.hid hx0
 have HR0:=Lib.hid ((B0.block _ hrl).trans hr)
 have HD0:=Lib.hid ((B0.block _ hdl).trans hd)
 have HI0:=Lib.hid (show Kw.MapAt IK (w.alloc (.cells (ruC ln (str t) (str nd) (str o) ra rc) PT)) ib [] from hI.below B0)
 have HIL:=Lib.hid hI.lt
 have HDL:=Lib.hid hdl
 have HB0:=Lib.hid B0
 have HW:=Lib.hid fun (W:World) (h1:W.heap[rb]?=some (.cells (rC db tb au gv ib kb) RT (0,0)))=>zoj (w:=W) h1 t ht.1 ht.2.1
 rw[ht.2.2] at HW
 have HF1:=Lib.hid fun (W:World) (h1:W.heap[rb]?=some (.cells (rC db tb au gv ib kb) RT (0,0))) (h2:W.heap[db]?=some (.cells (dC dir tb (.slice none 0 0) pv cv gl) DT (0,0))) lb h3=>zwk (w:=W) h1 h2 y q ⟨hs.1,hs2⟩ hq lb nd h3 hn.1 hn.2.1 hn.2.2
 have HF2:=Lib.hid fun (W:World) (h1:W.heap[rb]?=some (.cells (rC db tb au gv ib kb) RT (0,0))) lb h3=>zwv (w:=W) h1 lb o h3 ho.1 ho.2.1 ho.2.2
 have HE:=Lib.hid fun (W:World) (h1:W.heap[rb]?=some (.cells (rC db tb au gv ib kb) RT (0,0))) (h2:W.heap[db]?=some (.cells (dC dir tb (.slice none 0 0) pv cv gl) DT (0,0))) (h3:Kw.MapAt IK W ib []) a c (hc:1≤c)=>zst (w:=W) h1 h2 h3 x p hs h hp hx1 hx2 hx3 hx4 a 1 c hc ln (str t) (str nd) (str o) ra rc
 have HH:=Lib.hid fun W=>zqh W x hs.2
 rw[hat] at HH
 have y8':=zaa (i:=8) hx0 rfl
 have y9:=zaa (i:=9) hx0 rfl
 have hl0:=(Array.getElem?_eq_some_iff.1 hx0).1
 clear hr hd hI B0 h hq hp ht hn ho hat hx0
 unfold ruC at *
 go_enter Tryz.func174,Tryz.ntmps174
 go_wp2_with fail
 generalize w.alloc (.cells #[.int .i64 1,.int .i64 ln,.string ⟨#[]⟩,.string ⟨#[]⟩,.string ⟨#[]⟩,.bool false,.bool false,.string (str t),.string (str nd),.string (str o),.slice ra 0 rc] PT)=w0 at *
 refine Code.wp_mono (Q:=fun e a W=>match e with
  | .normal=>∃ v4 v5,a={ tmps:=#[.pointer (some ⟨rb,0,none⟩),.agg #[.int .i64 1,.int .i64 ln,.string ⟨#[]⟩,.string ⟨#[]⟩,.string ⟨#[]⟩,.bool false,.bool false,.string (str t),.string (str nd),.string (str o),.slice ra 0 rc],undef,.pointer (some ⟨w.heap.size,0,none⟩),v4,v5,undef,undef,.pointer (some ⟨rb,0,none⟩),.pointer (some ⟨w.heap.size,8,none⟩),.string (str nd),.agg #[.pointer (some ⟨rb,0,none⟩),.string (str nd),.slice none 0 0,.slice none 0 0,.bool false,.bool false],.pointer (some ⟨rb,0,none⟩),.pointer (some ⟨w.heap.size,9,none⟩),.string (str o),.agg #[.pointer (some ⟨rb,0,none⟩),.string (str o),.slice none 0 0,.slice none 0 0,.bool false,.bool false],undef,undef,undef,undef,undef,undef,undef,undef,undef,undef,undef,undef,undef,undef,undef,undef,undef,undef,undef,undef,undef,undef,undef,undef,undef,undef,undef,undef,undef,undef,undef,undef,undef,undef,undef,undef,undef,undef,undef,undef,undef],defers:=[] }∧Lists w w0 rb (str nd) (str o) v4 v5 W
  | _=>False) ?_ ?_
 ·rintro e a W hq
  cases e with
  | normal =>
   obtain⟨v4,v5,rfl,b1,b2,rfl,rfl,hbb,hl1,hl2,hb1,hb2,BW⟩:=hq
   have hlr0:=(Array.getElem?_eq_some_iff.1 HR0.out).1
   have hld0:=(Array.getElem?_eq_some_iff.1 HD0.out).1
   have HRW:=Lib.hid ((BW.block rb hlr0).trans HR0.out)
   have HDW:=Lib.hid ((BW.block db hld0).trans HD0.out)
   have hxw:=(BW.block w.heap.size hl0).trans HX0.out
   have HIW:=Lib.hid (show Kw.MapAt IK W ib [] from HI0.out.block (BW.block ib HI0.out.lt))
   have HXW:=Lib.hid hxw
   have HBW:=Lib.hid (HB0.out.trans (BW.mono HB0.out.size))
   have HL1:=Lib.hid hl1
   have HL2:=Lib.hid hl2
   have HN:=Lib.hid (show w.heap.size≤b1∧w.heap.size≤b2∧b1≠b2∧rb<w0.heap.size∧db<w0.heap.size∧w0.heap.size≤b1∧w0.heap.size≤b2∧w.heap.size<w0.heap.size from ⟨Nat.le_trans HB0.out.size hb1,Nat.le_trans HB0.out.size hb2,hbb,hlr0,hld0,hb1,hb2,hl0⟩)
   clear y8' y9 hl0 hl1 hl2 hbb hb1 hb2 BW hlr0 hld0
   have y7:=zaa (i:=7) hxw rfl
   have hlw:=(Array.getElem?_eq_some_iff.1 hxw).1
   clear hxw
   go_wp2_with fail
   refine(HW.out W HRW.out).mono ?_
   rintro e w2 ⟨v,rfl,B2,ho2⟩
   obtain⟨gx,cx,rfl,hgx,kx,hge⟩:=zni ho2
   have HR2:=Lib.hid ((B2.block rb (Array.getElem?_eq_some_iff.1 HRW.out).1).trans HRW.out)
   have HD2:=Lib.hid ((B2.block db (Array.getElem?_eq_some_iff.1 HDW.out).1).trans HDW.out)
   have HX2:=Lib.hid ((B2.block w.heap.size (Array.getElem?_eq_some_iff.1 HXW.out).1).trans HXW.out)
   have HI2:=Lib.hid (show Kw.MapAt IK w2 ib [] from HIW.out.block (B2.block ib HIW.out.lt))
   have HL12:=Lib.hid ((B2.block b1 (Array.getElem?_eq_some_iff.1 HL1.out).1).trans HL1.out)
   have HL22:=Lib.hid ((B2.block b2 (Array.getElem?_eq_some_iff.1 HL2.out).1).trans HL2.out)
   have HB2:=Lib.hid (HBW.out.trans (B2.mono HBW.out.size))
   clear B2 ho2 y7 hlw HL1 HL2 HRW HDW HXW HIW
   go_wp2_with fail
   refine wp_loop_rounds 2 ?_
   rw[rounds_succ]
   go_wp2_with fail
   refine(HH.out w2).mono ?_
   rintro e w3 ⟨rfl,B3⟩
   have HR3:=Lib.hid ((B3.block rb (Array.getElem?_eq_some_iff.1 HR2.out).1).trans HR2.out)
   have HD3:=Lib.hid ((B3.block db (Array.getElem?_eq_some_iff.1 HD2.out).1).trans HD2.out)
   have HX3:=Lib.hid ((B3.block w.heap.size (Array.getElem?_eq_some_iff.1 HX2.out).1).trans HX2.out)
   have HI3:=Lib.hid (show Kw.MapAt IK w3 ib [] from HI2.out.block (B3.block ib HI2.out.lt))
   have HL13:=Lib.hid ((B3.block b1 (Array.getElem?_eq_some_iff.1 HL12.out).1).trans HL12.out)
   have HL23:=Lib.hid ((B3.block b2 (Array.getElem?_eq_some_iff.1 HL22.out).1).trans HL22.out)
   have HB3:=Lib.hid (HB2.out.trans (B3.mono HB2.out.size))
   clear B3 HR2 HD2 HX2 HI2 HL12 HL22 kx
   go_wp2_with fail
   have hT0:(fun (b:Bool) (W:World)=>W.heap[w.heap.size]?=some (.cells #[.int .i64 1,.int .i64 ln,.string ⟨#[]⟩,.string ⟨#[]⟩,.string ⟨#[]⟩,.bool false,.bool false,.string (str t),.string (str nd),.string (str o),.slice ra 0 rc] PT (0,0))) false w3.drew:=HX3.out
   refine zew 5 (fun (b:Bool) (W:World)=>W.heap[w.heap.size]?=some (.cells #[.int .i64 1,.int .i64 ln,.string ⟨#[]⟩,.string ⟨#[]⟩,.string ⟨#[]⟩,.bool false,.bool false,.string (str t),.string (str nd),.string (str o),.slice ra 0 rc] PT (0,0))) (by kernel_rfl) ?_
   refine zaj (i:=0) [0,5] (v:=.pointer (some ⟨rb,0,none⟩)) (by rfl) rfl (by rfl) (by kernel_rfl) (by kernel_rfl) (by kernel_rfl) (by kernel_rfl) (by kernel_rfl) (fun c a w h=>h) (Or.inl ⟨by rfl,?_⟩) hT0 ?_
   ·rintro W hW;go_simp
   simp only [Act.put,List.setIfInBounds_toArray]
   refine zaj (i:=1) [1,5] (v:=.string x) (by rfl) rfl (by rfl) (by kernel_rfl) (by kernel_rfl) (by kernel_rfl) (by kernel_rfl) (by kernel_rfl) (fun c a w h=>h) (Or.inl ⟨by rfl,?_⟩) hT0 ?_
   ·rintro W hW;go_simp
   simp only [Act.put]
   refine zaj (i:=4) [4,5] (v:=.agg #[.int .i64 1,.int .i64 ln,.string ⟨#[]⟩,.string ⟨#[]⟩,.string ⟨#[]⟩,.bool false,.bool false,.string (str t),.string (str nd),.string (str o),.slice ra 0 rc]) (by rfl) rfl (by rfl) (by kernel_rfl) (by kernel_rfl) (by kernel_rfl) (by kernel_rfl) (by kernel_rfl) (fun c a w h=>h) (Or.inl ⟨by rfl,?_⟩) hT0 ?_
   ·rintro W hW;have y0:=zaa (i:=0) hW rfl;have y1:=zaa (i:=1) hW rfl;have y2:=zaa (i:=2) hW rfl;have y3:=zaa (i:=3) hW rfl;have y4:=zaa (i:=4) hW rfl;have y5:=zaa (i:=5) hW rfl;have y6:=zaa (i:=6) hW rfl;have y7:=zaa (i:=7) hW rfl;have y8:=zaa (i:=8) hW rfl;have y9:=zaa (i:=9) hW rfl;have y10:=zaa (i:=10) hW rfl;go_simp
   simp only [Act.put]
   refine zbe (i:=2) (by kernel_rfl) rfl false (by rfl) (fun K hK=>?_)
   go_simp
   refine(HF1.out w3.drew HR3.out HD3.out b1 HL13.out).mono ?_
   rintro e w4 ⟨v,rfl,ho4,hk4⟩
   obtain⟨ga,ca,rfl,hfa,hgge,hca⟩:=zsw ho4
   have hga:=hfa.lt
   have e3:w3.drew.heap=w3.heap:=rfl
   have hkk:∀ i,i<w3.heap.size→i≠b1→w4.heap[i]?=w3.heap[i]?:=fun i hi hb=>hk4.block i hi (by simpa using hb)
   have HR4:=Lib.hid ((hkk rb (Array.getElem?_eq_some_iff.1 HR3.out).1 (by have:=HN.out;omega)).trans HR3.out)
   have HD4:=Lib.hid ((hkk db (Array.getElem?_eq_some_iff.1 HD3.out).1 (by have:=HN.out;omega)).trans HD3.out)
   have hx4:=(hkk w.heap.size (Array.getElem?_eq_some_iff.1 HX3.out).1 (by have:=HN.out;omega)).trans HX3.out
   have HI4:=Lib.hid (show Kw.MapAt IK w4 ib [] from HI3.out.block (hkk ib HI3.out.lt (by have:=HN.out;have:=HIL.out;omega)))
   have HL24:=Lib.hid ((hkk b2 (Array.getElem?_eq_some_iff.1 HL23.out).1 (by have:=HN.out;omega)).trans HL23.out)
   have HB4:=Lib.hid (HB3.out.drew.trans (hk4.to_below (B:=w.heap.size) (show w.heap.size≤w3.heap.size from HB3.out.size) (by simp;have:=HN.out;omega)))
   have HGA:=Lib.hid (show ga<w4.heap.size∧FAt w4 ga (str q) y∧w3.heap.size≤ga∧1≤ca from ⟨hga,hfa,hgge,hca⟩)
   have HX4:=Lib.hid hx4
   dsimp only
   refine hK.out _ _ hx4 ?_
   clear hK K ho4 hk4 hkk hx4 hga hfa hgge hca HR3 HD3 HX3 HI3 HL13
   refine zbe (i:=3) (by kernel_rfl) rfl false (by rfl) (fun K hK=>?_)
   go_simp
   refine(HF2.out w4 HR4.out b2 HL24.out).mono ?_
   rintro e w5 ⟨rfl,hk5⟩
   have hkk:∀ i,i<w4.heap.size→i≠b2→w5.heap[i]?=w4.heap[i]?:=fun i hi hb=>hk5.block i hi (by simpa using hb)
   have hs34:w3.heap.size≤w4.heap.size:=by have:=HB4.out;have:=HGA.out;omega
   have HR5:=Lib.hid ((hkk rb (Array.getElem?_eq_some_iff.1 HR4.out).1 (by have:=HN.out;omega)).trans HR4.out)
   have HD5:=Lib.hid ((hkk db (Array.getElem?_eq_some_iff.1 HD4.out).1 (by have:=HN.out;omega)).trans HD4.out)
   have hx5:=(hkk w.heap.size (Array.getElem?_eq_some_iff.1 HX4.out).1 (by have:=HN.out;omega)).trans HX4.out
   have HI5:=Lib.hid (show Kw.MapAt IK w5 ib [] from HI4.out.block (hkk ib HI4.out.lt (by have:=HN.out;have:=HIL.out;omega)))
   have hgb:ga≠b2:=by have:=HGA.out;have:=(Array.getElem?_eq_some_iff.1 HL23.out).1;omega
   have HGA5:=Lib.hid (show ga<w5.heap.size∧FAt w5 ga (str q) y from ⟨Nat.lt_of_lt_of_le HGA.out.1 hk5.size,HGA.out.2.1.block (hkk ga HGA.out.1 hgb)⟩)
   have HX5:=Lib.hid hx5
   have HB5:=Lib.hid (HB4.out.trans (hk5.to_below (B:=w.heap.size) HB4.out.size (by simp;have:=HN.out;omega)))
   dsimp only
   refine hK.out _ _ hx5 ?_
   clear hK K hk5 hkk hx5
   refine zbe (i:=5) (by kernel_rfl) rfl true (by rfl) (fun K hK=>?_)
   go_simp
   refine(HE.out w5 HR5.out HD5.out HI5.out (some ⟨ga,0,none⟩) ca HGA.out.2.2.2).mono ?_
   rintro e w6 ⟨rfl,g,cg,hd6,hone,hk6⟩
   have hgne:ga∉[db,ib]:=by
    have h1:=HGA.out;have h2:=HB3.out.size;have h3:=HDL.out;have h4:=HIL.out
    simp;omega
   have hx6:=(hk6.block w.heap.size (Array.getElem?_eq_some_iff.1 HX5.out).1 (by simp;have:=HDL.out;have:=HIL.out;omega)).trans HX5.out
   have HF6:=Lib.hid (And.intro hd6 (And.intro hone (And.intro hk6 hgne)))
   dsimp only
   refine hK.out _ _ hx6 ?_
   clear hK K hd6 hone hk6 hgne hx6
   refine zet (by kernel_rfl) ?_ _
   go_wp2_with fail
   rw[rounds_succ]
   go_wp2_with fail
   go_end0
   obtain⟨hd6,hone,hk6,hgne⟩:=HF6.out
   exact⟨rfl,g,cg,ga,hd6,⟨Nat.le_trans HB5.out.size hone.lo,hone.row,hone.c1,hone.cm⟩,HGA5.out.2.block (hk6.block ga HGA5.out.1 hgne),(Kept.of_below (X:=[db,ib]) HB5.out).trans hk6⟩
  | _=>exact hq.elim
 ·have l1:=zah w0 (.cells (lC rb (str nd) (.slice none 0 0) (.slice none 0 0) false false) LsT)
  have l2:=zah (w0.alloc (.cells (lC rb (str nd) (.slice none 0 0) (.slice none 0 0) false false) LsT)) (.cells (lC rb (str o) (.slice none 0 0) (.slice none 0 0) false false) LsT)
  rw[World.size_alloc] at l2
  have k1:=zah w0 (.cells (lC rb (str o) (.slice none 0 0) (.slice none 0 0) false false) LsT)
  have k2:=zah (w0.alloc (.cells (lC rb (str o) (.slice none 0 0) (.slice none 0 0) false false) LsT)) (.cells (lC rb (str nd) (.slice none 0 0) (.slice none 0 0) false false) LsT)
  rw[World.size_alloc] at k2
  have BB:∀ o1 o2,Below w0.heap.size w0 ((w0.alloc o1).alloc o2).drew:=fun o1 o2=>(((Below.refl _ w0).alloc (Nat.le_refl _) o1).alloc (by simp) o2).drew
  have L1:=Lib.hid l1
  have L2:=Lib.hid l2
  have K1:=Lib.hid k1
  have K2:=Lib.hid k2
  have HBB:=Lib.hid BB
  clear l1 l2 k1 k2 BB
  go_region
  all_goals first
   | exact⟨_,_,rfl,w0.heap.size,w0.heap.size+1,rfl,rfl,by omega,zaf L1.out _,L2.out,Nat.le_refl _,Nat.le_succ _,HBB.out _ _⟩
   | exact⟨_,_,rfl,w0.heap.size+1,w0.heap.size,rfl,rfl,by omega,K2.out,zaf K1.out _,Nat.le_succ _,Nat.le_refl _,HBB.out _ _⟩
end
end Dq
end Go.Proofs.YtgdpbnfgcabneaaGreatDoor

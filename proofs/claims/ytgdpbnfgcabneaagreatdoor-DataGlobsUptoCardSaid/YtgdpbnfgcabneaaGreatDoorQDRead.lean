/- Part of the proof. -/
import Derived.Test.YtgdpbnfgcabneaaGreatDoorQTCode0
import Derived.Test.YtgdpbnfgcabneaaGreatDoorQDOf
import Derived.Test.YtgdpbnfgcabneaaGreatDoorQJFresh
set_option maxRecDepth 100000
set_option maxHeartbeats 40000000
namespace Go.Proofs.YtgdpbnfgcabneaaGreatDoor
namespace Dw
open Go.RowKit Go.Maps Sw
abbrev DT:TypeId:=48
abbrev RST:TypeId:=32
theorem sizeE:(Tryz.prog.info? ET).map (·.size)=some 6:=by kernel_rfl
theorem undE:Tryz.prog.underlying ET=some (.struct (Tryz.prog.fieldsOf ET)):=by kernel_rfl
def zeroE:Array Value:=#[.slice none 0 0,.slice none 0 0,.slice none 0 0,.bool false,.slice none 0 0,.slice none 0 0]
theorem zgd {W:World} {b g:Nat} (h:b≠g) (i j:Nat) (v:Value):(W.setCell ⟨g,j,none⟩ v).cell? ⟨b,i,none⟩=W.cell? ⟨b,i,none⟩ :=
 World.cell?_of_block (w:=W) (Below.heap_setCell _ _ _ _ h)
def sixS (W:World) (g:Nat) (v0 v1 v2 v3 v4 v5:Value):World:=(((((W.setCell ⟨g,0,none⟩ v0).setCell ⟨g,1,none⟩ v1).setCell ⟨g,2,none⟩ v2).setCell ⟨g,3,none⟩ v3).setCell ⟨g,4,none⟩ v4).setCell ⟨g,5,none⟩ v5
theorem zdz {W:World} {b g:Nat} (h:b≠g) (i:Nat) (v0 v1 v2 v3 v4 v5:Value):(sixS W g v0 v1 v2 v3 v4 v5).cell? ⟨b,i,none⟩=W.cell? ⟨b,i,none⟩:=by
 unfold sixS
 rw[zgd h,zgd h,zgd h,zgd h,zgd h,zgd h]
theorem six_heap {W:World} {g:Nat} {c0 c1 c2 c3 c4 c5:Value} {T:TypeId} (v0 v1 v2 v3 v4 v5:Value) (h:W.heap[g]?=some (.cells #[c0,c1,c2,c3,c4,c5] T (0,0))):(sixS W g v0 v1 v2 v3 v4 v5).heap[g]?=some (.cells #[v0,v1,v2,v3,v4,v5] T (0,0)) :=
 Iw.zai (i:=5) (Iw.zai (i:=4) (Iw.zai (i:=3) (Iw.zai (i:=2) (Iw.zai (i:=1) (Iw.zai (i:=0) h v0) v1) v2) v3) v4) v5
theorem six_below {B:Nat} {w W:World} {g:Nat} (v0 v1 v2 v3 v4 v5:Value) (h:Below B w W) (hg:B≤g):Below B w (sixS W g v0 v1 v2 v3 v4 v5) :=
 (((((h.setCell (p:=⟨g,0,none⟩) hg v0).setCell (p:=⟨g,1,none⟩) hg v1).setCell (p:=⟨g,2,none⟩) hg v2).setCell (p:=⟨g,3,none⟩) hg v3).setCell (p:=⟨g,4,none⟩) hg v4).setCell (p:=⟨g,5,none⟩) hg v5
theorem TlAt.six {w:World} {a:Option Addr} {n c:Nat} {ss:List ByteArray} {g:Nat} (v0 v1 v2 v3 v4 v5:Value) (h:TlAt w (.slice a n c) ss) (hg:∀ b,(Value.slice a n c).ownBlock=some b→b≠g):TlAt (sixS w g v0 v1 v2 v3 v4 v5) (.slice a n c) ss:=by
 obtain⟨a',c',hv,hc,h⟩:=h
 refine⟨a',c',hv,hc,?_⟩
 rcases h with h | ⟨b,o,rfl,hb,hx⟩
 ·exact .inl h
 ·refine .inr ⟨b,o,rfl,by simpa[sixS,World.setCell] using hb,fun j u hu=>(zdz (hg b (by rw[hv];rfl)) _ _ _ _ _ _ _).trans (hx j u hu)⟩
theorem zfi {w:World} {n:Nat} {cs:Array Value} {T:TypeId} (h:w.heap[n]?=some (.cells cs T (0,0))) (i:Nat):w.frozen? ⟨n,i,none⟩=false:=by simp[World.frozen?,h]
theorem REnv_any (w:World) (v:Value) (c:Int) {L:List F} (q:ByteArray) (p0 p1 p2:Option Addr) (m0 k0 m1 k1 m2 k2:Nat) (all:Bool) (d5 d6 d7 d8:Value) (aa:Option Addr) (an ac:Nat) (hF:Files w v L) (hl:L.length≤100000) (hps:∀ f∈L,f.p.length≤100000) (hq:q.size≤100000) :
  Calls Tryz.prog 13 #[.agg #[v,.int .i64 c],.agg #[.string q,.slice p0 m0 k0,.slice p1 m1 k1,.slice p2 m2 k2,.bool all,d5,d6,d7,d8],.slice aa an ac] w fun e w'=>∃ a cp,e=.returned (.agg #[.slice p0 m0 k0,.slice p1 m1 k1,.slice p2 m2 k2,.bool all,.slice aa an ac,.slice a L.length cp])∧TlAt w' (.slice a L.length cp) (zbh L (bs q))∧Below w.heap.size w w':=by
 obtain⟨w0,hw⟩:∃ w0,w0=((w.alloc (.cells #[v,.int .i64 c] RST)).alloc (.cells #[.string q,.slice p0 m0 k0,.slice p1 m1 k1,.slice p2 m2 k2,.bool all,d5,d6,d7,d8] DT)).alloc (.cells zeroE ET):=⟨_,rfl⟩
 have hs0:w0.heap.size=w.heap.size+3:=by rw[hw];simp
 have HB0:Hid (Below w.heap.size w w0):=Lib.hid (by rw[hw];exact(((Below.refl _ w).alloc (Nat.le_refl _) _).alloc (by simp) _).alloc (by simp;omega) _)
 have HS0:Hid (w0.heap[w.heap.size]?=some (.cells #[v,.int .i64 c] RST (0,0))∧w0.heap[w.heap.size+1]?=some (.cells #[.string q,.slice p0 m0 k0,.slice p1 m1 k1,.slice p2 m2 k2,.bool all,d5,d6,d7,d8] DT (0,0))∧w0.heap[w.heap.size+2]?=some (.cells zeroE ET (0,0))):=Lib.hid (by
  have x1:=heap_alloc_last w (.cells #[v,.int .i64 c] RST)
  have x2:=heap_alloc_last (w.alloc (.cells #[v,.int .i64 c] RST)) (.cells #[.string q,.slice p0 m0 k0,.slice p1 m1 k1,.slice p2 m2 k2,.bool all,d5,d6,d7,d8] DT)
  have x3:=heap_alloc_last ((w.alloc (.cells #[v,.int .i64 c] RST)).alloc (.cells #[.string q,.slice p0 m0 k0,.slice p1 m1 k1,.slice p2 m2 k2,.bool all,d5,d6,d7,d8] DT)) (.cells zeroE ET)
  have b1:=(Below.refl (w.alloc (.cells #[v,.int .i64 c] RST)).heap.size (w.alloc (.cells #[v,.int .i64 c] RST))).alloc (Nat.le_refl _) (.cells #[.string q,.slice p0 m0 k0,.slice p1 m1 k1,.slice p2 m2 k2,.bool all,d5,d6,d7,d8] DT)
  have b2:=(Below.refl ((w.alloc (.cells #[v,.int .i64 c] RST)).alloc (.cells #[.string q,.slice p0 m0 k0,.slice p1 m1 k1,.slice p2 m2 k2,.bool all,d5,d6,d7,d8] DT)).heap.size ((w.alloc (.cells #[v,.int .i64 c] RST)).alloc (.cells #[.string q,.slice p0 m0 k0,.slice p1 m1 k1,.slice p2 m2 k2,.bool all,d5,d6,d7,d8] DT))).alloc (Nat.le_refl _) (.cells zeroE ET)
  rw[World.size_alloc] at x2
  rw[World.size_alloc,World.size_alloc] at x3
  rw[hw]
  exact⟨(b2.block _ (by simp;omega)).trans ((b1.block _ (by simp)).trans x1),(b2.block _ (by simp)).trans x2,x3⟩)
 have HS:Hid (∀ W,Below w0.heap.size w0 W→W.cell? ⟨w.heap.size,0,none⟩=some v∧W.cell? ⟨w.heap.size,1,none⟩=some (.int .i64 c)∧W.cell? ⟨w.heap.size+1,0,none⟩=some (.string q)∧W.cell? ⟨w.heap.size+1,1,none⟩=some (.slice p0 m0 k0)∧W.cell? ⟨w.heap.size+1,2,none⟩=some (.slice p1 m1 k1)∧W.cell? ⟨w.heap.size+1,3,none⟩=some (.slice p2 m2 k2)∧W.cell? ⟨w.heap.size+1,4,none⟩=some (.bool all)):=Lib.hid fun W hW=>by
  have y1:=(hW.block _ (by omega)).trans HS0.out.1
  have y2:=(hW.block _ (by omega)).trans HS0.out.2.1
  exact⟨zaa y1 rfl,zaa y1 rfl,zaa y2 rfl,zaa y2 rfl,zaa y2 rfl,zaa y2 rfl,zaa y2 rfl⟩
 have HN:=Lib.hid fun W (hW:Below w.heap.size w W)=>Rnames_any W v c q (hF.below hW) hl hps hq
 have S5:=HS.out w0.drew ((Below.refl _ _).drew)
 have HBd:=Lib.hid (HB0.out.drew)
 clear hF hps
 go_enter Tryz.func13,Tryz.ntmps13
 go_wp2_with fail
 unfold zeroE at hw
 rw[←hw]
 have HW:=Lib.hid hw
 clear hw
 go_region_held3 (fun W=>W.cell? ⟨w.heap.size,0,none⟩=some v∧W.cell? ⟨w.heap.size,1,none⟩=some (.int .i64 c)∧W.cell? ⟨w.heap.size+1,0,none⟩=some (.string q)∧W.cell? ⟨w.heap.size+1,1,none⟩=some (.slice p0 m0 k0)∧W.cell? ⟨w.heap.size+1,2,none⟩=some (.slice p1 m1 k1)∧W.cell? ⟨w.heap.size+1,3,none⟩=some (.slice p2 m2 k2)∧W.cell? ⟨w.heap.size+1,4,none⟩=some (.bool all))
  (first | (with_reducible exact S7) | (with_reducible exact S5) | exact S8)
  ((go_at_call 57;refine(HN.out _ HBd.out).mono ?_;rintro e w7 ⟨a7,c7,rfl,ho7,B7⟩;have hB7:Below w0.heap.size w0 w7:=((Below.refl w0.heap.size w0).drew).trans B7;have S7:=HS.out w7 hB7;have HB7:=Lib.hid hB7;have HL7:Hid (∀ b,(Value.slice a7 L.length c7).ownBlock=some b→b≠w.heap.size+1+1):=Lib.hid (fun b hb=>by have h1:w0.heap.size≤b:=(ho7.out.lt b hb).1;omega);have HO7:=Lib.hid (TlAt.of_own (c:=c7) (a:=a7) (ss:=zbh L (bs q)) (by rw[zen];exact ho7.out));have hR7:w7.heap[w.heap.size+1+1]?=some (.cells zeroE ET (0,0)):=(hB7.block (w.heap.size+2) (by omega)).trans HS0.out.2.2;have r0:w7.cell? ⟨w.heap.size+1+1,0,none⟩=some (.slice none 0 0):=zaa hR7 rfl;have r1:w7.cell? ⟨w.heap.size+1+1,1,none⟩=some (.slice none 0 0):=zaa hR7 rfl;have r2:w7.cell? ⟨w.heap.size+1+1,2,none⟩=some (.slice none 0 0):=zaa hR7 rfl;have r3:w7.cell? ⟨w.heap.size+1+1,3,none⟩=some (.bool false):=zaa hR7 rfl;have r4:w7.cell? ⟨w.heap.size+1+1,4,none⟩=some (.slice none 0 0):=zaa hR7 rfl;have r5:w7.cell? ⟨w.heap.size+1+1,5,none⟩=some (.slice none 0 0):=zaa hR7 rfl;have f0:w7.frozen? ⟨w.heap.size+1+1,0,none⟩=false:=zfi hR7 0;have f1:w7.frozen? ⟨w.heap.size+1+1,1,none⟩=false:=zfi hR7 1;have f2:w7.frozen? ⟨w.heap.size+1+1,2,none⟩=false:=zfi hR7 2;have f3:w7.frozen? ⟨w.heap.size+1+1,3,none⟩=false:=zfi hR7 3;have f4:w7.frozen? ⟨w.heap.size+1+1,4,none⟩=false:=zfi hR7 4;have f5:w7.frozen? ⟨w.heap.size+1+1,5,none⟩=false:=zfi hR7 5;have HR7:=Lib.hid hR7;have hn1:w.heap.size≠w.heap.size+1+1:=(by omega);have hn2:w.heap.size+1≠w.heap.size+1+1:=(by omega);have S8:=(⟨(zdz hn1 0 (.slice p0 m0 k0) (.slice p1 m1 k1) (.slice p2 m2 k2) (.bool all) (.slice aa an ac) (.slice a7 L.length c7)).trans S7.1,(zdz hn1 1 _ _ _ _ _ _).trans S7.2.1,(zdz hn2 0 _ _ _ _ _ _).trans S7.2.2.1,(zdz hn2 1 _ _ _ _ _ _).trans S7.2.2.2.1,(zdz hn2 2 _ _ _ _ _ _).trans S7.2.2.2.2.1,(zdz hn2 3 _ _ _ _ _ _).trans S7.2.2.2.2.2.1,(zdz hn2 4 _ _ _ _ _ _).trans S7.2.2.2.2.2.2⟩:(sixS w7 (w.heap.size+1+1) (.slice p0 m0 k0) (.slice p1 m1 k1) (.slice p2 m2 k2) (.bool all) (.slice aa an ac) (.slice a7 L.length c7)).cell? ⟨w.heap.size,0,none⟩=some v∧(sixS w7 (w.heap.size+1+1) (.slice p0 m0 k0) (.slice p1 m1 k1) (.slice p2 m2 k2) (.bool all) (.slice aa an ac) (.slice a7 L.length c7)).cell? ⟨w.heap.size,1,none⟩=some (.int .i64 c)∧(sixS w7 (w.heap.size+1+1) (.slice p0 m0 k0) (.slice p1 m1 k1) (.slice p2 m2 k2) (.bool all) (.slice aa an ac) (.slice a7 L.length c7)).cell? ⟨w.heap.size+1,0,none⟩=some (.string q)∧(sixS w7 (w.heap.size+1+1) (.slice p0 m0 k0) (.slice p1 m1 k1) (.slice p2 m2 k2) (.bool all) (.slice aa an ac) (.slice a7 L.length c7)).cell? ⟨w.heap.size+1,1,none⟩=some (.slice p0 m0 k0)∧(sixS w7 (w.heap.size+1+1) (.slice p0 m0 k0) (.slice p1 m1 k1) (.slice p2 m2 k2) (.bool all) (.slice aa an ac) (.slice a7 L.length c7)).cell? ⟨w.heap.size+1,2,none⟩=some (.slice p1 m1 k1)∧(sixS w7 (w.heap.size+1+1) (.slice p0 m0 k0) (.slice p1 m1 k1) (.slice p2 m2 k2) (.bool all) (.slice aa an ac) (.slice a7 L.length c7)).cell? ⟨w.heap.size+1,3,none⟩=some (.slice p2 m2 k2)∧(sixS w7 (w.heap.size+1+1) (.slice p0 m0 k0) (.slice p1 m1 k1) (.slice p2 m2 k2) (.bool all) (.slice aa an ac) (.slice a7 L.length c7)).cell? ⟨w.heap.size+1,4,none⟩=some (.bool all));unfold sixS at S8;clear hB7 ho7 B7 hR7))
 change Exit.then _ _ Exit.normal _ (sixS w7 (w.heap.size+1+1) (.slice p0 m0 k0) (.slice p1 m1 k1) (.slice p2 m2 k2) (.bool all) (.slice aa an ac) (.slice a7 L.length c7))
 have HB8:=Lib.hid (six_below (.slice p0 m0 k0) (.slice p1 m1 k1) (.slice p2 m2 k2) (.bool all) (.slice aa an ac) (.slice a7 L.length c7) (HB0.out.trans (HB7.out.mono HB0.out.size)) (show w.heap.size≤w.heap.size+1+1 by omega))
 have HR8:=Lib.hid (six_heap (.slice p0 m0 k0) (.slice p1 m1 k1) (.slice p2 m2 k2) (.bool all) (.slice aa an ac) (.slice a7 L.length c7) HR7.out)
 go_wp2_with fail
 refine bodyPost_ret (Tw.zgj Tryz.results13 _ _ (w.heap.size+1+1) ET #[.slice p0 m0 k0,.slice p1 m1 k1,.slice p2 m2 k2,.bool all,.slice aa an ac,.slice a7 L.length c7] (0,0) _ rfl HR8.out undE rfl sizeE) rfl ?_
 have hT:=HO7.out
 rw[zen] at hT
 exact⟨_,_,rfl,hT.six _ _ _ _ _ _ HL7.out,HB8.out⟩
end Dw
namespace Dw
open Go.RowKit Go.Maps Sw
open Ww (by8)
abbrev nilV:Value:=.slice none 0 0
def dC (q:ByteArray) (vl:Value):Array Value:=#[.string q,vl,nilV,nilV,.bool false,nilV,nilV,nilV,nilV]
theorem ztf:(Tryz.prog.info? DT).map (·.size)=some 9:=by kernel_rfl
theorem undD:Tryz.prog.underlying DT=some (.struct (Tryz.prog.fieldsOf DT)):=by kernel_rfl
theorem dC_one (q:ByteArray) (a:Option Addr) (n c:Nat):(dC q (.slice a n c)).all (·.oneCell')=true:=by simp[dC,Value.oneCell']
theorem zqn (w:World) (v:Value) (c:Int) {L:List F} (q p:ByteArray) (hF:Files w v L) (hl:L.length≤100000) (hps:∀ f∈L,f.p.length≤100000) (hns:∀ s∈zbh L (bs q),s.size≤100000) (hq:q.size≤100000) (h:Pat p) (hJ:(Ew.zbp (zbw p (zbh L (bs q)))).size≤1048576) :
  Calls Tryz.prog 106 #[.agg #[v,.int .i64 c],.agg #[.string q,.slice none 0 0,.slice none 0 0,.slice none 0 0,.bool false,.slice none 0 0,.slice none 0 0,.slice none 0 0,.slice none 0 0],.agg #[.int .i64 0,.int .i64 1,.string ⟨#[88]⟩,.string ⟨#[58,61]⟩,.string (valS p),.bool false,.bool false,.string ⟨#[]⟩,.string ⟨#[]⟩,.string ⟨#[]⟩,.slice none 0 0]] w fun e w' =>
   ∃ vl,e=.returned (.tuple #[.agg (dC q vl),.int .i64 0])∧w'.ownsRow w.heap.size Jw.VT 4 vl 1 (Jw.vC ⟨[88],by8 (Ew.zbp (zbw p (zbh L (bs q)))),true,2⟩)∧Below w.heap.size w w':=by
 have HG:Hid (∀ W,Calls Tryz.prog 18 #[.agg #[.slice none 0 0,.slice none 0 0,.slice none 0 0,.bool false],.string ⟨#[88]⟩] W fun e w'=>e=.returned (.tuple #[.agg #[.string ⟨#[]⟩,.string ⟨#[]⟩,.bool false,.int .i64 0],.bool false])∧Below W.heap.size W w'):=Lib.hid fun W=>Jw.Get_any W W.heap.size (.slice none 0 0) (.slice none 0 0) (.slice none 0 0) false [] [88] (World.ownsRow_nil _ _ _ _) (by simp)
 obtain⟨pC,hpC⟩:∃ pC:Array Value,pC=#[.int .i64 0,.int .i64 1,.string ⟨#[88]⟩,.string ⟨#[58,61]⟩,.string (valS p),.bool false,.bool false,.string ⟨#[]⟩,.string ⟨#[]⟩,.string ⟨#[]⟩,.slice none 0 0]:=⟨_,rfl⟩
 obtain⟨w0,hw⟩:∃ w0,w0=((((w.alloc (.cells #[v,.int .i64 c] RST)).alloc (.cells (dC q nilV) DT)).alloc (.cells pC RP)).alloc (.cells (dC ⟨#[]⟩ nilV) DT)).alloc (.cells #[.string ⟨#[88]⟩,.string (valS p),.bool false,.int .i64 2] Jw.VT):=⟨_,rfl⟩
 have hs0:w0.heap.size=w.heap.size+5:=by rw[hw];simp
 have HB0:Hid (Below w.heap.size w w0):=Lib.hid (by rw[hw];exact(((((Below.refl _ w).alloc (Nat.le_refl _) _).alloc (by simp) _).alloc (by simp;omega) _).alloc (by simp;omega) _).alloc (by simp;omega) _)
 have HH:Hid (w0.heap[w.heap.size]?=some (.cells #[v,.int .i64 c] RST (0,0))∧w0.heap[w.heap.size+1]?=some (.cells (dC q nilV) DT (0,0))∧w0.heap[w.heap.size+1+1]?=some (.cells pC RP (0,0))∧w0.heap[w.heap.size+1+1+1]?=some (.cells (dC ⟨#[]⟩ nilV) DT (0,0))∧w0.heap[w.heap.size+1+1+1+1]?=some (.cells #[.string ⟨#[88]⟩,.string (valS p),.bool false,.int .i64 2] Jw.VT (0,0))):=Lib.hid (by
  rw[hw]
  refine⟨?_,?_,?_,?_,?_⟩<;>simp only [World.alloc,Array.getElem?_push,Array.size_push]<;>repeat (first | rw[if_pos (by omega)] | rw[if_neg (by omega)])
  all_goals (first | rfl | exact if_pos trivial))
 have HK:Hid (∀ W,Below w0.heap.size w0 W→W.heap[w.heap.size]?=some (.cells #[v,.int .i64 c] RST (0,0))∧W.heap[w.heap.size+1]?=some (.cells (dC q nilV) DT (0,0))∧W.heap[w.heap.size+1+1]?=some (.cells pC RP (0,0))∧W.heap[w.heap.size+1+1+1]?=some (.cells (dC ⟨#[]⟩ nilV) DT (0,0))∧W.heap[w.heap.size+1+1+1+1]?=some (.cells #[.string ⟨#[88]⟩,.string (valS p),.bool false,.int .i64 2] Jw.VT (0,0))):=Lib.hid fun W hW=>⟨(hW.block _ (by omega)).trans HH.out.1,(hW.block _ (by omega)).trans HH.out.2.1,(hW.block _ (by omega)).trans HH.out.2.2.1,(hW.block _ (by omega)).trans HH.out.2.2.2.1,(hW.block _ (by omega)).trans HH.out.2.2.2.2⟩
 have HEv:=Lib.hid fun W (hW:Below w.heap.size w W)=>REnv_any W v c q none none none 0 0 0 0 0 0 false nilV nilV nilV nilV none 0 0 (hF.below hW) hl hps hq
 have HTx:=Lib.hid fun W u (hu:TlAt W u (zbh L (bs q)))=>RText_any W (.slice none 0 0) (.slice none 0 0) (.slice none 0 0) (.bool false) (.slice none 0 0) u (zbh L (bs q)) p hu (by rw[zen];exact hl) hns h hJ
 clear hF hps hns hq h hJ
 generalize Ew.zbp (zbw p (zbh L (bs q)))=t at *
 generalize valS p=V at *
 go_enter Tryz.func106,Tryz.ntmps106
 go_wp2_with fail
 subst hpC
 unfold dC at hw
 rw[←hw]
 have HW:=Lib.hid hw
 clear hw
 refine(HG.out w0).mono ?_
 rintro e w1 ⟨rfl,B1⟩
 have HB1:=Lib.hid B1
 clear B1
 obtain⟨hk0,hk1,hk2,hk3,hk4⟩:=HK.out w1 HB1.out
 have hws1:=HB1.out.size
 obtain⟨w2,hw2⟩:∃ w2,w2=w1.alloc (.cells #[.string ⟨#[]⟩,.string ⟨#[]⟩,.bool false,.int .i64 0] Jw.VT):=⟨_,rfl⟩
 have HB2:Hid (Below w0.heap.size w0 w2):=Lib.hid (by rw[hw2];exact HB1.out.alloc HB1.out.size _)
 have c1:w2.cell? ⟨w.heap.size+1+1,3,none⟩=some (.string ⟨#[58,61]⟩):=zaa (HK.out w2 HB2.out).2.2.1 rfl
 have HS:Hid (∀ W,Below w0.heap.size w0 W→W.cell? ⟨w.heap.size,0,none⟩=some v∧W.cell? ⟨w.heap.size,1,none⟩=some (.int .i64 c)∧W.cell? ⟨w.heap.size+1,0,none⟩=some (.string q)∧W.cell? ⟨w.heap.size+1,1,none⟩=some (.slice none 0 0)∧W.cell? ⟨w.heap.size+1,2,none⟩=some (.slice none 0 0)∧W.cell? ⟨w.heap.size+1,3,none⟩=some (.slice none 0 0)∧W.cell? ⟨w.heap.size+1,4,none⟩=some (.bool false)∧W.cell? ⟨w.heap.size+1,5,none⟩=some (.slice none 0 0)∧W.cell? ⟨w.heap.size+1,6,none⟩=some (.slice none 0 0)∧W.cell? ⟨w.heap.size+1,7,none⟩=some (.slice none 0 0)∧W.cell? ⟨w.heap.size+1,8,none⟩=some (.slice none 0 0)∧W.cell? ⟨w.heap.size+1+1,4,none⟩=some (.string V)):=Lib.hid fun W hW=>by
  obtain⟨y0,y1,y2,_,_⟩:=HK.out W hW
  exact⟨zaa y0 rfl,zaa y0 rfl,zaa y1 rfl,zaa y1 rfl,zaa y1 rfl,zaa y1 rfl,zaa y1 rfl,zaa y1 rfl,zaa y1 rfl,zaa y1 rfl,zaa y1 rfl,zaa y2 rfl⟩
 clear hk0 hk1 hk2 hk3 hk4
 go_upto_region 5 with (fail)
 rw[←hw2]
 have HW2:=Lib.hid hw2
 clear hw2
 go_wp2_with fail
 have S5:=HS.out w2.drew HB2.out.drew
 have HBd:=Lib.hid (HB0.out.trans (HB2.out.drew.mono HB0.out.size))
 clear c1
 go_region_held3 (fun W=>W.cell? ⟨w.heap.size,0,none⟩=some v∧W.cell? ⟨w.heap.size,1,none⟩=some (.int .i64 c)∧W.cell? ⟨w.heap.size+1,0,none⟩=some (.string q)∧W.cell? ⟨w.heap.size+1,1,none⟩=some (.slice none 0 0)∧W.cell? ⟨w.heap.size+1,2,none⟩=some (.slice none 0 0)∧W.cell? ⟨w.heap.size+1,3,none⟩=some (.slice none 0 0)∧W.cell? ⟨w.heap.size+1,4,none⟩=some (.bool false)∧W.cell? ⟨w.heap.size+1,5,none⟩=some (.slice none 0 0)∧W.cell? ⟨w.heap.size+1,6,none⟩=some (.slice none 0 0)∧W.cell? ⟨w.heap.size+1,7,none⟩=some (.slice none 0 0)∧W.cell? ⟨w.heap.size+1,8,none⟩=some (.slice none 0 0)∧W.cell? ⟨w.heap.size+1+1,4,none⟩=some (.string V))
  (first | (with_reducible exact S8) | (with_reducible exact S7) | (with_reducible exact S5))
  ((first
   | (go_at_call 13;refine(HEv.out _ HBd.out).mono ?_;rintro e w7 ⟨a7,c7,rfl,hT7,B7⟩;have HB7:=Lib.hid (HB2.out.drew.trans (B7.mono HB2.out.drew.size));have S7:=HS.out w7 HB7.out;have HT7:=Lib.hid hT7;clear hT7 B7)
   | (go_at_call 86;refine(HTx.out w7 _ HT7.out).mono ?_;rintro e w8 ⟨rfl,B8⟩;have HB8:=Lib.hid (HB7.out.trans (B8.mono HB7.out.size));have S8:=HS.out w8 HB8.out;clear B8)))
 obtain⟨y0,y1,y2,y3,y4⟩:=HK.out w8 HB8.out
 have x3:w8.cell? ⟨w.heap.size+1+1,3,none⟩=some (.string ⟨#[58,61]⟩):=zaa y2 rfl
 have x41:w8.cell? ⟨w.heap.size+1+1+1+1,1,none⟩=some (.string V):=zaa y4 rfl
 have x42:w8.cell? ⟨w.heap.size+1+1+1+1,2,none⟩=some (.bool false):=zaa y4 rfl
 have f41:w8.frozen? ⟨w.heap.size+1+1+1+1,1,none⟩=false:=zfi y4 1
 have f42:w8.frozen? ⟨w.heap.size+1+1+1+1,2,none⟩=false:=zfi y4 2
 have hne:w.heap.size+1+1≠w.heap.size+1+1+1+1:=by omega
 obtain⟨w9,hw9⟩:∃ w9,w9=(w8.setCell ⟨w.heap.size+1+1+1+1,1,none⟩ (.string t)).setCell ⟨w.heap.size+1+1+1+1,2,none⟩ (.bool true):=⟨_,rfl⟩
 have HV9:Hid (w9.heap[w.heap.size+1+1+1+1]?=some (.cells #[.string ⟨#[88]⟩,.string t,.bool true,.int .i64 2] Jw.VT (0,0))):=Lib.hid (by rw[hw9];exact Iw.zai (i:=2) (Iw.zai (i:=1) y4 (.string t)) (.bool true))
 have HO9:Hid (∀ b,b≠w.heap.size+1+1+1+1→w9.heap[b]?=w8.heap[b]?):=Lib.hid fun b hb=>by rw[hw9];exact(Below.heap_setCell _ _ _ _ hb).trans (Below.heap_setCell _ _ _ _ hb)
 have HB9:Hid (Below w.heap.size w w9):=Lib.hid (by rw[hw9];exact((HB0.out.trans (HB8.out.mono HB0.out.size)).setCell (p:=⟨w.heap.size+1+1+1+1,1,none⟩) (by show w.heap.size≤w.heap.size+1+1+1+1;omega) _).setCell (p:=⟨w.heap.size+1+1+1+1,2,none⟩) (by show w.heap.size≤w.heap.size+1+1+1+1;omega) _)
 have HK9:Hid (w9.heap[w.heap.size+1]?=some (.cells (dC q nilV) DT (0,0))∧w9.heap[w.heap.size+1+1]?=some (.cells #[.int .i64 0,.int .i64 1,.string ⟨#[88]⟩,.string ⟨#[58,61]⟩,.string V,.bool false,.bool false,.string ⟨#[]⟩,.string ⟨#[]⟩,.string ⟨#[]⟩,.slice none 0 0] RP (0,0))∧w9.heap[w.heap.size+1+1+1]?=some (.cells (dC ⟨#[]⟩ nilV) DT (0,0))):=Lib.hid ⟨(HO9.out _ (by omega)).trans y1,(HO9.out _ (by omega)).trans y2,(HO9.out _ (by omega)).trans y3⟩
 clear y0 y1 y2 y3 y4 S8 S7 S5
 go_upto_region 11 with (fail)
 rw[←hw9]
 have HW9:=Lib.hid hw9
 clear hw9 x3 x41 x42 f41 f42
 have z3:w9.cell? ⟨w.heap.size+1+1,3,none⟩=some (.string ⟨#[58,61]⟩):=zaa HK9.out.2.1 rfl
 have z6:w9.cell? ⟨w.heap.size+1+1,6,none⟩=some (.bool false):=zaa HK9.out.2.1 rfl
 have d1:w9.cell? ⟨w.heap.size+1,1,none⟩=some (.slice none 0 0):=zaa HK9.out.1 rfl
 have d2:w9.cell? ⟨w.heap.size+1,2,none⟩=some (.slice none 0 0):=zaa HK9.out.1 rfl
 have d3:w9.cell? ⟨w.heap.size+1,3,none⟩=some (.slice none 0 0):=zaa HK9.out.1 rfl
 have d4:w9.cell? ⟨w.heap.size+1,4,none⟩=some (.bool false):=zaa HK9.out.1 rfl
 have u0:w9.cell? ⟨w.heap.size+1+1+1+1,0,none⟩=some (.string ⟨#[88]⟩):=zaa HV9.out rfl
 have u1:w9.cell? ⟨w.heap.size+1+1+1+1,1,none⟩=some (.string t):=zaa HV9.out rfl
 have u2:w9.cell? ⟨w.heap.size+1+1+1+1,2,none⟩=some (.bool true):=zaa HV9.out rfl
 have u3:w9.cell? ⟨w.heap.size+1+1+1+1,3,none⟩=some (.int .i64 2):=zaa HV9.out rfl
 have HSet:Hid (Calls Tryz.prog 44 #[.agg #[.slice none 0 0,.slice none 0 0,.slice none 0 0,.bool false],.agg #[.string ⟨#[88]⟩,.string t,.bool true,.int .i64 2]] w9 fun e w'=>∃ vl,e=.returned (.agg #[vl,.slice none 0 0,.slice none 0 0,.bool false])∧w'.ownsRow w9.heap.size Jw.VT 4 vl 1 (Jw.vC ⟨[88],by8 t,true,2⟩)∧Below w9.heap.size w9 w'):=Lib.hid (by
  refine(Jw.Set_empty w9 ⟨[88],by8 t,true,2⟩).mono ?_
  rintro e w' ⟨vl,he,ho,hB⟩
  exact⟨vl,he,ho,hB⟩)
 go_wp2_with fail
 refine HSet.out.mono ?_
 rintro e w10 ⟨vl,rfl,ho,B10⟩
 obtain⟨av,cv,rfl⟩:∃ a c,vl=.slice a 1 c:=by
  rcases ho.2 with ⟨_,h0⟩ | ⟨g,cap,cur,rfl,_⟩
  ·exact absurd h0 (by simp)
  ·exact⟨_,_,rfl⟩
 have HO:=Lib.hid ho
 have HB10:=Lib.hid B10
 have hg9:w.heap.size+1+1+1<w9.heap.size:=(Array.getElem?_eq_some_iff.1 HK9.out.2.2).1
 have k1:w10.heap[w.heap.size+1]?=some (.cells (dC q nilV) DT (0,0)):=(B10.block _ (by omega)).trans HK9.out.1
 have k2:=(B10.block (w.heap.size+1+1) (by omega)).trans HK9.out.2.1
 have k3:=(B10.block (w.heap.size+1+1+1) (by omega)).trans HK9.out.2.2
 have e1:w10.cell? ⟨w.heap.size+1,1,none⟩=some (.slice none 0 0):=zaa k1 rfl
 have e2:w10.cell? ⟨w.heap.size+1,2,none⟩=some (.slice none 0 0):=zaa k1 rfl
 have e3:w10.cell? ⟨w.heap.size+1,3,none⟩=some (.slice none 0 0):=zaa k1 rfl
 have e4:w10.cell? ⟨w.heap.size+1,4,none⟩=some (.bool false):=zaa k1 rfl
 have g1:=zfi k1 1
 have g2:=zfi k1 2
 have g3:=zfi k1 3
 have g4:=zfi k1 4
 obtain⟨w11,hw11⟩:∃ w11,w11=(((w10.setCell ⟨w.heap.size+1,1,none⟩ (.slice av 1 cv)).setCell ⟨w.heap.size+1,2,none⟩ (.slice none 0 0)).setCell ⟨w.heap.size+1,3,none⟩ (.slice none 0 0)).setCell ⟨w.heap.size+1,4,none⟩ (.bool false):=⟨_,rfl⟩
 have HD11:Hid (w11.heap[w.heap.size+1]?=some (.cells (dC q (.slice av 1 cv)) DT (0,0))):=Lib.hid (by rw[hw11];exact Iw.zai (i:=4) (Iw.zai (i:=3) (Iw.zai (i:=2) (Iw.zai (i:=1) k1 (.slice av 1 cv)) (.slice none 0 0)) (.slice none 0 0)) (.bool false))
 have HO11:Hid (∀ b,b≠w.heap.size+1→w11.heap[b]?=w10.heap[b]?):=Lib.hid fun b hb=>by rw[hw11];exact(Below.heap_setCell _ _ _ _ hb).trans ((Below.heap_setCell _ _ _ _ hb).trans ((Below.heap_setCell _ _ _ _ hb).trans (Below.heap_setCell _ _ _ _ hb)))
 have HB11:Hid (Below w.heap.size w w11):=Lib.hid (by
  rw[hw11]
  have hb:=HB9.out.trans (B10.mono HB9.out.size)
  exact(((hb.setCell (p:=⟨w.heap.size+1,1,none⟩) (Nat.le_succ _) _).setCell (p:=⟨w.heap.size+1,2,none⟩) (Nat.le_succ _) _).setCell (p:=⟨w.heap.size+1,3,none⟩) (Nat.le_succ _) _).setCell (p:=⟨w.heap.size+1,4,none⟩) (Nat.le_succ _) _)
 have HP11:=Lib.hid ((HO11.out _ (by omega)).trans k2)
 have HR11:=Lib.hid ((HO11.out _ (by omega)).trans k3)
 clear ho B10 z3 z6 d1 d2 d3 d4 u0 u1 u2 u3 k1 k2 k3
 go_upto_region 15 with (fail)
 rw[←hw11]
 have HW11:=Lib.hid hw11
 clear hw11 e1 e2 e3 e4 g1 g2 g3 g4
 have z6:w11.cell? ⟨w.heap.size+1+1,6,none⟩=some (.bool false):=zaa HP11.out rfl
 go_wp2_with (first
  | (refine wpList_load_row rfl DT _ rfl (w.heap.size+1) rfl DT (dC q (.slice av 1 cv)) (0,0) _ HD11.out undD rfl ztf ?_)
  | (refine wpList_store_row rfl DT _ _ rfl (w.heap.size+1+1+1) (dC q (.slice av 1 cv)) rfl rfl DT (dC ⟨#[]⟩ nilV) HR11.out ztf rfl (dC_one _ _ _ _) ?_))
 (try simp only [Exit.inBlock,Exit.then])
 refine bodyPost_ret (Mw.zal Tryz.results106 _ _ (w.heap.size+1+1+1) DT (dC q (.slice av 1 cv)) (0,0) _ (.int .i64 0) rfl rfl (setRow_heap _ _ _ _ _ _ HR11.out) undD rfl ztf) rfl ?_
 refine⟨_,rfl,Mw.zco (Mw.zbk HO.out fun g hg=>?_) HB9.out.size,below_setRow HB11.out (by omega) _⟩
 have hlt:=HO.out.lt g hg
 exact(setRow_other _ _ _ _ (by omega)).trans (HO11.out g (by omega))
end Dw
namespace Dw
open Go.RowKit Go.Maps Sw
open Ww (by8)
theorem Rpart_any (w:World) (v:Value) (c:Int) {L:List F} (q p:ByteArray) (hF:Files w v L) (hl:L.length≤100000) (hps:∀ f∈L,f.p.length≤100000) (hns:∀ s∈zbh L (bs q),s.size≤100000) (hq:q.size≤100000) (h:Pat p) (hJ:(Ew.zbp (zbw p (zbh L (bs q)))).size≤1048576) :
  Calls Tryz.prog 56 #[.agg #[v,.int .i64 c],.agg #[.string q,.slice none 0 0,.slice none 0 0,.slice none 0 0,.bool false,.slice none 0 0,.slice none 0 0,.slice none 0 0,.slice none 0 0],.agg #[.int .i64 0,.int .i64 1,.string ⟨#[88]⟩,.string ⟨#[58,61]⟩,.string (valS p),.bool false,.bool false,.string ⟨#[]⟩,.string ⟨#[]⟩,.string ⟨#[]⟩,.slice none 0 0]] w fun e w' =>
   ∃ a cp,e=.returned (.tuple #[.agg (dC q (.slice a 1 cp)),.int .i64 0])∧Hid (w'.ownsRow w.heap.size Jw.VT 4 (.slice a 1 cp) 1 (Jw.vC ⟨[88],by8 (Ew.zbp (zbw p (zbh L (bs q)))),true,2⟩))∧Below w.heap.size w w':=by
 obtain⟨w0,hw⟩:∃ w0,w0=(((w.alloc (.cells #[v,.int .i64 c] RST)).alloc (.cells (dC q nilV) DT)).alloc (.cells #[.int .i64 0,.int .i64 1,.string ⟨#[88]⟩,.string ⟨#[58,61]⟩,.string (valS p),.bool false,.bool false,.string ⟨#[]⟩,.string ⟨#[]⟩,.string ⟨#[]⟩,.slice none 0 0] RP)).alloc (.cells (dC ⟨#[]⟩ nilV) DT):=⟨_,rfl⟩
 have hs0:w0.heap.size=w.heap.size+4:=by rw[hw];simp
 have HB0:Hid (Below w.heap.size w w0):=Lib.hid (by rw[hw];exact((((Below.refl _ w).alloc (Nat.le_refl _) _).alloc (by simp) _).alloc (by simp;omega) _).alloc (by simp;omega) _)
 have HR0:Hid (w0.heap[w.heap.size+1+1+1]?=some (.cells (dC ⟨#[]⟩ nilV) DT (0,0))):=Lib.hid (by
  rw[hw]
  have:=heap_alloc_last (((w.alloc (.cells #[v,.int .i64 c] RST)).alloc (.cells (dC q nilV) DT)).alloc (.cells #[.int .i64 0,.int .i64 1,.string ⟨#[88]⟩,.string ⟨#[58,61]⟩,.string (valS p),.bool false,.bool false,.string ⟨#[]⟩,.string ⟨#[]⟩,.string ⟨#[]⟩,.slice none 0 0] RP)) (.cells (dC ⟨#[]⟩ nilV) DT)
  simp only [World.size_alloc] at this
  exact this)
 have HA:=Lib.hid (zqn w0 v c q p (hF.below HB0.out) hl hps hns hq h hJ)
 clear hF hps hns hq h hJ
 generalize Ew.zbp (zbw p (zbh L (bs q)))=t at *
 generalize valS p=V at *
 go_enter Tryz.func56,Tryz.ntmps56
 go_wp2_with fail
 unfold dC at hw
 rw[←hw]
 have HW:=Lib.hid hw
 clear hw
 refine HA.out.mono ?_
 rintro e w1 ⟨vl,rfl,ho,B1⟩
 obtain⟨av,cv,rfl⟩:∃ a c,vl=.slice a 1 c:=by
  rcases ho.2 with ⟨_,h0⟩ | ⟨g,cap,cur,rfl,_⟩
  ·exact absurd h0 (by simp)
  ·exact⟨_,_,rfl⟩
 have HO:=Lib.hid ho
 have HR1:=Lib.hid ((B1.block (w.heap.size+1+1+1) (by omega)).trans HR0.out)
 have HB1:=Lib.hid (HB0.out.trans (B1.mono HB0.out.size))
 clear ho B1
 go_wp2_with (refine wpList_store_row rfl DT _ _ rfl (w.heap.size+1+1+1) (dC q (.slice av 1 cv)) rfl rfl DT (dC ⟨#[]⟩ nilV) HR1.out ztf rfl (dC_one _ _ _ _) ?_)
 (try simp only [Exit.inBlock,Exit.then])
 refine bodyPost_ret (Mw.zal Tryz.results56 _ _ (w.heap.size+1+1+1) DT (dC q (.slice av 1 cv)) (0,0) _ (.int .i64 0) rfl rfl (setRow_heap _ _ _ _ _ _ HR1.out) undD rfl ztf) rfl ?_
 refine⟨_,_,rfl,Lib.hid (Mw.zco (Mw.zbk HO.out fun g hg=>?_) HB0.out.size),below_setRow HB1.out (by omega) _⟩
 have hlt:=(HO.out.lt g hg).1
 exact setRow_other _ _ _ _ (by omega)
end Dw
namespace Dw
open Go.RowKit Go.Maps Sw
open Ww (by8)
abbrev FTy:TypeId:=42
abbrev mkS:ByteArray:=⟨#[77,97,107,101,102,105,108,101]⟩
def zF:Array Value:=#[.int .i64 0,.string ⟨#[]⟩,.int .i64 0]
def zcx (W:World) (g:Nat) (x0 x1 x2 x3 x4 x5 x6 x7 x8:Value):World:=(((((((((W.setCell ⟨g,0,none⟩ x0).setCell ⟨g,1,none⟩ x1).setCell ⟨g,2,none⟩ x2).setCell ⟨g,3,none⟩ x3).setCell ⟨g,4,none⟩ x4).setCell ⟨g,5,none⟩ x5).setCell ⟨g,6,none⟩ x6).setCell ⟨g,7,none⟩ x7).setCell ⟨g,8,none⟩ x8)
theorem zqa {W:World} {b g:Nat} (h:b≠g) (x0 x1 x2 x3 x4 x5 x6 x7 x8:Value):(zcx W g x0 x1 x2 x3 x4 x5 x6 x7 x8).heap[b]?=W.heap[b]?:=by
 unfold zcx
 exact(Below.heap_setCell _ _ _ _ h).trans ((Below.heap_setCell _ _ _ _ h).trans ((Below.heap_setCell _ _ _ _ h).trans ((Below.heap_setCell _ _ _ _ h).trans ((Below.heap_setCell _ _ _ _ h).trans ((Below.heap_setCell _ _ _ _ h).trans ((Below.heap_setCell _ _ _ _ h).trans ((Below.heap_setCell _ _ _ _ h).trans (Below.heap_setCell _ _ _ _ h))))))))
theorem zba {W:World} {b g:Nat} (h:b≠g) (i:Nat) (x0 x1 x2 x3 x4 x5 x6 x7 x8:Value):(zcx W g x0 x1 x2 x3 x4 x5 x6 x7 x8).cell? ⟨b,i,none⟩=W.cell? ⟨b,i,none⟩:=World.cell?_of_block (w:=W) (zqa h x0 x1 x2 x3 x4 x5 x6 x7 x8)
theorem nine_heap {W:World} {g:Nat} {c0 c1 c2 c3 c4 c5 c6 c7 c8:Value} {T:TypeId} (x0 x1 x2 x3 x4 x5 x6 x7 x8:Value) (h:W.heap[g]?=some (.cells #[c0,c1,c2,c3,c4,c5,c6,c7,c8] T (0,0))):(zcx W g x0 x1 x2 x3 x4 x5 x6 x7 x8).heap[g]?=some (.cells #[x0,x1,x2,x3,x4,x5,x6,x7,x8] T (0,0)):=by
 have h0:(W.setCell ⟨g,0,none⟩ x0).heap[g]?=some (.cells #[x0,c1,c2,c3,c4,c5,c6,c7,c8] T (0,0)):=Iw.zai (i:=0) h x0
 have h1:((W.setCell ⟨g,0,none⟩ x0).setCell ⟨g,1,none⟩ x1).heap[g]?=some (.cells #[x0,x1,c2,c3,c4,c5,c6,c7,c8] T (0,0)):=Iw.zai (i:=1) h0 x1
 have h2:(((W.setCell ⟨g,0,none⟩ x0).setCell ⟨g,1,none⟩ x1).setCell ⟨g,2,none⟩ x2).heap[g]?=some (.cells #[x0,x1,x2,c3,c4,c5,c6,c7,c8] T (0,0)):=Iw.zai (i:=2) h1 x2
 have h3:((((W.setCell ⟨g,0,none⟩ x0).setCell ⟨g,1,none⟩ x1).setCell ⟨g,2,none⟩ x2).setCell ⟨g,3,none⟩ x3).heap[g]?=some (.cells #[x0,x1,x2,x3,c4,c5,c6,c7,c8] T (0,0)):=Iw.zai (i:=3) h2 x3
 have h4:(((((W.setCell ⟨g,0,none⟩ x0).setCell ⟨g,1,none⟩ x1).setCell ⟨g,2,none⟩ x2).setCell ⟨g,3,none⟩ x3).setCell ⟨g,4,none⟩ x4).heap[g]?=some (.cells #[x0,x1,x2,x3,x4,c5,c6,c7,c8] T (0,0)):=Iw.zai (i:=4) h3 x4
 have h5:((((((W.setCell ⟨g,0,none⟩ x0).setCell ⟨g,1,none⟩ x1).setCell ⟨g,2,none⟩ x2).setCell ⟨g,3,none⟩ x3).setCell ⟨g,4,none⟩ x4).setCell ⟨g,5,none⟩ x5).heap[g]?=some (.cells #[x0,x1,x2,x3,x4,x5,c6,c7,c8] T (0,0)):=Iw.zai (i:=5) h4 x5
 have h6:(((((((W.setCell ⟨g,0,none⟩ x0).setCell ⟨g,1,none⟩ x1).setCell ⟨g,2,none⟩ x2).setCell ⟨g,3,none⟩ x3).setCell ⟨g,4,none⟩ x4).setCell ⟨g,5,none⟩ x5).setCell ⟨g,6,none⟩ x6).heap[g]?=some (.cells #[x0,x1,x2,x3,x4,x5,x6,c7,c8] T (0,0)):=Iw.zai (i:=6) h5 x6
 have h7:((((((((W.setCell ⟨g,0,none⟩ x0).setCell ⟨g,1,none⟩ x1).setCell ⟨g,2,none⟩ x2).setCell ⟨g,3,none⟩ x3).setCell ⟨g,4,none⟩ x4).setCell ⟨g,5,none⟩ x5).setCell ⟨g,6,none⟩ x6).setCell ⟨g,7,none⟩ x7).heap[g]?=some (.cells #[x0,x1,x2,x3,x4,x5,x6,x7,c8] T (0,0)):=Iw.zai (i:=7) h6 x7
 have h8:(((((((((W.setCell ⟨g,0,none⟩ x0).setCell ⟨g,1,none⟩ x1).setCell ⟨g,2,none⟩ x2).setCell ⟨g,3,none⟩ x3).setCell ⟨g,4,none⟩ x4).setCell ⟨g,5,none⟩ x5).setCell ⟨g,6,none⟩ x6).setCell ⟨g,7,none⟩ x7).setCell ⟨g,8,none⟩ x8).heap[g]?=some (.cells #[x0,x1,x2,x3,x4,x5,x6,x7,x8] T (0,0)):=Iw.zai (i:=8) h7 x8
 exact h8
theorem nine_below {B:Nat} {w W:World} {g:Nat} (x0 x1 x2 x3 x4 x5 x6 x7 x8:Value) (h:Below B w W) (hg:B≤g):Below B w (zcx W g x0 x1 x2 x3 x4 x5 x6 x7 x8):=(((((((((h.setCell (p:=⟨g,0,none⟩) hg x0).setCell (p:=⟨g,1,none⟩) hg x1).setCell (p:=⟨g,2,none⟩) hg x2).setCell (p:=⟨g,3,none⟩) hg x3).setCell (p:=⟨g,4,none⟩) hg x4).setCell (p:=⟨g,5,none⟩) hg x5).setCell (p:=⟨g,6,none⟩) hg x6).setCell (p:=⟨g,7,none⟩) hg x7).setCell (p:=⟨g,8,none⟩) hg x8)
theorem move_row {id:Nat} {Q:Exit→Act→World→Prop} {a:Act} {w:World} {o1 o2:Oper} (h1:o1.guard=none) (h2:o2.guard=none) (x y z:Operand) (e1:o1.op=.load DT x) (e2:o2.op=.store DT y z) (g g':Nat) (row old:Array Value) (hx:a.eval x=.pointer (some ⟨g,0,none⟩)) (hg:w.heap[g]?=some (.cells row DT (0,0))) (hsz:row.size=9)
  (hy:(a.put o1.dst (.agg row)).eval y=.pointer (some ⟨g',0,none⟩)) (hz:(a.put o1.dst (.agg row)).eval z=.agg row) (hg':w.heap[g']?=some (.cells old DT (0,0))) (hold:old.size=9) (hone:row.all (·.oneCell')=true) (hK:Q .normal ((a.put o1.dst (.agg row)).put o2.dst undef) (w.setRow g' row)) :
  (Code.region id #[o1,o2] false).wp Tryz.prog Q a w:=by
 have hi:(Tryz.prog.info? DT).map (·.size)=some row.size:=by rw[hsz];exact ztf
 refine wp_region_list ?_
 refine wpList_load_row h1 DT x e1 g hx DT row (0,0) _ hg undD rfl hi ?_
 refine wpList_store_row h2 DT y z e2 g' row hy hz DT old hg' hi (by rw[hold,hsz]) hone ?_
 exact hK
theorem undFa:Tryz.prog.underlying FTy=some (.struct (Tryz.prog.fieldsOf FTy)):=by kernel_rfl
theorem sizeFa:(Tryz.prog.info? FTy).map (·.size)=some 3:=by kernel_rfl
theorem builtFa:Tryz.prog.built FTy []=some zF:=by kernel_rfl
theorem zrr {P:Program} {fn:Func} {p q:Tmp} {ty tz:TypeId} (h:fn.results=#[.cell p ty,.cell q tz]) (tmps:Array Value) (w:World) (g k:Nat) (t u:TypeId) (cs ds:Array Value) (fr gr:Nat×Nat) (d e:TypeDesc)
  (hp:tmps.getD p undef=.pointer (some ⟨g,0,none⟩)) (hq:tmps.getD q undef=.pointer (some ⟨k,0,none⟩)) (hg:w.heap[g]?=some (.cells cs t fr)) (hk:w.heap[k]?=some (.cells ds u gr))
  (hu:P.underlying ty=some d) (hd:(match d with | .struct _ | .array _ _=>true | _=>false)=true) (hi:(P.info? ty).map (·.size)=some cs.size)
  (hu':P.underlying tz=some e) (hd':(match e with | .struct _ | .array _ _=>true | _=>false)=true) (hi':(P.info? tz).map (·.size)=some ds.size) :
  (results fn tmps).run P w=.ok (.tuple #[.agg cs,.agg ds]) w:=by
 have hp':tmps[p]?.getD undef=.pointer (some ⟨g,0,none⟩):=by simpa using hp
 have hq':tmps[q]?.getD undef=.pointer (some ⟨k,0,none⟩):=by simpa using hq
 simp[results,h,hp',hq',asAddr,run_loadVar_row w g t ty cs fr d hg hu hd hi,run_loadVar_row w k u tz ds gr e hk hu' hd' hi',Result.andThen]
theorem end_rows {id:Nat} {Q:Exit→Act→World→Prop} {a:Act} {w:World} {o1 o2 o3 o4:Oper} (h1:o1.guard=none) (h2:o2.guard=none) (h3:o3.guard=none) (h4:o4.guard=none) (x y3 z3 y4 z4:Operand)
  (e1:o1.op=.load DT x) (e2:o2.op=.build FTy #[]) (e3:o3.op=.store DT y3 z3) (e4:o4.op=.store FTy y4 z4) (g g' k:Nat) (row old:Array Value) (hx:a.eval x=.pointer (some ⟨g,0,none⟩)) (hg:w.heap[g]?=some (.cells row DT (0,0))) (hsz:row.size=9)
  (hy3:((a.put o1.dst (.agg row)).put o2.dst (.agg zF)).eval y3=.pointer (some ⟨g',0,none⟩)) (hz3:((a.put o1.dst (.agg row)).put o2.dst (.agg zF)).eval z3=.agg row) (hg':w.heap[g']?=some (.cells old DT (0,0))) (hold:old.size=9) (hone:row.all (·.oneCell')=true)
  (hy4:(((a.put o1.dst (.agg row)).put o2.dst (.agg zF)).put o3.dst undef).eval y4=.pointer (some ⟨k,0,none⟩)) (hz4:(((a.put o1.dst (.agg row)).put o2.dst (.agg zF)).put o3.dst undef).eval z4=.agg zF) (old4:Array Value) (hk:(w.setRow g' row).heap[k]?=some (.cells old4 FTy (0,0))) (hold4:old4.size=3)
  (hK:Q .normal ((((a.put o1.dst (.agg row)).put o2.dst (.agg zF)).put o3.dst undef).put o4.dst undef) ((w.setRow g' row).setRow k zF)) :
  (Code.region id #[o1,o2,o3,o4] false).wp Tryz.prog Q a w:=by
 have hi:(Tryz.prog.info? DT).map (·.size)=some row.size:=by rw[hsz];exact ztf
 refine wp_region_list ?_
 refine wpList_load_row h1 DT x e1 g hx DT row (0,0) _ hg undD rfl hi ?_
 have hbl:Tryz.prog.built FTy ((#[]:Array (Nat×Operand)).map fun (i,x)=>(i,(a.put o1.dst (.agg row)).eval x)).toList=some zF:=by simpa using builtFa
 refine wpList_build h2 FTy #[] e2 (by rw[hbl];rfl) ?_
 rw[hbl]
 show wpList _ _ _ _ ((a.put o1.dst (.agg row)).put o2.dst (.agg zF)) w
 refine wpList_store_row h3 DT y3 z3 e3 g' row hy3 hz3 DT old hg' hi (by rw[hold,hsz]) hone ?_
 refine wpList_store_row h4 FTy y4 z4 e4 k zF hy4 hz4 FTy old4 hk sizeFa (by rw[hold4];rfl) (by simp[zF,Value.oneCell']) ?_
 exact hK
theorem zwf (w:World) (v:Value) (c:Int) {L:List F} (q p wh:ByteArray) (f:F) (hF:Files w v L) (hl:L.length≤100000) (hps:∀ f∈L,f.p.length≤100000) (hss:Sp.Sorted L) (hns:∀ s∈zbh L (bs q),s.size≤100000) (hq:q.size≤100000) (h:Pat p) (hJ:(Ew.zbp (zbw p (zbh L (bs q)))).size≤1048576)
  (hV:Vl (valS p)) (hcl:zaq (bs q)=true) (hjn:Pt.join [bs q,bs mkS]=some (bs wh)) (hg:getR L (bs wh)=some f) (hfd:f.d=false) (hft:str f.t=zdu (valS p)) :
  Calls Tryz.prog 12 #[.agg #[v,.int .i64 c],.string q,.agg #[.slice none 0 0,.slice none 0 0,.slice none 0 0,.bool false]] w fun e w' =>
   ∃ a cp,e=.returned (.tuple #[.agg (dC q (.slice a 1 cp)),.agg zF])∧Hid (w'.ownsRow w.heap.size Jw.VT 4 (.slice a 1 cp) 1 (Jw.vC ⟨[88],by8 (Ew.zbp (zbw p (zbh L (bs q)))),true,2⟩))∧Below w.heap.size w w':=by
 have HCl:Hid (∀ W,Calls Tryz.prog 8 #[.string q] W fun e w'=>e=.returned (.bool true)∧Below W.heap.size W w'):=Lib.hid fun W=>by
  have:=zhv W q (by omega)
  rwa[hcl] at this
 have HJn:Hid (∀ W,Calls Tryz.prog 9 #[.slice (some ⟨W.heap.size,0,none⟩) 2 2] (W.alloc (.cells #[.string q,.string mkS] ST)) fun e w'=>e=.returned (.tuple #[.string wh,.bool true])∧Below W.heap.size W w'):=Lib.hid fun W=>by
  have hc:∀ j,j<[q,mkS].length→(W.alloc (.cells #[.string q,.string mkS] ST)).cell? ⟨W.heap.size,0+j,none⟩=some (.string ([q,mkS][j]?.getD ByteArray.empty)):=fun j hj=>by
   rw[World.cell?_alloc_at _ _ _ _ (by simp)]
   match j,hj with
   | 0,_=>rfl
   | 1,_=>rfl
  have hj:=zdp (W.alloc (.cells #[.string q,.string mkS] ST)) W.heap.size 0 2 [q,mkS] (by simp) hc (by show q.size+1+(8+1+0)≤_;omega)
  rw[show [q,mkS].map bs=[bs q,bs mkS] from rfl,hjn] at hj
  refine hj.mono ?_
  rintro e w' ⟨hB,he⟩
  refine⟨by rw[he,zfh],((Below.refl _ W).alloc (Nat.le_refl _) _).trans (hB.mono (by simp))⟩
 have HRd:Hid (∀ W,Below w.heap.size w W→Calls Tryz.prog 54 #[.agg #[v,.int .i64 c],.string wh] W fun e w'=>e=.returned (.tuple #[.string (zdu (valS p)),.int .i64 0])∧Below W.heap.size W w'):=Lib.hid fun W hW=>by
  have:=RRead_any W v c wh (some f) hl (hF.below hW) hss (Lib.hid hg)
  have e1:zsl (some f)=(f.t,0):=by unfold zsl;simp[hfd]
  rw[e1] at this
  refine this.mono ?_
  rintro e w' ⟨he,hB⟩
  exact⟨by rw[he,hft],hB⟩
 have HOf:=Lib.hid fun W=>Rof_any W (valS p) hV
 have HPt:=Lib.hid fun W (hW:Below w.heap.size w W)=>Rpart_any W v c q p (hF.below hW) hl hps hns hq h hJ
 obtain⟨w0,hw⟩:∃ w0,w0=(((w.alloc (.cells #[v,.int .i64 c] RST)).alloc (.cells #[.slice none 0 0,.slice none 0 0,.slice none 0 0,.bool false] Jw.TT)).alloc (.cells (dC ⟨#[]⟩ nilV) DT)).alloc (.cells zF FTy):=⟨_,rfl⟩
 have hs0:w0.heap.size=w.heap.size+4:=by rw[hw];simp
 have HB0:Hid (Below w.heap.size w w0):=Lib.hid (by rw[hw];exact((((Below.refl _ w).alloc (Nat.le_refl _) _).alloc (by simp) _).alloc (by simp;omega) _).alloc (by simp;omega) _)
 have HH:Hid (w0.heap[w.heap.size]?=some (.cells #[v,.int .i64 c] RST (0,0))∧w0.heap[w.heap.size+1]?=some (.cells #[.slice none 0 0,.slice none 0 0,.slice none 0 0,.bool false] Jw.TT (0,0))∧w0.heap[w.heap.size+1+1]?=some (.cells (dC ⟨#[]⟩ nilV) DT (0,0))∧w0.heap[w.heap.size+1+1+1]?=some (.cells zF FTy (0,0))):=Lib.hid (by
  rw[hw]
  refine⟨?_,?_,?_,?_⟩<;>simp only [World.alloc,Array.getElem?_push,Array.size_push]<;>repeat (first | rw[if_pos (by omega)] | rw[if_neg (by omega)])
  all_goals (first | rfl | exact if_pos trivial))
 have HK:Hid (∀ W,Below w0.heap.size w0 W→W.heap[w.heap.size]?=some (.cells #[v,.int .i64 c] RST (0,0))∧W.heap[w.heap.size+1]?=some (.cells #[.slice none 0 0,.slice none 0 0,.slice none 0 0,.bool false] Jw.TT (0,0))∧W.heap[w.heap.size+1+1]?=some (.cells (dC ⟨#[]⟩ nilV) DT (0,0))∧W.heap[w.heap.size+1+1+1]?=some (.cells zF FTy (0,0))):=Lib.hid fun W hW=>⟨(hW.block _ (by omega)).trans HH.out.1,(hW.block _ (by omega)).trans HH.out.2.1,(hW.block _ (by omega)).trans HH.out.2.2.1,(hW.block _ (by omega)).trans HH.out.2.2.2⟩
 clear hF hps hns hq h hJ hV hcl hjn hg hfd hft hss
 generalize Ew.zbp (zbw p (zbh L (bs q)))=t at *
 generalize zdu (valS p)=s at *
 generalize valS p=V at *
 go_enter Tryz.func12,Tryz.ntmps12
 go_wp2_with fail
 unfold dC zF at hw
 rw[←hw]
 have HW:=Lib.hid hw
 clear hw
 refine(HCl.out w0).mono ?_
 rintro e w1 ⟨rfl,B1⟩
 have HB1:=Lib.hid B1
 clear B1
 go_wp2_with fail
 refine(HJn.out w1).mono ?_
 rintro e w2 ⟨rfl,B2⟩
 have HB2:=Lib.hid (HB1.out.trans (B2.mono HB1.out.size))
 clear B2
 have x0:w2.cell? ⟨w.heap.size,0,none⟩=some v:=zaa (HK.out w2 HB2.out).1 rfl
 have x1:w2.cell? ⟨w.heap.size,1,none⟩=some (.int .i64 c):=zaa (HK.out w2 HB2.out).1 rfl
 go_wp2_with fail
 refine(HRd.out w2 (HB0.out.trans (HB2.out.mono HB0.out.size))).mono ?_
 rintro e w3 ⟨rfl,B3⟩
 have HB3:=Lib.hid (HB2.out.trans (B3.mono HB2.out.size))
 clear B3 x0 x1
 go_wp2_with fail
 refine(HOf.out w3).mono ?_
 rintro e w4 ⟨a4,c4,rfl,ho4,B4⟩
 obtain⟨g4,rfl,hg4,hx4⟩:∃ g,a4=some ⟨g,0,none⟩∧g<w4.heap.size∧∀ j u,(asC 1 V).toList[j]?=some u→w4.cell? ⟨g,j,none⟩=some u:=by
  rcases ho4.out.2 with ⟨_,h0⟩ | ⟨g,cap,cur,hv,_,hg,_⟩
  ·exact absurd h0 (by simp)
  ·cases hv
   refine⟨g,rfl,(Array.getElem?_eq_some_iff.1 hg).1,fun j u hj=>?_⟩
   have c0:=ho4.out.cells (g:=g) rfl j u hj
   rw[Addr.add_lit,Nat.zero_add] at c0
   exact c0
 have HB4:=Lib.hid (HB3.out.trans (B4.mono HB3.out.size))
 have HX4:=Lib.hid fun W (hW:Below w4.heap.size w4 W) j u hj=>(hW.cell (p:=⟨g4,j,none⟩) hg4).trans (hx4 j u hj)
 have y0:w4.cell? ⟨w.heap.size+1,0,none⟩=some (.slice none 0 0):=zaa (HK.out w4 HB4.out).2.1 rfl
 have y1:w4.cell? ⟨w.heap.size+1,1,none⟩=some (.slice none 0 0):=zaa (HK.out w4 HB4.out).2.1 rfl
 have y2:w4.cell? ⟨w.heap.size+1,2,none⟩=some (.slice none 0 0):=zaa (HK.out w4 HB4.out).2.1 rfl
 have y3:w4.cell? ⟨w.heap.size+1,3,none⟩=some (.bool false):=zaa (HK.out w4 HB4.out).2.1 rfl
 clear ho4 B4 hx4
 go_wp2_with fail
 obtain⟨w5,hw5⟩:∃ w5,w5=w4.alloc (.cells (dC q nilV) DT):=⟨_,rfl⟩
 have hd5:w5.heap[w4.heap.size]?=some (.cells (dC q nilV) DT (0,0)):=by rw[hw5];exact heap_alloc_last w4 _
 have HD5:=Lib.hid hd5
 have hb45:Below w4.heap.size w4 w5:=by rw[hw5];exact(Below.refl _ w4).alloc (Nat.le_refl _) _
 have HB45:=Lib.hid hb45
 have hs5:w5.heap.size=w4.heap.size+1:=by rw[hw5];simp
 have HS5:=Lib.hid hs5
 have HS:Hid (∀ W,Below w5.heap.size w5 W→W.cell? ⟨w.heap.size,0,none⟩=some v∧W.cell? ⟨w.heap.size,1,none⟩=some (.int .i64 c)∧W.cell? ⟨w4.heap.size,0,none⟩=some (.string q)∧W.cell? ⟨w4.heap.size,1,none⟩=some (.slice none 0 0)∧W.cell? ⟨w4.heap.size,2,none⟩=some (.slice none 0 0)∧W.cell? ⟨w4.heap.size,3,none⟩=some (.slice none 0 0)∧W.cell? ⟨w4.heap.size,4,none⟩=some (.bool false)∧W.cell? ⟨w4.heap.size,5,none⟩=some (.slice none 0 0)∧W.cell? ⟨w4.heap.size,6,none⟩=some (.slice none 0 0)∧W.cell? ⟨w4.heap.size,7,none⟩=some (.slice none 0 0)∧W.cell? ⟨w4.heap.size,8,none⟩=some (.slice none 0 0)∧W.cell? ⟨g4,0,none⟩=some (.int .i64 0)∧W.cell? ⟨g4,1,none⟩=some (.int .i64 1)∧W.cell? ⟨g4,2,none⟩=some (.string ⟨#[88]⟩)∧W.cell? ⟨g4,3,none⟩=some (.string ⟨#[58,61]⟩)∧W.cell? ⟨g4,4,none⟩=some (.string V)∧W.cell? ⟨g4,5,none⟩=some (.bool false)∧W.cell? ⟨g4,6,none⟩=some (.bool false)∧W.cell? ⟨g4,7,none⟩=some (.string ⟨#[]⟩)∧W.cell? ⟨g4,8,none⟩=some (.string ⟨#[]⟩)∧W.cell? ⟨g4,9,none⟩=some (.string ⟨#[]⟩)∧W.cell? ⟨g4,10,none⟩=some (.slice none 0 0)):=Lib.hid fun W hW=>by
  obtain⟨z0,_,_,_⟩:=HK.out W (HB4.out.trans ((hb45.trans (hW.mono hb45.size)).mono HB4.out.size))
  have zd:=(hW.block w4.heap.size (by omega)).trans hd5
  have zp:=HX4.out W (hb45.trans (hW.mono hb45.size))
  exact⟨zaa z0 rfl,zaa z0 rfl,zaa zd rfl,zaa zd rfl,zaa zd rfl,zaa zd rfl,zaa zd rfl,zaa zd rfl,zaa zd rfl,zaa zd rfl,zaa zd rfl,zp 0 _ rfl,zp 1 _ rfl,zp 2 _ rfl,zp 3 _ rfl,zp 4 _ rfl,zp 5 _ rfl,zp 6 _ rfl,zp 7 _ rfl,zp 8 _ rfl,zp 9 _ rfl,zp 10 _ rfl⟩
 unfold dC at hw5
 rw[←hw5]
 have HW5:=Lib.hid hw5
 clear hw5 hd5 hb45 hs5 y0 y1 y2 y3
 go_loopw [16] (fun v16 wr=>v16=.int .i64 0∧wr=w5∨v16=.int .i64 1∧Below w4.heap.size w4 wr∧∃ a cp,Hid (wr.heap[w4.heap.size]?=some (.cells (dC q (.slice a 1 cp)) DT (0,0)))∧Hid (wr.ownsRow w4.heap.size Jw.VT 4 (.slice a 1 cp) 1 (Jw.vC ⟨[88],by8 t,true,2⟩))) (fun v16 _=>1 - (intOf v16).toNat)
 case atStart=>exact .inl ⟨rfl,rfl⟩
 case round =>
  rcases hrel with ⟨rfl,rfl⟩ | ⟨rfl,hB,a,cp,hD,hO⟩
  ·obtain⟨w6,hw6⟩:∃ w6,w6=(wr.alloc (.cells (dC ⟨#[]⟩ nilV) DT)).drew:=⟨_,rfl⟩
   have hB56:Below wr.heap.size wr w6:=by rw[hw6];exact((Below.refl _ wr).alloc (Nat.le_refl _) _).drew
   have hR6:w6.heap[wr.heap.size]?=some (.cells (dC ⟨#[]⟩ nilV) DT (0,0)):=by rw[hw6];exact heap_alloc_last wr _
   have hz6:w6.heap.size=wr.heap.size+1:=by rw[hw6];show (wr.alloc _).heap.size=_;simp
   have S5:=HS.out w6 hB56
   have HB5:Hid (Below w.heap.size w wr):=Lib.hid (HB0.out.trans ((HB4.out.trans (HB45.out.mono HB4.out.size)).mono HB0.out.size))
   have HBd:=Lib.hid (HB5.out.trans (hB56.mono HB5.out.size))
   have hq4:wr.heap.size=w4.heap.size+1:=HS5.out
   have hq0:w.heap.size≤w4.heap.size:=by have:=HB0.out.size;have:=HB4.out.size;omega
   rw[hw6] at S5 HBd hR6 hB56 hz6
   unfold dC at S5 HBd hR6 hB56 hz6
   clear hw6
   have HR6:=Lib.hid hR6
   have HB56:=Lib.hid hB56
   have HZ6:=Lib.hid hz6
   have HQ:=Lib.hid (show wr.heap.size=w4.heap.size+1∧w.heap.size≤w4.heap.size∧g4<w4.heap.size from ⟨hq4,hq0,hg4⟩)
   clear hR6 hB56 hz6 hq4 hq0
   go_wp2_with fail
   have S5a:=HS.out wr.drew ((Below.refl _ _).drew)
   have HBa:=Lib.hid HB5.out.drew
   go_region_held3 (fun W=>W.cell? ⟨w.heap.size,0,none⟩=some v∧W.cell? ⟨w.heap.size,1,none⟩=some (.int .i64 c)∧W.cell? ⟨w4.heap.size,0,none⟩=some (.string q)∧W.cell? ⟨w4.heap.size,1,none⟩=some (.slice none 0 0)∧W.cell? ⟨w4.heap.size,2,none⟩=some (.slice none 0 0)∧W.cell? ⟨w4.heap.size,3,none⟩=some (.slice none 0 0)∧W.cell? ⟨w4.heap.size,4,none⟩=some (.bool false)∧W.cell? ⟨w4.heap.size,5,none⟩=some (.slice none 0 0)∧W.cell? ⟨w4.heap.size,6,none⟩=some (.slice none 0 0)∧W.cell? ⟨w4.heap.size,7,none⟩=some (.slice none 0 0)∧W.cell? ⟨w4.heap.size,8,none⟩=some (.slice none 0 0)∧W.cell? ⟨g4,0,none⟩=some (.int .i64 0)∧W.cell? ⟨g4,1,none⟩=some (.int .i64 1)∧W.cell? ⟨g4,2,none⟩=some (.string ⟨#[88]⟩)∧W.cell? ⟨g4,3,none⟩=some (.string ⟨#[58,61]⟩)∧W.cell? ⟨g4,4,none⟩=some (.string V)∧W.cell? ⟨g4,5,none⟩=some (.bool false)∧W.cell? ⟨g4,6,none⟩=some (.bool false)∧W.cell? ⟨g4,7,none⟩=some (.string ⟨#[]⟩)∧W.cell? ⟨g4,8,none⟩=some (.string ⟨#[]⟩)∧W.cell? ⟨g4,9,none⟩=some (.string ⟨#[]⟩)∧W.cell? ⟨g4,10,none⟩=some (.slice none 0 0))
    (first | (with_reducible exact S8) | (with_reducible exact S5) | (with_reducible exact S5a) | (with_reducible exact S9 _) | (with_reducible exact S9) | exact S9)
    ((first
     | (go_at_call 56;refine(HPt.out wr.drew HBa.out).mono ?_;rintro e w8 ⟨a8,c8,rfl,ho8,B8⟩;have hB8:=((Below.refl wr.heap.size wr).drew).trans B8;have S8:=HS.out w8 hB8;have S9:=fun o=>HS.out (w8.alloc o) (hB8.alloc hB8.size o);have HG:Hid ((w8.alloc (.cells #[.string q,.slice a8 1 c8,.slice none 0 0,.slice none 0 0,.bool false,.slice none 0 0,.slice none 0 0,.slice none 0 0,.slice none 0 0] DT)).heap[w8.heap.size]?=some (.cells #[.string q,.slice a8 1 c8,.slice none 0 0,.slice none 0 0,.bool false,.slice none 0 0,.slice none 0 0,.slice none 0 0,.slice none 0 0] DT (0,0))):=Lib.hid (heap_alloc_last w8 _);have HBX:Hid (Below wr.heap.size wr (w8.alloc (.cells #[.string q,.slice a8 1 c8,.slice none 0 0,.slice none 0 0,.bool false,.slice none 0 0,.slice none 0 0,.slice none 0 0,.slice none 0 0] DT))):=Lib.hid (hB8.alloc hB8.size _);have HOX:Hid ((w8.alloc (.cells #[.string q,.slice a8 1 c8,.slice none 0 0,.slice none 0 0,.bool false,.slice none 0 0,.slice none 0 0,.slice none 0 0,.slice none 0 0] DT)).ownsRow wr.heap.size Jw.VT 4 (.slice a8 1 c8) 1 (Jw.vC ⟨[88],by8 t,true,2⟩)):=Lib.hid (ho8.out.alloc _);clear ho8 B8 hB8;unfold dC)
     | (go_at_call 56;refine(HPt.out _ HBd.out).mono ?_;rintro e w8 ⟨a8,c8,rfl,ho8,B8⟩;have HB8:=Lib.hid (HB56.out.trans (B8.mono HB56.out.size));have S8:=HS.out w8 HB8.out;have hR8:=(B8.block wr.heap.size (by have:=HZ6.out;omega)).trans HR6.out;have r0:w8.cell? ⟨wr.heap.size,0,none⟩=some (.string ⟨#[]⟩):=zaa hR8 rfl;have f0:w8.frozen? ⟨wr.heap.size,0,none⟩=false:=zfi hR8 0;have r1:w8.cell? ⟨wr.heap.size,1,none⟩=some (.slice none 0 0):=zaa hR8 rfl;have f1:w8.frozen? ⟨wr.heap.size,1,none⟩=false:=zfi hR8 1;have r2:w8.cell? ⟨wr.heap.size,2,none⟩=some (.slice none 0 0):=zaa hR8 rfl;have f2:w8.frozen? ⟨wr.heap.size,2,none⟩=false:=zfi hR8 2;have r3:w8.cell? ⟨wr.heap.size,3,none⟩=some (.slice none 0 0):=zaa hR8 rfl;have f3:w8.frozen? ⟨wr.heap.size,3,none⟩=false:=zfi hR8 3;have r4:w8.cell? ⟨wr.heap.size,4,none⟩=some (.bool false):=zaa hR8 rfl;have f4:w8.frozen? ⟨wr.heap.size,4,none⟩=false:=zfi hR8 4;have r5:w8.cell? ⟨wr.heap.size,5,none⟩=some (.slice none 0 0):=zaa hR8 rfl;have f5:w8.frozen? ⟨wr.heap.size,5,none⟩=false:=zfi hR8 5;have r6:w8.cell? ⟨wr.heap.size,6,none⟩=some (.slice none 0 0):=zaa hR8 rfl;have f6:w8.frozen? ⟨wr.heap.size,6,none⟩=false:=zfi hR8 6;have r7:w8.cell? ⟨wr.heap.size,7,none⟩=some (.slice none 0 0):=zaa hR8 rfl;have f7:w8.frozen? ⟨wr.heap.size,7,none⟩=false:=zfi hR8 7;have r8:w8.cell? ⟨wr.heap.size,8,none⟩=some (.slice none 0 0):=zaa hR8 rfl;have f8:w8.frozen? ⟨wr.heap.size,8,none⟩=false:=zfi hR8 8;have HR8:=Lib.hid hR8;have n0:w.heap.size≠wr.heap.size:=(by have:=HQ.out;omega);have n1:w4.heap.size≠wr.heap.size:=(by have:=HQ.out;omega);have n2:g4≠wr.heap.size:=(by have:=HQ.out;omega);have S9:(zcx w8 wr.heap.size (.string q) (.slice a8 1 c8) (.slice none 0 0) (.slice none 0 0) (.bool false) (.slice none 0 0) (.slice none 0 0) (.slice none 0 0) (.slice none 0 0)).cell? ⟨w.heap.size,0,none⟩=some v∧(zcx w8 wr.heap.size (.string q) (.slice a8 1 c8) (.slice none 0 0) (.slice none 0 0) (.bool false) (.slice none 0 0) (.slice none 0 0) (.slice none 0 0) (.slice none 0 0)).cell? ⟨w.heap.size,1,none⟩=some (.int .i64 c)∧(zcx w8 wr.heap.size (.string q) (.slice a8 1 c8) (.slice none 0 0) (.slice none 0 0) (.bool false) (.slice none 0 0) (.slice none 0 0) (.slice none 0 0) (.slice none 0 0)).cell? ⟨w4.heap.size,0,none⟩=some (.string q)∧(zcx w8 wr.heap.size (.string q) (.slice a8 1 c8) (.slice none 0 0) (.slice none 0 0) (.bool false) (.slice none 0 0) (.slice none 0 0) (.slice none 0 0) (.slice none 0 0)).cell? ⟨w4.heap.size,1,none⟩=some (.slice none 0 0)∧(zcx w8 wr.heap.size (.string q) (.slice a8 1 c8) (.slice none 0 0) (.slice none 0 0) (.bool false) (.slice none 0 0) (.slice none 0 0) (.slice none 0 0) (.slice none 0 0)).cell? ⟨w4.heap.size,2,none⟩=some (.slice none 0 0)∧(zcx w8 wr.heap.size (.string q) (.slice a8 1 c8) (.slice none 0 0) (.slice none 0 0) (.bool false) (.slice none 0 0) (.slice none 0 0) (.slice none 0 0) (.slice none 0 0)).cell? ⟨w4.heap.size,3,none⟩=some (.slice none 0 0)∧(zcx w8 wr.heap.size (.string q) (.slice a8 1 c8) (.slice none 0 0) (.slice none 0 0) (.bool false) (.slice none 0 0) (.slice none 0 0) (.slice none 0 0) (.slice none 0 0)).cell? ⟨w4.heap.size,4,none⟩=some (.bool false)∧(zcx w8 wr.heap.size (.string q) (.slice a8 1 c8) (.slice none 0 0) (.slice none 0 0) (.bool false) (.slice none 0 0) (.slice none 0 0) (.slice none 0 0) (.slice none 0 0)).cell? ⟨w4.heap.size,5,none⟩=some (.slice none 0 0)∧(zcx w8 wr.heap.size (.string q) (.slice a8 1 c8) (.slice none 0 0) (.slice none 0 0) (.bool false) (.slice none 0 0) (.slice none 0 0) (.slice none 0 0) (.slice none 0 0)).cell? ⟨w4.heap.size,6,none⟩=some (.slice none 0 0)∧(zcx w8 wr.heap.size (.string q) (.slice a8 1 c8) (.slice none 0 0) (.slice none 0 0) (.bool false) (.slice none 0 0) (.slice none 0 0) (.slice none 0 0) (.slice none 0 0)).cell? ⟨w4.heap.size,7,none⟩=some (.slice none 0 0)∧(zcx w8 wr.heap.size (.string q) (.slice a8 1 c8) (.slice none 0 0) (.slice none 0 0) (.bool false) (.slice none 0 0) (.slice none 0 0) (.slice none 0 0) (.slice none 0 0)).cell? ⟨w4.heap.size,8,none⟩=some (.slice none 0 0)∧(zcx w8 wr.heap.size (.string q) (.slice a8 1 c8) (.slice none 0 0) (.slice none 0 0) (.bool false) (.slice none 0 0) (.slice none 0 0) (.slice none 0 0) (.slice none 0 0)).cell? ⟨g4,0,none⟩=some (.int .i64 0)∧(zcx w8 wr.heap.size (.string q) (.slice a8 1 c8) (.slice none 0 0) (.slice none 0 0) (.bool false) (.slice none 0 0) (.slice none 0 0) (.slice none 0 0) (.slice none 0 0)).cell? ⟨g4,1,none⟩=some (.int .i64 1)∧(zcx w8 wr.heap.size (.string q) (.slice a8 1 c8) (.slice none 0 0) (.slice none 0 0) (.bool false) (.slice none 0 0) (.slice none 0 0) (.slice none 0 0) (.slice none 0 0)).cell? ⟨g4,2,none⟩=some (.string ⟨#[88]⟩)∧(zcx w8 wr.heap.size (.string q) (.slice a8 1 c8) (.slice none 0 0) (.slice none 0 0) (.bool false) (.slice none 0 0) (.slice none 0 0) (.slice none 0 0) (.slice none 0 0)).cell? ⟨g4,3,none⟩=some (.string ⟨#[58,61]⟩)∧(zcx w8 wr.heap.size (.string q) (.slice a8 1 c8) (.slice none 0 0) (.slice none 0 0) (.bool false) (.slice none 0 0) (.slice none 0 0) (.slice none 0 0) (.slice none 0 0)).cell? ⟨g4,4,none⟩=some (.string V)∧(zcx w8 wr.heap.size (.string q) (.slice a8 1 c8) (.slice none 0 0) (.slice none 0 0) (.bool false) (.slice none 0 0) (.slice none 0 0) (.slice none 0 0) (.slice none 0 0)).cell? ⟨g4,5,none⟩=some (.bool false)∧(zcx w8 wr.heap.size (.string q) (.slice a8 1 c8) (.slice none 0 0) (.slice none 0 0) (.bool false) (.slice none 0 0) (.slice none 0 0) (.slice none 0 0) (.slice none 0 0)).cell? ⟨g4,6,none⟩=some (.bool false)∧(zcx w8 wr.heap.size (.string q) (.slice a8 1 c8) (.slice none 0 0) (.slice none 0 0) (.bool false) (.slice none 0 0) (.slice none 0 0) (.slice none 0 0) (.slice none 0 0)).cell? ⟨g4,7,none⟩=some (.string ⟨#[]⟩)∧(zcx w8 wr.heap.size (.string q) (.slice a8 1 c8) (.slice none 0 0) (.slice none 0 0) (.bool false) (.slice none 0 0) (.slice none 0 0) (.slice none 0 0) (.slice none 0 0)).cell? ⟨g4,8,none⟩=some (.string ⟨#[]⟩)∧(zcx w8 wr.heap.size (.string q) (.slice a8 1 c8) (.slice none 0 0) (.slice none 0 0) (.bool false) (.slice none 0 0) (.slice none 0 0) (.slice none 0 0) (.slice none 0 0)).cell? ⟨g4,9,none⟩=some (.string ⟨#[]⟩)∧(zcx w8 wr.heap.size (.string q) (.slice a8 1 c8) (.slice none 0 0) (.slice none 0 0) (.bool false) (.slice none 0 0) (.slice none 0 0) (.slice none 0 0) (.slice none 0 0)).cell? ⟨g4,10,none⟩=some (.slice none 0 0):=(by obtain⟨l0,l1,l2,l3,l4,l5,l6,l7,l8,l9,l10,l11,l12,l13,l14,l15,l16,l17,l18,l19,l20,l21⟩:=S8;exact⟨(zba n0 0 (.string q) (.slice a8 1 c8) (.slice none 0 0) (.slice none 0 0) (.bool false) (.slice none 0 0) (.slice none 0 0) (.slice none 0 0) (.slice none 0 0)).trans l0,(zba n0 1 _ _ _ _ _ _ _ _ _).trans l1,(zba n1 0 _ _ _ _ _ _ _ _ _).trans l2,(zba n1 1 _ _ _ _ _ _ _ _ _).trans l3,(zba n1 2 _ _ _ _ _ _ _ _ _).trans l4,(zba n1 3 _ _ _ _ _ _ _ _ _).trans l5,(zba n1 4 _ _ _ _ _ _ _ _ _).trans l6,(zba n1 5 _ _ _ _ _ _ _ _ _).trans l7,(zba n1 6 _ _ _ _ _ _ _ _ _).trans l8,(zba n1 7 _ _ _ _ _ _ _ _ _).trans l9,(zba n1 8 _ _ _ _ _ _ _ _ _).trans l10,(zba n2 0 _ _ _ _ _ _ _ _ _).trans l11,(zba n2 1 _ _ _ _ _ _ _ _ _).trans l12,(zba n2 2 _ _ _ _ _ _ _ _ _).trans l13,(zba n2 3 _ _ _ _ _ _ _ _ _).trans l14,(zba n2 4 _ _ _ _ _ _ _ _ _).trans l15,(zba n2 5 _ _ _ _ _ _ _ _ _).trans l16,(zba n2 6 _ _ _ _ _ _ _ _ _).trans l17,(zba n2 7 _ _ _ _ _ _ _ _ _).trans l18,(zba n2 8 _ _ _ _ _ _ _ _ _).trans l19,(zba n2 9 _ _ _ _ _ _ _ _ _).trans l20,(zba n2 10 _ _ _ _ _ _ _ _ _).trans l21⟩);unfold zcx at S9;have HO8:=Lib.hid ho8.out;clear ho8 B8 hR8 n0 n1 n2;have HG:Hid ((zcx w8 wr.heap.size (.string q) (.slice a8 1 c8) (.slice none 0 0) (.slice none 0 0) (.bool false) (.slice none 0 0) (.slice none 0 0) (.slice none 0 0) (.slice none 0 0)).heap[wr.heap.size]?=some (.cells #[.string q,.slice a8 1 c8,.slice none 0 0,.slice none 0 0,.bool false,.slice none 0 0,.slice none 0 0,.slice none 0 0,.slice none 0 0] DT (0,0))):=Lib.hid (nine_heap (.string q) (.slice a8 1 c8) (.slice none 0 0) (.slice none 0 0) (.bool false) (.slice none 0 0) (.slice none 0 0) (.slice none 0 0) (.slice none 0 0) HR8.out);have HBX:Hid (Below wr.heap.size wr (zcx w8 wr.heap.size (.string q) (.slice a8 1 c8) (.slice none 0 0) (.slice none 0 0) (.bool false) (.slice none 0 0) (.slice none 0 0) (.slice none 0 0) (.slice none 0 0))):=Lib.hid (nine_below _ _ _ _ _ _ _ _ _ HB8.out (Nat.le_refl _));have HOX:Hid ((zcx w8 wr.heap.size (.string q) (.slice a8 1 c8) (.slice none 0 0) (.slice none 0 0) (.bool false) (.slice none 0 0) (.slice none 0 0) (.slice none 0 0) (.slice none 0 0)).ownsRow wr.heap.size Jw.VT 4 (.slice a8 1 c8) 1 (Jw.vC ⟨[88],by8 t,true,2⟩)):=Lib.hid (Mw.zco (Mw.zbk HO8.out fun g hg=>zqa (by have h1:=(HO8.out.lt g hg).1;have:=HZ6.out;omega) _ _ _ _ _ _ _ _ _) (by have:=HZ6.out;omega));unfold dC)))
   all_goals have HD8:=Lib.hid ((HBX.out.block w4.heap.size (by have:=HQ.out;omega)).trans HD5.out)
   all_goals go_upto_region 18 with (fail)
   ·clear S9
    generalize w8.alloc (.cells #[.string q,.slice a8 1 c8,.slice none 0 0,.slice none 0 0,.bool false,.slice none 0 0,.slice none 0 0,.slice none 0 0,.slice none 0 0] DT)=w9 at *
    refine move_row rfl rfl _ _ _ rfl rfl w8.heap.size w4.heap.size #[.string q,.slice a8 1 c8,.slice none 0 0,.slice none 0 0,.bool false,.slice none 0 0,.slice none 0 0,.slice none 0 0,.slice none 0 0] (dC q nilV) rfl HG.out rfl rfl rfl HD8.out rfl (by simp[Value.oneCell']) ?_
    simp only [Act.put,List.setIfInBounds_toArray,List.set]
    have F1:=Lib.hid (below_setRow (cs:=#[.string q,.slice a8 1 c8,.slice none 0 0,.slice none 0 0,.bool false,.slice none 0 0,.slice none 0 0,.slice none 0 0,.slice none 0 0]) (HB45.out.trans (HBX.out.mono HB45.out.size)) (Nat.le_refl w4.heap.size))
    have F2:=Lib.hid (setRow_heap w9 w4.heap.size _ #[.string q,.slice a8 1 c8,.slice none 0 0,.slice none 0 0,.bool false,.slice none 0 0,.slice none 0 0,.slice none 0 0,.slice none 0 0] _ _ HD8.out)
    have F3:=Lib.hid (Mw.zco (Mw.zbk (w':=w9.setRow w4.heap.size #[.string q,.slice a8 1 c8,.slice none 0 0,.slice none 0 0,.bool false,.slice none 0 0,.slice none 0 0,.slice none 0 0,.slice none 0 0]) HOX.out fun g hg=>setRow_other _ _ _ _ (by have h1:=(HOX.out.lt g hg).1;have:=HQ.out;omega)) HB45.out.size)
    generalize w9.setRow w4.heap.size #[.string q,.slice a8 1 c8,.slice none 0 0,.slice none 0 0,.bool false,.slice none 0 0,.slice none 0 0,.slice none 0 0,.slice none 0 0]=w10 at *
    go_wp2_with fail
    exact⟨.inr ⟨rfl,F1.out,a8,c8,F2,F3⟩,by simp[intOf]⟩
   ·clear S9
    change Code.wp _ _ _ _ (zcx w8 wr.heap.size (.string q) (.slice a8 1 c8) (.slice none 0 0) (.slice none 0 0) (.bool false) (.slice none 0 0) (.slice none 0 0) (.slice none 0 0) (.slice none 0 0))
    generalize zcx w8 wr.heap.size (.string q) (.slice a8 1 c8) (.slice none 0 0) (.slice none 0 0) (.bool false) (.slice none 0 0) (.slice none 0 0) (.slice none 0 0) (.slice none 0 0)=w9 at *
    refine move_row rfl rfl _ _ _ rfl rfl wr.heap.size w4.heap.size #[.string q,.slice a8 1 c8,.slice none 0 0,.slice none 0 0,.bool false,.slice none 0 0,.slice none 0 0,.slice none 0 0,.slice none 0 0] (dC q nilV) rfl HG.out rfl rfl rfl HD8.out rfl (by simp[Value.oneCell']) ?_
    simp only [Act.put,List.setIfInBounds_toArray,List.set]
    have F1:=Lib.hid (below_setRow (cs:=#[.string q,.slice a8 1 c8,.slice none 0 0,.slice none 0 0,.bool false,.slice none 0 0,.slice none 0 0,.slice none 0 0,.slice none 0 0]) (HB45.out.trans (HBX.out.mono HB45.out.size)) (Nat.le_refl w4.heap.size))
    have F2:=Lib.hid (setRow_heap w9 w4.heap.size _ #[.string q,.slice a8 1 c8,.slice none 0 0,.slice none 0 0,.bool false,.slice none 0 0,.slice none 0 0,.slice none 0 0,.slice none 0 0] _ _ HD8.out)
    have F3:=Lib.hid (Mw.zco (Mw.zbk (w':=w9.setRow w4.heap.size #[.string q,.slice a8 1 c8,.slice none 0 0,.slice none 0 0,.bool false,.slice none 0 0,.slice none 0 0,.slice none 0 0,.slice none 0 0]) HOX.out fun g hg=>setRow_other _ _ _ _ (by have h1:=(HOX.out.lt g hg).1;have:=HQ.out;omega)) HB45.out.size)
    generalize w9.setRow w4.heap.size #[.string q,.slice a8 1 c8,.slice none 0 0,.slice none 0 0,.bool false,.slice none 0 0,.slice none 0 0,.slice none 0 0,.slice none 0 0]=w10 at *
    go_wp2_with fail
    exact⟨.inr ⟨rfl,F1.out,a8,c8,F2,F3⟩,by simp[intOf]⟩
  ·have hB5:=HB0.out.trans (HB4.out.mono HB0.out.size)
   have HBr:=Lib.hid (hB5.trans (hB.mono hB5.size))
   have hk0:=HK.out wr (HB4.out.trans (hB.mono HB4.out.size))
   have HK0:=Lib.hid hk0
   have HN:=Lib.hid (show w.heap.size+4≤w4.heap.size from by have:=hs0;have:=HB4.out.size;omega)
   have HOr:=Lib.hid (Mw.zco hO.out hB5.size)
   have HDr:=Lib.hid hD.out
   have hO':=hO
   clear hB hD hO hk0 hB5
   go_upto_region 19 with (fail)
   have hne:w.heap.size+1+1≠w.heap.size+1+1+1:=by omega
   refine end_rows rfl rfl rfl rfl _ _ _ _ _ rfl rfl rfl rfl w4.heap.size (w.heap.size+1+1) (w.heap.size+1+1+1) (dC q (.slice a 1 cp)) (dC ⟨#[]⟩ nilV) rfl HDr.out rfl rfl rfl HK0.out.2.2.1 rfl (by simp[dC,Value.oneCell']) rfl rfl zF ((setRow_other _ _ _ _ hne.symm).trans HK0.out.2.2.2) rfl ?_
   simp only [Act.put,List.setIfInBounds_toArray,List.set]
   have G1:=Lib.hid (setRow_heap wr (w.heap.size+1+1) _ (dC q (.slice a 1 cp)) _ _ HK0.out.2.2.1)
   have G2:=Lib.hid (setRow_heap (wr.setRow (w.heap.size+1+1) (dC q (.slice a 1 cp))) (w.heap.size+1+1+1) _ zF _ _ ((setRow_other _ _ _ _ hne.symm).trans HK0.out.2.2.2))
   have G3:=Lib.hid ((setRow_other (wr.setRow (w.heap.size+1+1) (dC q (.slice a 1 cp))) (w.heap.size+1+1+1) _ zF hne).trans G1.out)
   have G4:=Lib.hid (below_setRow (below_setRow HBr.out (show w.heap.size≤w.heap.size+1+1 by omega) (dC q (.slice a 1 cp))) (show w.heap.size≤w.heap.size+1+1+1 by omega) zF)
   have G5:=Lib.hid (Mw.zbk (w':=(wr.setRow (w.heap.size+1+1) (dC q (.slice a 1 cp))).setRow (w.heap.size+1+1+1) zF) HOr.out fun g hg=>by
    have h1:=(hO'.out.lt g hg).1
    have h2:=HN.out
    exact(setRow_other _ _ _ _ (by omega)).trans (setRow_other _ _ _ _ (by omega)))
   generalize (wr.setRow (w.heap.size+1+1) (dC q (.slice a 1 cp))).setRow (w.heap.size+1+1+1) zF=wz at *
   go_wp2_with fail
   refine bodyPost_ret (zrr Tryz.results12 _ _ (w.heap.size+1+1) (w.heap.size+1+1+1) DT FTy _ _ (0,0) (0,0) _ _ rfl rfl G3.out G2.out undD rfl ztf undFa rfl sizeFa) rfl ?_
   exact⟨a,cp,rfl,G5,G4.out⟩
end Dw
end Go.Proofs.YtgdpbnfgcabneaaGreatDoor

/- Part of the proof. -/
import Derived.Test.YtgdpbnfgcabneaaGreatDoorQSRNew
import Derived.Test.YtgdpbnfgcabneaaGreatDoorQDQRead
import Derived.Test.YtgdpbnfgcabneaaGreatDoorQDQRule2
set_option maxRecDepth 100000
set_option maxHeartbeats 40000000
namespace Go.Proofs.YtgdpbnfgcabneaaGreatDoor
namespace Dq
open Go.RowKit Go.Maps Sw
abbrev RST:TypeId:=32
theorem zhg {P:Program} {fn:Func} {o p q r s:Tmp} {ty tz:TypeId} (h:fn.results=#[.tmp o,.cell p ty,.tmp q,.cell r tz,.tmp s]) (tmps:Array Value) (w:World) (g k:Nat) (t u:TypeId) (cs ds:Array Value) (fr gr:Nat×Nat) (d e:TypeDesc) (x y z:Value)
  (ho:tmps.getD o undef=x) (hp:tmps.getD p undef=.pointer (some ⟨g,0,none⟩)) (hq:tmps.getD q undef=y) (hr:tmps.getD r undef=.pointer (some ⟨k,0,none⟩)) (hs:tmps.getD s undef=z) (hg:w.heap[g]?=some (.cells cs t fr)) (hk:w.heap[k]?=some (.cells ds u gr))
  (hu:P.underlying ty=some d) (hd:(match d with | .struct _ | .array _ _=>true | _=>false)=true) (hi:(P.info? ty).map (·.size)=some cs.size)
  (hu':P.underlying tz=some e) (hd':(match e with | .struct _ | .array _ _=>true | _=>false)=true) (hi':(P.info? tz).map (·.size)=some ds.size) :
  (results fn tmps).run P w=.ok (.tuple #[x,.agg cs,y,.agg ds,z]) w:=by
 have ho':tmps[o]?.getD undef=x:=by simpa using ho
 have hp':tmps[p]?.getD undef=.pointer (some ⟨g,0,none⟩):=by simpa using hp
 have hq':tmps[q]?.getD undef=y:=by simpa using hq
 have hr':tmps[r]?.getD undef=.pointer (some ⟨k,0,none⟩):=by simpa using hr
 have hs':tmps[s]?.getD undef=z:=by simpa using hs
 simp[results,h,ho',hp',hq',hr',hs',asAddr,run_loadVar_row w g t ty cs fr d hg hu hd hi,run_loadVar_row w k u tz ds gr e hk hu' hd' hi',Result.andThen]
def zoz:Array Value:=#[.slice none 0 0,.slice none 0 0,.slice none 0 0,.bool false]
def MadePost (w:World) (l:List F) (e:Ending) (w':World):Prop :=
 Below w.heap.size w w'∧((∃ sb bm tb u,sumS l≤4000∧(newA l).2=0∧e=.returned (.tuple #[.pointer (some ⟨sb,0,none⟩),.agg #[u,.int .i64 (newA l).1.c],.pointer (some ⟨tb,0,none⟩),.agg zoz,.bool true])∧StoreAt w' sb bm (newA l).1.L (newA l).1.c∧Files w' u (newA l).1.L∧(∃ a n c,u=.slice a n c)∧Jw.NewT w' tb) ∨
  ∃ v0 u c v2,e=.returned (.tuple #[v0,.agg #[u,.int .i64 c],v2,.agg zoz,.bool false])∧(∃ a n k,u=.slice a n k))
theorem undS:Tryz.prog.underlying RST=some (.struct (Tryz.prog.fieldsOf RST)):=by kernel_rfl
theorem undT:Tryz.prog.underlying Jw.TT=some (.struct (Tryz.prog.fieldsOf Jw.TT)):=by kernel_rfl
theorem sizS:(Tryz.prog.info? RST).map (·.size)=some 2:=by kernel_rfl
theorem sizT:(Tryz.prog.info? Jw.TT).map (·.size)=some 4:=by kernel_rfl
theorem zrh (l:List F):sumP l≤sumS l:=by
 induction l with
 | nil=>exact Nat.le_refl _
 | cons f r ih=>show f.p.length+sumP r≤(10+f.p.length+f.t.length)+sumS r;omega
theorem kept_drewD {X:List Nat} {a b:World} (h:Kw.Kept X a b):Kw.Kept X a b.drew:=⟨h.os,h.tape,h.output,h.size,h.block⟩
theorem zvt {W:World} {b:Nat} {x0 x1 y0 y1 y2 y3:Value} (p0 p1 q0 q1 q2 q3:Value) (hs:W.heap[b]?=some (.cells #[x0,x1] RST (0,0))) (ht:W.heap[b+1]?=some (.cells #[y0,y1,y2,y3] Jw.TT (0,0))) :
  ∀ wz,wz=((((((W.setCell ⟨b,0,none⟩ p0).setCell ⟨b,1,none⟩ p1).setCell ⟨b+1,0,none⟩ q0).setCell ⟨b+1,1,none⟩ q1).setCell ⟨b+1,2,none⟩ q2).setCell ⟨b+1,3,none⟩ q3).drew →
   wz.heap[b]?=some (.cells #[p0,p1] RST (0,0))∧wz.heap[b+1]?=some (.cells #[q0,q1,q2,q3] Jw.TT (0,0))∧Kw.Kept [b,b+1] W wz:=by
 rintro wz rfl
 have hne:b≠b+1:=by omega
 have e0:=Jw.heap_set (i:=0) hs p0
 have e1:=Jw.heap_set (i:=1) e0 p1
 have r1:=zde (i:=1) (zde (i:=0) ht hne.symm p0) hne.symm p1
 have s0:=Jw.heap_set (i:=0) r1 q0
 have s1:=Jw.heap_set (i:=1) s0 q1
 have s2:=Jw.heap_set (i:=2) s1 q2
 have s3:=Jw.heap_set (i:=3) s2 q3
 have t3:=zde (i:=3) (zde (i:=2) (zde (i:=1) (zde (i:=0) e1 hne q0) hne q1) hne q2) hne q3
 have k:=((((((Kw.Kept.refl [b,b+1] W).setCell (p:=⟨b,0,none⟩) (.inl (by simp)) p0).setCell (p:=⟨b,1,none⟩) (.inl (by simp)) p1).setCell (p:=⟨b+1,0,none⟩) (.inl (by simp)) q0).setCell (p:=⟨b+1,1,none⟩) (.inl (by simp)) q1).setCell (p:=⟨b+1,2,none⟩) (.inl (by simp)) q2).setCell (p:=⟨b+1,3,none⟩) (.inl (by simp)) q3
 generalize (((((W.setCell ⟨b,0,none⟩ p0).setCell ⟨b,1,none⟩ p1).setCell ⟨b+1,0,none⟩ q0).setCell ⟨b+1,1,none⟩ q1).setCell ⟨b+1,2,none⟩ q2).setCell ⟨b+1,3,none⟩ q3=wq at *
 exact⟨t3,s3,kept_drewD k⟩
theorem Made_any (w:World) (a:Option Addr) (cp:Nat) (l:List F) (hF:Files w (.slice a l.length cp) l) (hl:∀ f∈l,f.p.length≤1048576∧f.t.length≤1048576) (hn:l.length≤1048577) :
  Calls Tryz.prog 10 #[.slice a l.length cp,.slice none 0 0] w (MadePost w l):=by
 obtain⟨w0,hw⟩:∃ w0,w0=(w.alloc (.cells #[.slice none 0 0,.int .i64 0] RST)).alloc (.cells zoz Jw.TT):=⟨_,rfl⟩
 have HB0:=Lib.hid (show Below w.heap.size w w0 from by rw[hw];exact((Below.refl _ w).alloc (Nat.le_refl _) _).alloc (by simp) _)
 have HX0:=Lib.hid (show w0.heap[w.heap.size]?=some (.cells #[.slice none 0 0,.int .i64 0] RST (0,0))∧w0.heap[w.heap.size+1]?=some (.cells zoz Jw.TT (0,0))∧w0.heap.size=w.heap.size+2 from by
  rw[hw]
  have h1:=Jw.zah w (.cells #[.slice none 0 0,.int .i64 0] RST)
  have h2:=Jw.zah (w.alloc (.cells #[.slice none 0 0,.int .i64 0] RST)) (.cells zoz Jw.TT)
  rw[World.size_alloc] at h2
  refine⟨?_,h2,by simp⟩
  exact(((Below.refl _ (w.alloc (.cells #[.slice none 0 0,.int .i64 0] RST))).alloc (Nat.le_refl _) (.cells zoz Jw.TT)).block _ (by simp)).trans h1)
 have HF0:=Lib.hid (zbq hF HB0.out)
 have HL:=Lib.hid hl
 clear hF hl
 go_enter Tryz.func10,Tryz.ntmps10
 go_wp2_with fail
 unfold zoz at hw
 rw[←hw]
 have HW:=Lib.hid hw
 clear hw
 refine(Jw.PNew_new w0).mono ?_
 rintro e w1 ⟨rfl,hT1,B1⟩
 have HT1:=Lib.hid hT1
 have HB1:=Lib.hid (HB0.out.trans (B1.mono HB0.out.size))
 have HX1:=Lib.hid (And.intro ((B1.block _ (Array.getElem?_eq_some_iff.1 HX0.out.1).1).trans HX0.out.1) ((B1.block _ (Array.getElem?_eq_some_iff.1 HX0.out.2.1).1).trans HX0.out.2.1))
 have HF1:=Lib.hid (zbq HF0.out B1)
 have HS1:=Lib.hid (show w0.heap.size<w1.heap.size from hT1.lt)
 clear hT1 B1
 go_wp2_with fail
 have HA:=Lib.hid ((Below.refl w1.heap.size w1).alloc (Nat.le_refl _) (.cells #[.slice none 0 0,.slice none 0 0,.slice none 0 0,.bool false] Jw.TT))
 have HK:=Lib.hid (Jw.zah w1 (.cells #[.slice none 0 0,.slice none 0 0,.slice none 0 0,.bool false] Jw.TT))
 have hsz2:(w1.alloc (.cells #[.slice none 0 0,.slice none 0 0,.slice none 0 0,.bool false] Jw.TT)).heap.size=w1.heap.size+1:=by simp
 generalize w1.alloc (.cells #[.slice none 0 0,.slice none 0 0,.slice none 0 0,.bool false] Jw.TT)=w2 at *
 go_loopw [11,26] (fun v11 v26 wr=>∃ i:Nat,v26=.int .i64 i∧v11=.int .i64 (sumS (l.take i):Nat)∧i≤l.length∧Below w2.heap.size w2 wr) (fun _ v26 _=>l.length - (intOf v26).toNat)
 case atStart=>exact⟨0,rfl,rfl,Nat.zero_le _,Below.refl _ _⟩
 case round =>
  obtain⟨i,rfl,rfl,hi,hB⟩:=hrel
  by_cases hlt:i<l.length
  ·obtain⟨b,o,rfl,hb,c0,c1,c2,c3⟩:=zqg (zbq HF1.out HA.out) hlt
   have e:=fun i=>hB.cell (p:=⟨b,i,none⟩) hb
   have p0:=(e _).trans c0
   have p1:=(e _).trans c1
   have p2:=(e _).trans c2
   have p3:=(e _).trans c3
   have hfl:=HL.out _ (List.getElem_mem hlt)
   have hS:=sumS_take hlt
   have hbd:=sumS_bound (l.take i) fun f hf=>HL.out f (List.mem_of_mem_take hf)
   rw[List.length_take] at hbd
   generalize hx:l[i]=f at *
   obtain⟨fp,ft,fc,fd⟩:=f
   have s1:(str fp).size=fp.length:=by rw[←zax,zas]
   have s2:(str ft).size=ft.length:=by rw[←zax,zas]
   have HS:Hid ((sumS (l.take (i+1)):Int)=(sumS (l.take i):Int)+(10+((str fp).size:Int)+((str ft).size:Int))):=Lib.hid (by rw[hS,s1,s2];simp)
   have hsum:sumS (l.take i)≤2199035838474:=by have:min i l.length * 2097162≤1048577 * 2097162:=Nat.mul_le_mul_right _ (by omega);omega
   have b1:(str fp).size≤1048576:=by rw[s1];exact hfl.1
   have b2:(str ft).size≤1048576:=by rw[s2];exact hfl.2
   have hki:(i:Int)<l.length:=by omega
   have hk0:(0:Int)≤(i:Int):=Int.natCast_nonneg _
   have hws:=hB.size
   clear c0 c1 c2 c3 e hfl hS hbd s1 s2 hx
   generalize sumS (l.take i)=q at *
   go_wp2_with fail
   go_roundw
   case rel=>exact⟨i+1,by go_num,by rw[HS.out],hlt,hB.alloc hws _⟩
   case measure=>simp[intOf];omega
  ·obtain rfl:i=l.length:=by omega
   rw[List.take_length]
   have HB2:=Lib.hid (HA.out.trans (hB.mono HA.out.size))
   have HK2:=Lib.hid ((hB.block _ (by omega)).trans HK.out)
   clear hB HK
   have hn1:w.heap.size+1<w1.heap.size:=by have:=HX0.out.2.2;have:=HS1.out;omega
   have hx0:=(HB2.out.block w.heap.size (by omega)).trans HX1.out.1
   have hx1:=(HB2.out.block (w.heap.size+1) (by omega)).trans HX1.out.2
   have hsr:=HB2.out.size
   have hsl:w1.heap.size<wr.heap.size:=(Array.getElem?_eq_some_iff.1 HK2.out).1
   have k0:wr.cell? ⟨w1.heap.size,0,none⟩=some (.slice none 0 0):=zaa HK2.out rfl
   have k1:wr.cell? ⟨w1.heap.size,1,none⟩=some (.slice none 0 0):=zaa HK2.out rfl
   have k2:wr.cell? ⟨w1.heap.size,2,none⟩=some (.slice none 0 0):=zaa HK2.out rfl
   have k3:wr.cell? ⟨w1.heap.size,3,none⟩=some (.bool false):=zaa HK2.out rfl
   by_cases hq:(4000:Int)<(sumS l:Int)
   ·go_wp2_with fail
    refine wp_loop_rounds 1 ?_
    rw[rounds_succ]
    go_wp2_with fail
    have s0:wr.cell? ⟨w.heap.size,0,none⟩=some (.slice none 0 0):=zaa hx0 rfl
    have s1:wr.cell? ⟨w.heap.size,1,none⟩=some (.int .i64 0):=zaa hx0 rfl
    have t0:wr.cell? ⟨w.heap.size+1,0,none⟩=some (.slice none 0 0):=zaa hx1 rfl
    have t1:wr.cell? ⟨w.heap.size+1,1,none⟩=some (.slice none 0 0):=zaa hx1 rfl
    have t2:wr.cell? ⟨w.heap.size+1,2,none⟩=some (.slice none 0 0):=zaa hx1 rfl
    have t3:wr.cell? ⟨w.heap.size+1,3,none⟩=some (.bool false):=zaa hx1 rfl
    have fs0:=zad hx0 0
    have fs1:=zad hx0 1
    have ft0:=zad hx1 0
    have ft1:=zad hx1 1
    have ft2:=zad hx1 2
    have ft3:=zad hx1 3
    have HX2:=Lib.hid (And.intro hx0 hx1)
    clear hx0 hx1
    go_region
    have hend:=zvt (.slice none 0 0) (.int .i64 0) (.slice none 0 0) (.slice none 0 0) (.slice none 0 0) (.bool false) HX2.out.1 HX2.out.2 _ rfl
    generalize ((((((wr.setCell ⟨w.heap.size,0,none⟩ (.slice none 0 0)).setCell ⟨w.heap.size,1,none⟩ (.int .i64 0)).setCell ⟨w.heap.size+1,0,none⟩ (.slice none 0 0)).setCell ⟨w.heap.size+1,1,none⟩ (.slice none 0 0)).setCell ⟨w.heap.size+1,2,none⟩ (.slice none 0 0)).setCell ⟨w.heap.size+1,3,none⟩ (.bool false)).drew=wz at *
    obtain⟨z1,z2,hk⟩:=hend
    have HZ:=Lib.hid (And.intro z1 (And.intro z2 hk))
    clear z1 z2 hk k0 k1 k2 k3 s0 s1 t0 t1 t2 t3 fs0 fs1 ft0 ft1 ft2 ft3
    go_wp2_with fail
    refine bodyPost_ret (zhg Tryz.results10 _ _ w.heap.size (w.heap.size+1) RST Jw.TT _ _ (0,0) (0,0) _ _ _ _ _ rfl rfl rfl rfl rfl HZ.out.1 HZ.out.2.1 undS rfl sizS undT rfl sizT) rfl ?_
    refine⟨(HB1.out.trans (HB2.out.mono HB1.out.size)).trans (HZ.out.2.2.to_below (B:=w.heap.size) (by have:=HB2.out.size;omega) (by simp)),.inr ⟨_,_,_,_,rfl,_,_,_,rfl⟩⟩
   ·have HB3:=Lib.hid (HB1.out.trans (HB2.out.mono HB1.out.size))
    have HF3:=Lib.hid (zbq HF1.out HB2.out)
    have HT3:=Lib.hid (HT1.out.below HB2.out)
    have HX3:=Lib.hid (And.intro hx0 hx1)
    have hsum:sumS l≤4000:=by omega
    have hfl:∀ f∈l,f.p.length≤4000∧f.t.length≤4000:=fun f hf=>by have:=sumS_mem hf;omega
    have hlen:=sumS_len l
    have HN:=Lib.hid fun W (h:Files W (.slice a l.length cp) l)=>New_of W (.slice a l.length cp) l h (fun f hf=>by have:=hfl f hf;omega) (by omega)
    have HR:=Lib.hid fun W (h:Files W (.slice a l.length cp) l)=>RNew_any W (.slice a l.length cp) l h (by omega) (fun f hf=>by have:=hfl f hf;omega) (by
     have:=zrh l
     omega)
    rw[new_eq] at HR
    have HSm:=Lib.hid hsum
    clear hx0 hx1 k0 k1 k2 k3 hfl hlen
    go_wp2_with fail
    refine wp_loop_rounds 1 ?_
    rw[rounds_succ]
    go_wp2_with fail
    refine wp_loop_rounds 1 ?_
    rw[rounds_succ]
    go_wp2_with fail
    refine(HN.out _ HF3.out).mono ?_
    intro e w4 hpost
    by_cases hc:(newA l).2=0
    ·unfold ziw at hpost
     rw[if_pos hc] at hpost
     obtain⟨sb,bm,rfl,hsb,hbm,hS,B4⟩:=hpost
     have HS:=Lib.hid hS
     have HB4:=Lib.hid (HB3.out.trans (B4.mono HB3.out.size))
     have HF4:=Lib.hid (zbq HF3.out B4)
     have HT4:=Lib.hid (HT3.out.below B4)
     have HX4:=Lib.hid (And.intro ((B4.block _ (Array.getElem?_eq_some_iff.1 HX3.out.1).1).trans HX3.out.1) ((B4.block _ (Array.getElem?_eq_some_iff.1 HX3.out.2).1).trans HX3.out.2))
     have HK4:=Lib.hid ((B4.block _ hsl).trans HK2.out)
     have HC:=Lib.hid hc
     have HSB:=Lib.hid (And.intro hsb hbm)
     clear hS B4 HN hsb hbm
     go_wp2_with fail
     refine(HR.out _ HF4.out).mono ?_
     rintro e w5 ⟨u,rfl,hR,hu,B5⟩
     obtain⟨ua,un,uc,rfl⟩:=hR.shape
     have HU:=Lib.hid hR.files
     have HUB:=Lib.hid hu
     have HW4:=Lib.hid (show w1.heap.size<w4.heap.size from (Array.getElem?_eq_some_iff.1 HK4.out).1)
     have HB5:=Lib.hid (HB4.out.trans (B5.mono HB4.out.size))
     have HS5:=Lib.hid (HS.out.below B5)
     have HT5:=Lib.hid (HT4.out.below B5)
     have hs4:=(Array.getElem?_eq_some_iff.1 HK4.out).1
     have HX5:=Lib.hid (And.intro ((B5.block _ (Array.getElem?_eq_some_iff.1 HX4.out.1).1).trans HX4.out.1) ((B5.block _ (Array.getElem?_eq_some_iff.1 HX4.out.2).1).trans HX4.out.2))
     have HK5:=Lib.hid ((B5.block _ hs4).trans HK4.out)
     have HL5:=Lib.hid (show w1.heap.size<w5.heap.size from Nat.lt_of_lt_of_le hs4 B5.size)
     clear hR hu B5 HR HX4 HK4 HF4 hs4
     go_wp2_with fail
     have HA6:=Lib.hid ((Below.refl w5.heap.size w5).alloc (Nat.le_refl _) (.cells #[.slice ua un uc,.int .i64 (newA l).1.c] RST))
     have hb6:=Jw.zah w5 (.cells #[.slice ua un uc,.int .i64 (newA l).1.c] RST)
     have hz6:(w5.alloc (.cells #[.slice ua un uc,.int .i64 (newA l).1.c] RST)).heap.size=w5.heap.size+1:=by simp
     generalize w5.alloc (.cells #[.slice ua un uc,.int .i64 (newA l).1.c] RST)=w6 at *
     have hx0:=(HA6.out.block _ (by have:=HL5.out;omega)).trans HX5.out.1
     have hx1:=(HA6.out.block _ (by have:=HL5.out;omega)).trans HX5.out.2
     have hk6:=(HA6.out.block _ HL5.out).trans HK5.out
     have hw1:w1.heap.size<w6.heap.size:=by have:=HL5.out;omega
     have hw5:w5.heap.size<w6.heap.size:=by omega
     have hw15:=HL5.out
     have k0:w6.cell? ⟨w1.heap.size,0,none⟩=some (.slice none 0 0):=zaa hk6 rfl
     have k1:w6.cell? ⟨w1.heap.size,1,none⟩=some (.slice none 0 0):=zaa hk6 rfl
     have k2:w6.cell? ⟨w1.heap.size,2,none⟩=some (.slice none 0 0):=zaa hk6 rfl
     have k3:w6.cell? ⟨w1.heap.size,3,none⟩=some (.bool false):=zaa hk6 rfl
     have b0:w6.cell? ⟨w5.heap.size,0,none⟩=some (.slice ua un uc):=zaa hb6 rfl
     have b1:w6.cell? ⟨w5.heap.size,1,none⟩=some (.int .i64 (newA l).1.c):=zaa hb6 rfl
     have s0:w6.cell? ⟨w.heap.size,0,none⟩=some (.slice none 0 0):=zaa hx0 rfl
     have s1:w6.cell? ⟨w.heap.size,1,none⟩=some (.int .i64 0):=zaa hx0 rfl
     have t0:w6.cell? ⟨w.heap.size+1,0,none⟩=some (.slice none 0 0):=zaa hx1 rfl
     have t1:w6.cell? ⟨w.heap.size+1,1,none⟩=some (.slice none 0 0):=zaa hx1 rfl
     have t2:w6.cell? ⟨w.heap.size+1,2,none⟩=some (.slice none 0 0):=zaa hx1 rfl
     have t3:w6.cell? ⟨w.heap.size+1,3,none⟩=some (.bool false):=zaa hx1 rfl
     have fs0:=zad hx0 0
     have fs1:=zad hx0 1
     have ft0:=zad hx1 0
     have ft1:=zad hx1 1
     have ft2:=zad hx1 2
     have ft3:=zad hx1 3
     have HX6:=Lib.hid (And.intro hx0 hx1)
     clear hx0 hx1 hb6 hk6
     go_region
     have hend:=zvt (.slice ua un uc) (.int .i64 (newA l).1.c) (.slice none 0 0) (.slice none 0 0) (.slice none 0 0) (.bool false) HX6.out.1 HX6.out.2 _ rfl
     generalize ((((((w6.setCell ⟨w.heap.size,0,none⟩ (.slice ua un uc)).setCell ⟨w.heap.size,1,none⟩ (.int .i64 (newA l).1.c)).setCell ⟨w.heap.size+1,0,none⟩ (.slice none 0 0)).setCell ⟨w.heap.size+1,1,none⟩ (.slice none 0 0)).setCell ⟨w.heap.size+1,2,none⟩ (.slice none 0 0)).setCell ⟨w.heap.size+1,3,none⟩ (.bool false)).drew=wz at *
     obtain⟨z1,z2,hk⟩:=hend
     have HZ:=Lib.hid (And.intro z1 (And.intro z2 hk))
     clear z1 z2 hk k0 k1 k2 k3 b0 b1 s0 s1 t0 t1 t2 t3 fs0 fs1 ft0 ft1 ft2 ft3
     go_wp2_with fail
     refine bodyPost_ret (zhg Tryz.results10 _ _ w.heap.size (w.heap.size+1) RST Jw.TT _ _ (0,0) (0,0) _ _ _ _ _ rfl rfl rfl rfl rfl HZ.out.1 HZ.out.2.1 undS rfl sizS undT rfl sizT) rfl ?_
     have hb:=HZ.out.2.2
     have kk:Sw.Kept [w.heap.size,w.heap.size+1] w6 wz:=⟨hb.os,hb.tape,hb.output,hb.size,hb.block⟩
     have h0:=HX0.out.2.2
     have h1:=HS1.out
     have h2:=HW4.out
     have h3:=HSB.out
     have h4:=HB2.out.size
     refine⟨(HB5.out.trans (HA6.out.mono HB5.out.size)).trans (hb.to_below (B:=w.heap.size) (by omega) (by simp)),.inl ⟨sb,bm,w0.heap.size,.slice ua un uc,HSm.out,HC.out,rfl,(HS5.out.below HA6.out).kept kk (by simp;omega) (by simp;omega),(zbq HU.out HA6.out).kept kk (fun b hb'=>?_),⟨_,_,_,rfl⟩,(HT5.out.below HA6.out).block (hb.block _ (HT5.out.below HA6.out).lt ?_)⟩⟩
     ·have:=HUB.out b hb'
      simp;omega
     ·simp;omega
    ·unfold ziw at hpost
     rw[if_neg hc] at hpost
     obtain⟨rfl,B4⟩:=hpost
     have HB4:=Lib.hid (HB3.out.trans (B4.mono HB3.out.size))
     have HF4:=Lib.hid (zbq HF3.out B4)
     have HT4:=Lib.hid (HT3.out.below B4)
     have HX4:=Lib.hid (And.intro ((B4.block _ (Array.getElem?_eq_some_iff.1 HX3.out.1).1).trans HX3.out.1) ((B4.block _ (Array.getElem?_eq_some_iff.1 HX3.out.2).1).trans HX3.out.2))
     have HK4:=Lib.hid ((B4.block _ hsl).trans HK2.out)
     have hcz:((newA l).2 == 0)=false:=by simpa using hc
     clear B4 HN
     go_wp2_with fail
     refine(HR.out _ HF4.out).mono ?_
     rintro e w5 ⟨u,rfl,hR,hu,B5⟩
     obtain⟨ua,un,uc,rfl⟩:=hR.shape
     have HU:=Lib.hid hR.files
     have HUB:=Lib.hid hu
     have HW4:=Lib.hid (show w1.heap.size<w4.heap.size from (Array.getElem?_eq_some_iff.1 HK4.out).1)
     have HB5:=Lib.hid (HB4.out.trans (B5.mono HB4.out.size))
     have HT5:=Lib.hid (HT4.out.below B5)
     have hs4:=(Array.getElem?_eq_some_iff.1 HK4.out).1
     have HX5:=Lib.hid (And.intro ((B5.block _ (Array.getElem?_eq_some_iff.1 HX4.out.1).1).trans HX4.out.1) ((B5.block _ (Array.getElem?_eq_some_iff.1 HX4.out.2).1).trans HX4.out.2))
     have HK5:=Lib.hid ((B5.block _ hs4).trans HK4.out)
     have HL5:=Lib.hid (show w1.heap.size<w5.heap.size from Nat.lt_of_lt_of_le hs4 B5.size)
     clear hR hu B5 HR HX4 HK4 HF4 hs4
     go_wp2_with fail
     have HA6:=Lib.hid ((Below.refl w5.heap.size w5).alloc (Nat.le_refl _) (.cells #[.slice ua un uc,.int .i64 (newA l).1.c] RST))
     have hb6:=Jw.zah w5 (.cells #[.slice ua un uc,.int .i64 (newA l).1.c] RST)
     have hz6:(w5.alloc (.cells #[.slice ua un uc,.int .i64 (newA l).1.c] RST)).heap.size=w5.heap.size+1:=by simp
     generalize w5.alloc (.cells #[.slice ua un uc,.int .i64 (newA l).1.c] RST)=w6 at *
     have hx0:=(HA6.out.block _ (by have:=HL5.out;omega)).trans HX5.out.1
     have hx1:=(HA6.out.block _ (by have:=HL5.out;omega)).trans HX5.out.2
     have hk6:=(HA6.out.block _ HL5.out).trans HK5.out
     have hw1:w1.heap.size<w6.heap.size:=by have:=HL5.out;omega
     have hw5:w5.heap.size<w6.heap.size:=by omega
     have hw15:=HL5.out
     have k0:w6.cell? ⟨w1.heap.size,0,none⟩=some (.slice none 0 0):=zaa hk6 rfl
     have k1:w6.cell? ⟨w1.heap.size,1,none⟩=some (.slice none 0 0):=zaa hk6 rfl
     have k2:w6.cell? ⟨w1.heap.size,2,none⟩=some (.slice none 0 0):=zaa hk6 rfl
     have k3:w6.cell? ⟨w1.heap.size,3,none⟩=some (.bool false):=zaa hk6 rfl
     have b0:w6.cell? ⟨w5.heap.size,0,none⟩=some (.slice ua un uc):=zaa hb6 rfl
     have b1:w6.cell? ⟨w5.heap.size,1,none⟩=some (.int .i64 (newA l).1.c):=zaa hb6 rfl
     have s0:w6.cell? ⟨w.heap.size,0,none⟩=some (.slice none 0 0):=zaa hx0 rfl
     have s1:w6.cell? ⟨w.heap.size,1,none⟩=some (.int .i64 0):=zaa hx0 rfl
     have t0:w6.cell? ⟨w.heap.size+1,0,none⟩=some (.slice none 0 0):=zaa hx1 rfl
     have t1:w6.cell? ⟨w.heap.size+1,1,none⟩=some (.slice none 0 0):=zaa hx1 rfl
     have t2:w6.cell? ⟨w.heap.size+1,2,none⟩=some (.slice none 0 0):=zaa hx1 rfl
     have t3:w6.cell? ⟨w.heap.size+1,3,none⟩=some (.bool false):=zaa hx1 rfl
     have fs0:=zad hx0 0
     have fs1:=zad hx0 1
     have ft0:=zad hx1 0
     have ft1:=zad hx1 1
     have ft2:=zad hx1 2
     have ft3:=zad hx1 3
     have HX6:=Lib.hid (And.intro hx0 hx1)
     clear hx0 hx1 hb6 hk6
     go_region
     have hend:=zvt (.slice ua un uc) (.int .i64 (newA l).1.c) (.slice none 0 0) (.slice none 0 0) (.slice none 0 0) (.bool false) HX6.out.1 HX6.out.2 _ rfl
     generalize ((((((w6.setCell ⟨w.heap.size,0,none⟩ (.slice ua un uc)).setCell ⟨w.heap.size,1,none⟩ (.int .i64 (newA l).1.c)).setCell ⟨w.heap.size+1,0,none⟩ (.slice none 0 0)).setCell ⟨w.heap.size+1,1,none⟩ (.slice none 0 0)).setCell ⟨w.heap.size+1,2,none⟩ (.slice none 0 0)).setCell ⟨w.heap.size+1,3,none⟩ (.bool false)).drew=wz at *
     obtain⟨z1,z2,hk⟩:=hend
     have HZ:=Lib.hid (And.intro z1 (And.intro z2 hk))
     clear z1 z2 hk k0 k1 k2 k3 b0 b1 s0 s1 t0 t1 t2 t3 fs0 fs1 ft0 ft1 ft2 ft3
     go_wp2_with fail
     refine bodyPost_ret (zhg Tryz.results10 _ _ w.heap.size (w.heap.size+1) RST Jw.TT _ _ (0,0) (0,0) _ _ _ _ _ rfl rfl rfl rfl rfl HZ.out.1 HZ.out.2.1 undS rfl sizS undT rfl sizT) rfl ?_
     have hb:=HZ.out.2.2
     have h1:=HB4.out.size
     refine⟨(HB5.out.trans (HA6.out.mono HB5.out.size)).trans (hb.to_below (B:=w.heap.size) (by omega) (by simp)),.inr ⟨_,_,_,_,rfl,_,_,_,rfl⟩⟩
end Dq
namespace Dq
open Go.RowKit Go.Maps Ww Tw Kw Jw Xb Xw Dz
abbrev whS:Bs:=[100,47,77,97,107,101,102,105,108,101]
abbrev txS:Bs:=[97,58,32,98]
def liveF:List Sw.F:=[⟨whS,txS,0,false⟩]
def liveL:List Sw.F:=(Sw.newA liveF).1.L
theorem live_code:(Sw.newA liveF).2=0:=by kernel_rfl
theorem live_get:Sw.zsl (Sw.getR liveL whS)=(txS,0):=by kernel_rfl
theorem live_parts:Mp.zkg txS=.ok [⟨1,1,[],[],[],false,false,[97],[98],[],[]⟩]:=by rfl
theorem live_j0:Pt.join [[100],[77,97,107,101,102,105,108,101]]=some whS:=by kernel_rfl
theorem live_j1:Pt.join [[100],[97]]=some [100,47,97]:=by kernel_rfl
theorem live_j2:Pt.join [[100],[98]]=some [100,47,98]:=by kernel_rfl
theorem live_clean:zaq [100]=true:=by kernel_rfl
theorem live_w1:zbg (str [97])=[⟨#[97]⟩]:=by kernel_rfl
theorem live_w2:zbg (str [98])=[⟨#[98]⟩]:=by kernel_rfl
theorem live_w3:zbg (str [])=[]:=by kernel_rfl
def LiveP (db:Nat) (W:World):Prop:=∃ tb g c ga,W.heap[db]?=some (.cells (dC ⟨#[100]⟩ tb (.slice (some ⟨g,0,none⟩) 1 c) (.slice none 0 0) (.slice none 0 0) (.slice none 0 0)) DT (0,0)) ∧
 One W 0 g c [.string ⟨#[100,47,97]⟩,.string ⟨#[97]⟩,.slice (some ⟨ga,0,none⟩) 1 1,.slice none 0 0,.slice none 0 0,.int .i64 0,.bool false]∧FAt W ga ⟨#[100,47,98]⟩ ⟨#[98]⟩
theorem LiveP.set {db b i:Nat} {W:World} {T:TypeId} {v:Value} (hT:T≠DT∧T≠GT∧T≠FiT) (hb:∃ cs,W.heap[b]?=some (.cells cs T (0,0))) (h:LiveP db W):LiveP db (W.setCell ⟨b,i,none⟩ v):=by
 obtain⟨cs,hb⟩:=hb
 obtain⟨tb,g,c,ga,h1,h2,h3⟩:=h
 have n1:db≠b:=fun e=>by subst e;rw[hb] at h1;injection h1 with h1;injection h1 with _ h1;exact hT.1 h1
 have n2:g≠b:=fun e=>by
  subst e
  obtain⟨cur,h4,_⟩:=h2.row
  rw[hb] at h4;injection h4 with h4;injection h4 with _ h4;exact hT.2.1 h4
 have n3:ga≠b:=fun e=>by
  subst e
  obtain⟨cur,h4,_⟩:=h3
  rw[hb] at h4;injection h4 with h4;injection h4 with _ h4;exact hT.2.2 h4
 exact⟨tb,g,c,ga,zde h1 n1 v,h2.block (Below.heap_setCell _ _ _ _ n2),h3.block (Below.heap_setCell _ _ _ _ n3)⟩
theorem live_all (w:World) (sp:Option Addr):AllC w [] (.pointer sp) ⟨#[100]⟩ (pC ((1:Nat):Int) ((1:Nat):Int) (str []) (str []) (str []) false false (str [97]) (str [98]) (str [])) LiveP:=by
 intro W0 W rb db tb sx dx rx fx ib kb X g c ra rc hB hw hBw hdb hdl hT hX hg hP
 have hal:=all_one W rb g c 1 1 ⟨#[]⟩ ⟨#[]⟩ ⟨#[]⟩ false false (str [97]) (str [98]) (str []) ra 0 rc hP [db,ib] (by
  intro i hi
  simp at hi
  rcases hi with rfl | rfl
  ·exact(Array.getElem?_eq_some_iff.1 hB.d).1
  ·exact hB.i.lt) (LiveP db) (fun W b i v hb h=>LiveP.set ⟨by decide,by decide,by decide⟩ hb h) (by
  intro W1 hW1
  have hB1:=hB.below hW1
  have hA:=(Below.refl W1.heap.size W1).alloc (Nat.le_refl _) (.cells #[.int .i64 1,.int .i64 1,.string ⟨#[]⟩,.string ⟨#[]⟩,.string ⟨#[]⟩,.bool false,.bool false,.string (str [97]),.string (str [98]),.string (str []),.slice ra 0 rc] 219)
  have hB2:=hB1.below hA
  have hr:=rule_one hB2.r hB2.d hB2.i ⟨#[97]⟩ ⟨#[98]⟩ [100,47,97] [100,47,98] ⟨by decide,by decide⟩ (by decide) (Lib.hid live_j1) (Lib.hid live_j2) (by decide) (by kernel_rfl) (by kernel_rfl) (by rw[zau];decide) (by rw[zau];decide) 1 [97] [98] [] ra rc ⟨by decide,by decide,live_w1⟩ ⟨by decide,by decide,live_w2⟩ ⟨by decide,by decide,live_w3⟩ (by kernel_rfl)
  refine part_rule W1 rb 1 (str [97]) (str [98]) (str []) (.slice ra 0 rc) ⟨_,_,_,rfl⟩ (fun _ w'=>Kept [db,ib] W1 w'∧LiveP db w') (hr.mono ?_)
  rintro e w' ⟨rfl,g',c',ga,h1,h2,h3,h4⟩
  exact⟨rfl,(Kept.of_below hA).trans h4,_,g',c',ga,h1,⟨Nat.zero_le _,h2.row,h2.c1,h2.cm⟩,h3⟩)
 refine hal.mono ?_
 rintro e w' ⟨rfl,hk,hp⟩
 refine⟨[db,ib],rfl,hk,?_,hp⟩
 intro i hi
 simp at hi
 rcases hi with rfl | rfl
 ·exact .inl rfl
 ·exact .inr (.inr ⟨hB.new.2.2.2.2.2.1,hB.i.not_cells hB.r⟩)
abbrev AFT:TypeId:=29
abbrev mkT:ByteArray:=⟨#[100,47,77,97,107,101,102,105,108,101]⟩
theorem new_live (w:World) (b:Nat) (hb:b=w.heap.size):Calls Tryz.prog 37 #[.slice (some ⟨b,0,none⟩) 1 1] (w.alloc (.cells #[.string mkT,.string ⟨#[97,58,32,98]⟩,.int .i64 0,.bool false] AFT)) fun e w' =>
  ∃ sb bm c,e=.returned (.tuple #[.pointer (some ⟨sb,0,none⟩),.int .i64 0])∧Sw.StoreAt w' sb bm liveL c∧Below w.heap.size w w':=by
 subst hb
 have hh:=zah w (.cells #[.string mkT,.string ⟨#[97,58,32,98]⟩,.int .i64 0,.bool false] AFT)
 have hG:Sw.Given (w.alloc (.cells #[.string mkT,.string ⟨#[97,58,32,98]⟩,.int .i64 0,.bool false] AFT)) w.heap.size 0 1 liveF:=⟨by simp,fun j f hf=>by
  match j,hf with
  | 0,hf=>cases hf;exact⟨zaa hh rfl,zaa hh rfl,zaa hh rfl,zaa hh rfl⟩,by
  intro f hf
  simp[liveF] at hf
  subst hf
  exact⟨by decide,by decide⟩,by decide⟩
 have h:=Sw.New_some _ _ 0 1 liveF hG
 refine h.mono ?_
 intro e w' h
 unfold Sw.ziw at h
 rw[if_pos live_code] at h
 obtain⟨sb,bm,rfl,h1,h2,h3,hB⟩:=h
 exact⟨sb,bm,_,rfl,h3,((Below.refl _ w).alloc (Nat.le_refl _) _).trans (hB.mono (by simp))⟩
theorem equal_one (w:World) (g k c d:Nat) (h1:FAt w g ⟨#[100,47,98]⟩ ⟨#[98]⟩) (h2:FAt w k ⟨#[100,47,98]⟩ ⟨#[98]⟩) :
  Calls Tryz.prog 40 #[.slice (some ⟨g,0,none⟩) 1 c,.slice (some ⟨k,0,none⟩) 1 d] w fun e w'=>e=.returned (.bool true)∧w.heap=w'.heap∧Below w.heap.size w w':=by
 have hq:∀ w:World,(binOp .neq FiT (.agg #[.string ⟨#[100,47,98]⟩,.string ⟨#[98]⟩]) (.agg #[.string ⟨#[100,47,98]⟩,.string ⟨#[98]⟩])).run Tryz.prog w=.ok (.bool false) w:=fun w=>by kernel_rfl
 obtain⟨c1,a1,a2,a3⟩:=h1
 obtain⟨c2,b1,b2,b3⟩:=h2
 have x1:=zaa a1 a2
 have x2:=zaa a1 a3
 have y1:=zaa b1 b2
 have y2:=zaa b1 b3
 have l1:=(Array.getElem?_eq_some_iff.1 a1).1
 have l2:=(Array.getElem?_eq_some_iff.1 b1).1
 clear a1 a2 a3 b1 b2 b3
 go_enter Tryz.func40,Tryz.ntmps40
 go_wp2_with fail
 refine wp_loop_rounds 2 ?_
 rw[rounds_succ]
 go_wp2_with fail
 go_quiet (fail)
 go_wp2_with fail
 rw[rounds_succ]
 go_wp2_with fail
 go_ret
 exact⟨rfl,rfl,((Kept.refl [] w).drewN _).to_below (Nat.le_refl _) (by simp)⟩
theorem ztb (w:World):Calls Tryz.prog 7 #[] w fun e w'=>e=.returned (.bool true)∧Below w.heap.size w w':=by
 have HN:=Lib.hid fun W b hb=>new_live W b hb
 have hqF:∀ w:World,(binOp .eql FaT (.agg #[.int .i64 0,.string ⟨#[]⟩,.int .i64 0]) (.agg #[.int .i64 0,.string ⟨#[]⟩,.int .i64 0])).run Tryz.prog w=.ok (.bool true) w:=fun w=>by kernel_rfl
 go_enter Tryz.func7,Tryz.ntmps7
 go_wp2_with fail
 refine(HN.out w _ rfl).mono ?_
 rintro e w1 ⟨sb,bm,c,rfl,hS,B1⟩
 have HS:=Lib.hid hS
 have HB1:=Lib.hid B1
 clear hS B1 HN
 go_wp2_with fail
 refine(PNew_new w1).mono ?_
 rintro e w2 ⟨rfl,hT,B2⟩
 have HS2:=Lib.hid (HS.out.below B2)
 have HT:=Lib.hid hT
 have HB2:=Lib.hid (HB1.out.trans (B2.mono HB1.out.size))
 clear hT B2
 go_wp2_with fail
 refine(Read_ok w2 (some ⟨sb,0,none⟩) HT.out ⟨#[100]⟩ whS txS (by decide) live_clean (Lib.hid live_j0) (fun W hW=>by
  have h:=Sw.Read_any W mkT (Sw.getR liveL whS) (HS2.out.below hW) (by decide) (Lib.hid rfl)
  rw[live_get] at h
  exact h) (by decide) 1 1 [] [] [] [97] [98] [] false false live_parts LiveP (fun db W b i v hb h=>LiveP.set ⟨by decide,by decide,by decide⟩ hb h) (live_all w2 _)).mono ?_
 rintro e w3 ⟨db,rfl,B3,hdb,tb,g,cg,ga,h1,h2,h3⟩
 have HB3:=Lib.hid (HB2.out.trans (B3.mono HB2.out.size))
 have hA:Below w3.heap.size w3 (w3.alloc (.cells #[.int .i64 0,.string ⟨#[]⟩,.int .i64 0] FaT)):=(Below.refl _ w3).alloc (Nat.le_refl _) _
 have g1:=(hA.block _ (Array.getElem?_eq_some_iff.1 h1).1).trans h1
 have g2:=h2.block (hA.block _ h2.lt)
 have g3:=h3.block (hA.block _ h3.lt)
 have HE:=Lib.hid g3
 have z2:(w3.alloc (.cells #[.int .i64 0,.string ⟨#[]⟩,.int .i64 0] FaT)).cell? ⟨db,2,none⟩=some (.slice (some ⟨g,0,none⟩) 1 cg):=zaa (i:=2) g1 rfl
 have o0:(w3.alloc (.cells #[.int .i64 0,.string ⟨#[]⟩,.int .i64 0] FaT)).cell? ⟨g,0,none⟩=some (.string ⟨#[100,47,97]⟩):=g2.cell (i:=0) (by decide) rfl
 have o2:(w3.alloc (.cells #[.int .i64 0,.string ⟨#[]⟩,.int .i64 0] FaT)).cell? ⟨g,2,none⟩=some (.slice (some ⟨ga,0,none⟩) 1 1):=g2.cell (i:=2) (by decide) rfl
 have l1:=(Array.getElem?_eq_some_iff.1 g1).1
 have l2:=g2.lt
 have hc1:=h2.c1
 clear h1 h2 h3 g1 g2 g3 hA B3 HS HS2 HT
 go_wp2_with fail
 have hF2:=HE.out.block (((Below.refl _ (w3.alloc (.cells #[.int .i64 0,.string ⟨#[]⟩,.int .i64 0] FaT))).alloc (Nat.le_refl _) (.cells #[.string ⟨#[100,47,98]⟩,.string ⟨#[98]⟩] FiT)).block _ HE.out.lt)
 have hl2:=zah (w3.alloc (.cells #[.int .i64 0,.string ⟨#[]⟩,.int .i64 0] FaT)) (.cells #[.string ⟨#[100,47,98]⟩,.string ⟨#[98]⟩] FiT)
 rw[World.size_alloc] at hl2
 have HB4:=Lib.hid ((HB3.out.alloc HB3.out.size (.cells #[.int .i64 0,.string ⟨#[]⟩,.int .i64 0] FaT)).alloc (by have:=HB3.out.size;simp;omega) (.cells #[.string ⟨#[100,47,98]⟩,.string ⟨#[98]⟩] FiT))
 refine(equal_one _ ga (w3.heap.size+1) 1 1 hF2 ⟨_,hl2,rfl,rfl⟩).mono ?_
 rintro e w4 ⟨rfl,_,B4⟩
 have HB5:=Lib.hid (HB4.out.trans (B4.mono HB4.out.size))
 clear hF2 hl2 B4 z2 o0 o2 l1 l2
 go_wp2_with fail
 go_ret
 exact⟨rfl,HB5.out⟩
end Dq
end Go.Proofs.YtgdpbnfgcabneaaGreatDoor

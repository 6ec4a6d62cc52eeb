/- Part of the proof. -/
import Derived.Test.YtgdpbnfgcabneaaGreatDoorQWSplit
import Derived.Test.YtgdpbnfgcabneaaGreatDoorQXPlain
import Derived.Test.YtgdpbnfgcabneaaGreatDoorQWCut
set_option maxRecDepth 100000
set_option maxHeartbeats 40000000
namespace Go.Proofs.YtgdpbnfgcabneaaGreatDoor
namespace Tw
open Go.RowKit Ww
end Tw
namespace Xc
open Go.RowKit Go.Shelf Ww Tw
attribute [local go_sem] Oper.semAt_some
abbrev IT:TypeId:=3
abbrev BoT:TypeId:=4
abbrev SS:TypeId:=9
def sX:ByteArray:=str [97,46,99,32,98,46,99]
def fX:ByteArray:=str [37,46,99]
def tX:ByteArray:=str [37,46,111]
def CI (w:World) (kb:Nat) (pre:List (Nat×Nat)) (W:World):Prop :=
 Boxed W w.heap.size SS (.string fX)∧Boxed W (w.heap.size+1) SS (.string tX)∧Boxed W kb BoT (.bool true)∧Boxed W (kb+1) IT (.int .i64 ((3 * pre.length:Nat):Int))∧Boxed W (kb+2) SS (.string sX)∧Below w.heap.size w W
theorem CI.own (w:World) (kb:Nat) (B:Nat) (hB:w.heap.size≤B):OwnFrom B (CI w kb) :=
 OwnFrom.and (Own.from (boxed_own w.heap.size SS (fun _:List (Nat×Nat)=>.string fX)) _) (OwnFrom.and (Own.from (boxed_own (w.heap.size+1) SS (fun _:List (Nat×Nat)=>.string tX)) _) (OwnFrom.and (Own.from (boxed_own kb BoT (fun _:List (Nat×Nat)=>.bool true)) _)
  (OwnFrom.and (Own.from (boxed_own (kb+1) IT (fun pre:List (Nat×Nat)=>.int .i64 ((3 * pre.length:Nat):Int))) _) (OwnFrom.and (Own.from (boxed_own (kb+2) SS (fun _:List (Nat×Nat)=>.string sX)) _) (ownFrom_below (Nat.le_refl _) hB)))))
end Xc
namespace Xw
open Go.RowKit Ww Tw Kw Jw Xb
abbrev LT:TypeId:=357
theorem liesL:liesAt Tryz.prog Tryz.prog.depth LT (3 / Tryz.prog.cellsOf LT) 0 BT 1=true:=by kernel_rfl
structure LAt (w:World) (b B:Nat) (l:Bs) (q:Bool) (pv bv:Value) (cs:Array Value):Prop where
 b:BAt w LT b 0 B l pv bv cs
 has:cs[2]?=some (.bool q)
 size:cs.size=3
theorem LAt.new (w:World):LAt (w.alloc (.cells #[.pointer none,.slice none 0 0,.bool false] LT)) w.heap.size (w.heap.size+1) [] false (.pointer none) (.slice none 0 0) #[.pointer none,.slice none 0 0,.bool false] :=
 ⟨⟨zah _ _,rfl,rfl,.inl rfl,World.ownsRow_nil _ _ _ _,liesL,by decide⟩,rfl,rfl⟩
theorem LAt.set {w:World} {b B:Nat} {l:Bs} {q:Bool} {pv bv:Value} {cs:Array Value} (h:LAt w b B l q pv bv cs) (r:Bool):LAt (w.setCell ⟨b,2,none⟩ (.bool r)) b B l r pv bv (cs.setIfInBounds 2 (.bool r)):=by
 have hg:w.grownBy (w.setCell ⟨b,2,none⟩ (.bool r)) (some b):=⟨rfl,rfl,rfl,by simp[World.setCell],fun j _ hj=>Below.heap_setCell _ _ _ _ (fun e=>hj (by simp[e]))⟩
 exact⟨⟨heap_set (i:=2) h.b.cells _,by rw[Array.getElem?_setIfInBounds_ne (by omega)];exact h.b.ptr,by rw[Array.getElem?_setIfInBounds_ne (by omega)];exact h.b.buf,h.b.used,h.b.own.kept hg (Or.inr h.b.not_own),by simpa using h.b.lies,h.b.ne⟩,by simp[h.size],by simp[h.size]⟩
theorem LAt.cell {w:World} {b B:Nat} {l:Bs} {q:Bool} {pv bv:Value} {cs:Array Value} (h:LAt w b B l q pv bv cs):w.cell? ⟨b,2,none⟩=some (.bool q):=zaa h.b.cells h.has
def Added (w:World) (b B:Nat) (l:Bs) (q:Bool) (w':World):Prop:=∃ (Y:List Nat) (bv':Value) (cs':Array Value),LAt w' b B l q (.pointer (some ⟨b,0,none⟩)) bv' cs'∧Kept Y w w'∧∀ i∈Y,i=b∨B≤i
theorem zqs (w:World) {b B:Nat} {l:Bs} {q:Bool} {pv bv:Value} {cs:Array Value} (h:LAt w b B l q pv bv cs) (s:ByteArray) (hl:l.length+s.size≤1048576) :
  (hBw:B≤w.heap.size)→Calls Tryz.prog 196 #[.pointer (some ⟨b,0,none⟩),.string s] w fun e w'=>e=.returned (.tuple #[])∧Added w b B (l++by8 s) q w':=by
 intro hBw
 refine(zgr w h.b s hl hBw).mono ?_
 rintro e w' ⟨rfl,bv',hb,hk⟩
 have hsz:=h.size
 refine⟨rfl,_,bv',_,⟨hb,?_,?_⟩,hk,fun i hi=>?_⟩
 ·unfold bCs
  rw[Array.getElem?_setIfInBounds_ne (by omega),Array.getElem?_setIfInBounds_ne (by omega)]
  exact h.has
 ·unfold bCs;simpa using hsz
 ·rcases List.mem_cons.1 hi with rfl | hi
  ·exact .inl rfl
  ·exact .inr (h.b.fresh i hi)
theorem zkd {Y Z:List Nat} {a b c:World} (h:Kept Y a b) (k:Kept Z b c):Kept (Y++Z) a c:=(h.mono fun i hi=>by simp[hi]).trans (k.mono fun i hi=>by simp[hi])
theorem put_any (w:World) {b B:Nat} {l:Bs} {q:Bool} {pv bv:Value} {cs:Array Value} (h:LAt w b B l q pv bv cs) (s:ByteArray) (hl:l.length+s.size+1≤1048576) (hBw:B≤w.heap.size) :
  Calls Tryz.prog 260 #[.pointer (some ⟨b,0,none⟩),.string s] w fun e w'=>e=.returned (.tuple #[])∧Added w b B (l++(if q=true then [32] else [])++by8 s) true w':=by
 have hlt:=h.b.lt
 have c2:=h.cell
 have f2:=zad h.b.cells 2
 cases q with
 | false =>
  have HL:=Lib.hid (h.set true)
  have HK:=Lib.hid ((Kept.refl [b] w).setCell (p:=⟨b,2,none⟩) (.inl (by simp)) (.bool true))
  clear h
  go_enter Tryz.func260,Tryz.ntmps260
  go_wp2_with fail
  refine(zqs _ HL.out s (by omega) (by simpa[World.setCell] using hBw)).mono ?_
  rintro e w1 ⟨rfl,Y,bv',cs',hL1,hK1,hY⟩
  have HL1:=Lib.hid hL1
  have HK1:=Lib.hid (zkd HK.out hK1)
  clear hL1 hK1 HL HK
  go_wp2_with fail
  go_end0
  refine⟨rfl,_,bv',cs',?_,HK1.out,fun i hi=>?_⟩
  ·exact HL1.out
  ·rcases List.mem_append.1 hi with hi | hi
   ·exact .inl (List.mem_singleton.1 hi)
   ·exact hY i hi
 | true =>
  have H:=Lib.hid h
  clear h
  go_enter Tryz.func260,Tryz.ntmps260
  go_wp2_with fail
  refine(zqs _ H.out ⟨#[32]⟩ (by show l.length+1≤_;omega) hBw).mono ?_
  rintro e w1 ⟨rfl,Y,bv1,cs1,hL1,hK1,hY⟩
  have hlt1:=hL1.b.lt
  have d2:=hL1.cell
  have g2:=zad hL1.b.cells 2
  have HL2:=Lib.hid (hL1.set true)
  have HK2:=Lib.hid (zkd hK1 ((Kept.refl [b] w1).setCell (p:=⟨b,2,none⟩) (.inl (by simp)) (.bool true)))
  have hB1:B≤(w1.setCell ⟨b,2,none⟩ (.bool true)).heap.size:=by have:=hK1.size;simp[World.setCell];omega
  clear hL1 hK1 H
  go_wp2_with fail
  refine(zqs _ HL2.out s (by rw[List.length_append];show l.length+1+s.size≤_;omega) hB1).mono ?_
  rintro e w3 ⟨rfl,Z,bv3,cs3,hL3,hK3,hZ⟩
  have HL3:=Lib.hid hL3
  have HK3:=Lib.hid (zkd HK2.out hK3)
  clear hL3 hK3 HL2 HK2
  go_wp2_with fail
  go_end0
  refine⟨rfl,_,bv3,cs3,?_,HK3.out,fun i hi=>?_⟩
  ·have h:=HL3.out
   rw[show by8 ⟨#[32]⟩=[32] from rfl,List.append_assoc] at h
   exact h
  ·rcases List.mem_append.1 hi with hi | hi
   ·rcases List.mem_append.1 hi with hi | hi
    ·exact hY i hi
    ·exact .inl (List.mem_singleton.1 hi)
   ·exact hZ i hi
theorem LAt.base {w:World} {b B:Nat} {q:Bool} {pv:Value} {cs:Array Value} (h:LAt w b B [] q pv (.slice none 0 0) cs) (B':Nat):LAt w b B' [] q pv (.slice none 0 0) cs :=
 ⟨⟨h.b.cells,h.b.ptr,h.b.buf,h.b.used,World.ownsRow_nil _ _ _ _,h.b.lies,h.b.ne⟩,h.has,h.size⟩
section
variable {xb tb ab lb yb:Nat} {gv kv:Value} {X:List Nat} {L:List Jp.V}
end
def Flat (stops N:Bs):Prop:=∀ c∈N,c≠40∧c≠123∧stops.contains c=false
theorem zjf {stops:Bs}:∀ {N:Bs} (R:Bs) (k:Nat),Flat stops N→Wp.cutA stops [] (N++R) k=Wp.cutA stops [] R (k+N.length)
 | [],R,k,_=>by simp
 | c :: r,R,k,h=>by
  obtain⟨h1,h2,h3⟩:=h c (by simp)
  rw[List.cons_append,Wp.zfc (fun e=>by rw[h3] at e;cases e.2),Wp.zds h1 h2 (fun d hd=>by cases hd),zjf R (k+1) (fun x hx=>h x (by simp[hx]))]
  congr 1
  simp;omega
theorem cut_some {stops N R:Bs} {c:UInt8} (h:Flat stops N) (hc:stops.contains c=true):Wp.cutA stops [] (N++c :: R) 0=some N.length:=by
 rw[zjf _ 0 h,Wp.zgi hc,Nat.zero_add]
theorem WCut_yes (w:World) (N R stops:Bs) (c:UInt8) (h:Flat stops N) (hc:stops.contains c=true) (hn:N.length+R.length≤1000) (hs:stops.length≤1000):Calls Tryz.prog 264 #[.string (str (N++c :: R)),.string (str stops)] w fun e w'=>e=.returned (.tuple #[.string (str N),.int .u8 c.toNat,.string (str R)])∧Below w.heap.size w w':=by
 refine(zvn w (str (N++c :: R)) (str stops) (by rw[zan];simp;omega) (by rw[zan];omega)).mono ?_
 rintro e w' ⟨rfl,hB⟩
 rw[zam,zam,cut_some h hc]
 refine⟨?_,hB⟩
 unfold cutOut
 have e1:(str (N++c :: R)).extract 0 N.length=str N:=zar (by rw[zbx,zam,zam];simp)
 have e2:(str (N++c :: R)).extract (N.length+1) (str (N++c :: R)).size=str R:=zar (by rw[zbs,zam,zam];simp[List.drop_append])
 dsimp only
 rw[e1,e2,zam]
 simp
section
variable {xb tb ab lb yb:Nat} {gv kv:Value} {X:List Nat} {L:List Jp.V}
end
end Xw
end Go.Proofs.YtgdpbnfgcabneaaGreatDoor

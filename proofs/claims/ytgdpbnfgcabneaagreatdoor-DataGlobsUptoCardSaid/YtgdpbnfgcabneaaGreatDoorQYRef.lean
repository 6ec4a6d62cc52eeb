/- Part of the proof. -/
import Derived.Test.YtgdpbnfgcabneaaGreatDoorQDZWords
import Derived.Test.YtgdpbnfgcabneaaGreatDoorQWCut
set_option maxRecDepth 100000
set_option maxHeartbeats 40000000
namespace Go.Proofs.YtgdpbnfgcabneaaGreatDoor
namespace Yp
abbrev Bs:=List UInt8
inductive R where
 | ok (s:Bs)
 | er (c:Int)
abbrev Ev:=List (Bs×Unit)→(Bs→Option Bs)→Bs→R
def zgs (s:Bs):Bs:=s.dropWhile Wp.zaw
section
variable (L:List Jp.V) (F:Bs→List Bs) (takes:Bs→Nat) (call:Bs→List Bs→R) (ev:Ev)
end
end Yp
namespace Xw
open Go.RowKit Ww Tw Kw Jw Xb
section
variable {w w':World} {bm:Nat} {L:List (Bs×Unit)}
end
section
variable {xb tb ab lb yb:Nat} {gv kv:Value} {X:List Nat} {L:List Jp.V}
theorem On.drop {w W W':World} {d0 d:Int} {B0 B B':List (Bs×Unit)} (h:On xb tb ab lb yb gv kv X L w d0 B0 W d B) (hM:Kw.MapAt UK W' yb B') (ht:W.mapTurned W' yb):On xb tb ab lb yb gv kv X L w d0 B0 W' d B':=by
 have hk:Kept [xb,yb] W W':=(Kept.refl [xb,yb] W).grown ht.grown (fun r e=>by cases e;exact .inl (by simp))
 exact⟨h.h0,h.cx.turn hk ((ht.grown.block xb h.cx.lt (fun e=>h.cx.nya (Option.some.inj e).symm)).trans h.cx.box) hM,h.k.trans hk⟩
end
end Xw
namespace Yw
open Go.RowKit Go.Maps Ww Tw Kw Jw Xb Xw
structure Cp where
 xb:Nat
 tb:Nat
 ab:Nat
 lb:Nat
 yb:Nat
 kb:Nat
 gv:Value
 X:List Nat
 L:List Jp.V
 au:List (Bs×Bs)
 GI:World→Prop
 keep:∀ w w',GI w→Kept [xb,yb,lb] w w'→GI w'
def gC (C:Cp) (d:Int):Array Value:=#[.pointer (some ⟨C.tb,0,none⟩),.map (some C.ab),C.gv,.map (some C.kb),.map (some C.lb),.map (some C.yb),.int .i64 d]
structure Gx (C:Cp) (w:World) (d:Int) (B:List (Bs×Unit)) (f:Bs→Bs×Bool):Prop where
 box:w.heap[C.xb]?=some (.cells (gC C d) XT (0,0))
 tab:Tab w C.tb C.X C.L [] false
 auto:Kw.MapAt AK w C.ab C.au
 loops:∃ lo,Kw.MapAt LK w C.lb lo∧∀ n,valA LK lo n=f n
 busy:Kw.MapAt UK w C.yb B
 known:KnAt w C.kb 5
 gl:C.GI w
 nay:C.ab≠C.yb
 nal:C.ab≠C.lb
 nly:C.lb≠C.yb
 nky:C.kb≠C.yb
 nkl:C.kb≠C.lb
 nx:C.xb∉C.X
 ny:C.yb∉C.X
 nl:C.lb∉C.X
section
variable {C:Cp} {w w':World} {d:Int} {B:List (Bs×Unit)} {f:Bs→Bs×Bool}
theorem Gx.lt (h:Gx C w d B f):C.xb<w.heap.size:=(Array.getElem?_eq_some_iff.1 h.box).1
theorem Gx.lyb (h:Gx C w d B f):C.yb<w.heap.size:=h.busy.lt
theorem Gx.llb (h:Gx C w d B f):C.lb<w.heap.size:=by obtain⟨lo,h1,_⟩:=h.loops;exact h1.lt
theorem Gx.cells (h:Gx C w d B f):w.cell? ⟨C.xb,0,none⟩=some (.pointer (some ⟨C.tb,0,none⟩))∧w.cell? ⟨C.xb,1,none⟩=some (.map (some C.ab))∧w.cell? ⟨C.xb,2,none⟩=some C.gv∧w.cell? ⟨C.xb,3,none⟩=some (.map (some C.kb))∧w.cell? ⟨C.xb,4,none⟩=some (.map (some C.lb))∧w.cell? ⟨C.xb,5,none⟩=some (.map (some C.yb))∧w.cell? ⟨C.xb,6,none⟩=some (.int .i64 d) :=
 ⟨zaa h.box rfl,zaa h.box rfl,zaa h.box rfl,zaa h.box rfl,zaa h.box rfl,zaa h.box rfl,zaa h.box rfl⟩
end
structure Gn (C:Cp) (w:World) (d0:Int) (B0:List (Bs×Unit)) (f0:Bs→Bs×Bool) (W:World) (d:Int) (B:List (Bs×Unit)) (f:Bs→Bs×Bool):Prop where
 h0:Gx C w d0 B0 f0
 cx:Gx C W d B f
 k:Kept [C.xb,C.yb,C.lb] w W
section
variable {C:Cp} {w W W':World} {d0 d d':Int} {B0 B B':List (Bs×Unit)} {f0 f f':Bs→Bs×Bool}
theorem Gn.lt (h:Gn C w d0 B0 f0 W d B f):C.xb<w.heap.size∧C.yb<w.heap.size∧C.lb<w.heap.size∧w.heap.size≤W.heap.size:=⟨h.h0.lt,h.h0.lyb,h.h0.llb,h.k.size⟩
theorem Gn.call (h:Gn C w d0 B0 f0 W d B f) (hC:Gx C W' d' B' f') (hk:Kept [C.xb,C.yb,C.lb] W W'):Gn C w d0 B0 f0 W' d' B' f':=⟨h.h0,hC,h.k.trans hk⟩
end
section
variable {C:Cp}
end
end Yw
end Go.Proofs.YtgdpbnfgcabneaaGreatDoor

/- Part of the proof. -/
import Derived.Test.YtgdpbnfgcabneaaGreatDoorQJPSet
import Derived.Deep.RegionHeld3
import Derived.Test.YtgdpbnfgcabneaaGreatDoorShelf
set_option maxRecDepth 100000
set_option maxHeartbeats 40000000
namespace Go.Proofs.YtgdpbnfgcabneaaGreatDoor
namespace Jw
open Go.RowKit Ww Tw Kw
def zeroK:Array Value:=#[.string ⟨#[]⟩,.string ⟨#[]⟩,.bool false,.int .i64 0,.pointer none]
structure GB (w:World) (k v:Array Value) (W:World):Prop where
 k:W.heap[w.heap.size]?=some (.cells k PK (0,0))
 v:W.heap[w.heap.size+1]?=some (.cells v PV (0,0))
 r:W.heap[w.heap.size+2]?=some (.cells zeroK PK (0,0))
theorem GB.lt {w W:World} {k v:Array Value} (h:GB w k v W):w.heap.size+2<W.heap.size:=(Array.getElem?_eq_some_iff.1 h.r).1
theorem GB.kept {w W W':World} {k v:Array Value} {Y:List Nat} (h:GB w k v W) (hk:Kept Y W W') (hY:∀ i∈Y,i<w.heap.size∨w.heap.size+2<i):GB w k v W':=by
 have hl:=h.lt
 exact⟨(hk.block _ (by omega) fun e=>by have:=hY _ e;omega).trans h.k,(hk.block _ (by omega) fun e=>by have:=hY _ e;omega).trans h.v,(hk.block _ (by omega) fun e=>by have:=hY _ e;omega).trans h.r⟩
structure GSt (w:World) (X:List Nat) (b:Nat) (l:Bs) (k v:Array Value) (W:World):Prop where
 box:GB w k v W
 kept:Kept X w W
 lt:∀ i∈X,i<w.heap.size
 bld:∃ O pv bv,BldAt W b O l pv bv∧∀ i∈O,i∈X∨w.heap.size+2<i
theorem GSt.cells {w W:World} {X:List Nat} {b:Nat} {l:Bs} {k0 k1 k2 k3 k4 v0 v1 v2 v3:Value} (h:GSt w X b l #[k0,k1,k2,k3,k4] #[v0,v1,v2,v3] W) :
  W.cell? ⟨w.heap.size,1,none⟩=some k1∧W.cell? ⟨w.heap.size,4,none⟩=some k4∧W.cell? ⟨w.heap.size+1,0,none⟩=some v0∧W.cell? ⟨w.heap.size+1,1,none⟩=some v1∧W.cell? ⟨w.heap.size+1,2,none⟩=some v2∧W.cell? ⟨w.heap.size+1,3,none⟩=some v3∧W.frozen? ⟨w.heap.size+1,1,none⟩=false∧w.heap.size<W.heap.size∧w.heap.size+1<W.heap.size:=by
 have hl:=h.box.lt
 exact⟨zaa h.box.k rfl,zaa h.box.k rfl,zaa h.box.v rfl,zaa h.box.v rfl,zaa h.box.v rfl,zaa h.box.v rfl,zad h.box.v 1,by omega,by omega⟩
open Go.Maps Go.Shelf Go.Sort
abbrev MK:TypeId:=160
end Jw
end Go.Proofs.YtgdpbnfgcabneaaGreatDoor

/- Part of the proof. -/
import Derived.Test.YtgdpbnfgcabneaaGreatDoorQJPClone
set_option maxRecDepth 100000
set_option maxHeartbeats 40000000
namespace Go.Proofs.YtgdpbnfgcabneaaGreatDoor
namespace Jw
open Go.RowKit Ww Tw Kw
def NewT (w:World) (tb:Nat):Prop:=w.heap[tb]?=some (.cells #[.map none,.map none,.bool false] PT (0,0))
theorem NewT.at_ {w:World} {tb:Nat} (h:NewT w tb):TabAt w tb [tb] [] [] false none none (fun _=>[]) :=
 ⟨h,rfl,rfl,fun b h=>(by cases h),fun e h=>(by cases h),Grown.nil _ _,by simp,fun b h=>(by cases h),fun b h=>(by cases h),fun e h=>(by cases h)⟩
theorem NewT.lt {w:World} {tb:Nat} (h:NewT w tb):tb<w.heap.size:=(Array.getElem?_eq_some_iff.1 h).1
theorem NewT.block {w w':World} {tb:Nat} (h:NewT w tb) (hb:w'.heap[tb]?=w.heap[tb]?):NewT w' tb:=hb.trans h
theorem NewT.below {w w':World} {tb:Nat} (h:NewT w tb) (hB:Below w.heap.size w w'):NewT w' tb:=h.block (hB.block _ h.lt)
theorem PNew_new (w:World):Calls Tryz.prog 38 #[] w fun e w'=>e=.returned (.pointer (some ⟨w.heap.size,0,none⟩))∧NewT w' w.heap.size∧Below w.heap.size w w':=by
 have hb:=zah w (.cells #[.map none,.map none,.bool false] PT)
 have hB:=(Below.refl w.heap.size w).alloc (Nat.le_refl _) (.cells #[.map none,.map none,.bool false] PT)
 have HB:=Lib.hid hb
 clear hb
 go_enter Tryz.func38,Tryz.ntmps38
 go_wp2
 go_ret
 exact⟨rfl,HB.out,hB⟩
theorem PClone_new (w:World) {tb:Nat} (h:NewT w tb):Calls Tryz.prog 52 #[.pointer (some ⟨tb,0,none⟩)] w (CPost w [] [] false):=PClone_none w h.at_
theorem PSet_empty (w:World) {tb:Nat} {X:List Nat} (h:Tab w tb X [] [] false) (v:Jp.V) (hr:Jp.zha v=true) (hz:v.n.length≤1000000) :
  Calls Tryz.prog 43 #[.pointer (some ⟨tb,0,none⟩),.agg (vA v)] w (SPost w tb X [v] [] false 0):=by
 obtain⟨E,mv,mn,O,h,hE⟩:=h
 obtain rfl:E=[]:=List.map_eq_nil_iff.1 hE
 rcases h.got v.n with ⟨_,h2,h3⟩ | ⟨e,he,_⟩
 ·cases mv with
  | none=>exact PSet_first w h v hr hz Jp.zero none (by simp) (by rw[h2];rfl) h3
  | some bm=>exact PSet_new w h v hr hz Jp.zero none (by simp) (by rw[h2];rfl) h3
 ·cases he
theorem Set_empty (w:World) (v:Jp.V) :
  Calls Tryz.prog 44 #[.agg (tA (.slice none 0 0) (.slice none 0 0) (.slice none 0 0) false),.agg (vA v)] w (zdl w w.heap.size (.slice none 0 0) (.slice none 0 0) false [v]) :=
 Set_put_f w w.heap.size none none none 0 0 0 0 0 false [] v ⟨#[]⟩ ⟨#[]⟩ false 0 (Nat.le_refl _) (World.ownsRow_nil _ _ _ _) (by simp) fun W h=>Get_any W w.heap.size (.slice none 0 0) (.slice none 0 0) (.slice none 0 0) false [] v.n h (by simp)
end Jw
end Go.Proofs.YtgdpbnfgcabneaaGreatDoor

/-
  The statement DataGlobsUptoCardSaid: for every list of files, and every two strings (a directory, a pattern), that can be read, and that hold at most 1048576 values and letters together, flatironlaw16.DataGlobs returns true and leaves what it was handed as it was. Conditions: that bound; the listed variables (tables of math/bits, internal/strconv and unicode/utf8) read as the program's own text lays them (the card ties them to that text; the tie is given).
-/
import Derived.Test.YtgdpbnfgcabneaaGreatDoorQDCard2
set_option maxRecDepth 100000
set_option maxHeartbeats 40000000
namespace Go.Proofs.YtgdpbnfgcabneaaGreatDoor
namespace dglobs
open Go.ChangeShapes Go.WideShapes Go.ChangeAt Go.RowKit
theorem goes_of {P:Program} (f:FuncId) (h:∀ fn∈P.funcs.toList,Func.goes fn=false):P.goes f=false:=by
 unfold Program.goes
 rw[Bool.or_eq_false_iff]
 refine⟨?_,?_⟩
 ·rw[List.any_eq_false]
  intro g _
  cases hg:P.funcs[g]? with
  | none=>simp
  | some fn =>
   have:=h fn (by rw[Array.mem_toList_iff];exact Array.mem_of_getElem? hg)
   simp[this]
 ·have:P.funcs.any Func.goes=false:=by
   rw[←Array.any_toList,List.any_eq_false]
   intro fn hfn
   rw[h fn hfn];exact Bool.false_ne_true
  rw[this,Bool.and_false]
theorem zes {l:List Func} {k n:Nat} (h1:((l.drop k).take n).any Func.goes=false) (h2:∀ fn∈l.drop (k+n),Func.goes fn=false):∀ fn∈l.drop k,Func.goes fn=false:=fun fn hf=>by
 rw[←List.take_append_drop n (l.drop k),List.drop_drop] at hf
 rcases List.mem_append.1 hf with hf | hf
 ·exact Bool.eq_false_iff.2 (List.any_eq_false.1 h1 fn hf)
 ·exact h2 fn hf
theorem g0:((Tryz.prog.funcs.toList.drop 0).take 48).any Func.goes=false:=by kernel_rfl
theorem g1:((Tryz.prog.funcs.toList.drop 48).take 48).any Func.goes=false:=by kernel_rfl
theorem g2:((Tryz.prog.funcs.toList.drop 96).take 48).any Func.goes=false:=by kernel_rfl
theorem g3:((Tryz.prog.funcs.toList.drop 144).take 48).any Func.goes=false:=by kernel_rfl
theorem g4:((Tryz.prog.funcs.toList.drop 192).take 48).any Func.goes=false:=by kernel_rfl
theorem g5:((Tryz.prog.funcs.toList.drop 240).take 48).any Func.goes=false:=by kernel_rfl
theorem g6:((Tryz.prog.funcs.toList.drop 288).take 48).any Func.goes=false:=by kernel_rfl
theorem g7:((Tryz.prog.funcs.toList.drop 336).take 48).any Func.goes=false:=by kernel_rfl
theorem g8:((Tryz.prog.funcs.toList.drop 384).take 48).any Func.goes=false:=by kernel_rfl
theorem g9:((Tryz.prog.funcs.toList.drop 432).take 48).any Func.goes=false:=by kernel_rfl
theorem g10:((Tryz.prog.funcs.toList.drop 480).take 48).any Func.goes=false:=by kernel_rfl
theorem gend:Tryz.prog.funcs.toList.drop 528=[]:=by kernel_rfl
theorem goes_all:∀ fn∈Tryz.prog.funcs.toList,Func.goes fn=false:=by
 have h:=gend
 have z:∀ fn∈Tryz.prog.funcs.toList.drop 528,Func.goes fn=false:=by rw[h];simp
 replace z:=zes (k:=480) (n:=48) g10 z
 replace z:=zes (k:=432) (n:=48) g9 z
 replace z:=zes (k:=384) (n:=48) g8 z
 replace z:=zes (k:=336) (n:=48) g7 z
 replace z:=zes (k:=288) (n:=48) g6 z
 replace z:=zes (k:=240) (n:=48) g5 z
 replace z:=zes (k:=192) (n:=48) g4 z
 replace z:=zes (k:=144) (n:=48) g3 z
 replace z:=zes (k:=96) (n:=48) g2 z
 replace z:=zes (k:=48) (n:=48) g1 z
 replace z:=zes (k:=0) (n:=48) g0 z
 simpa using z
theorem goesBy_no {P:Program} {c:OpenClaim} {n:String} {f:FuncId} (hs:c.start=.entering) (hn:c.func=n) (hf:P.funcNamed n=some f) (h:P.goes f=false):false=c.goesBy P:=by
 unfold OpenClaim.goesBy Program.goesAt Program.goesFrom
 rw[hs,hn,hf]
 simp[h]
theorem named : Tryz.prog.funcNamed "flatiron/flatironlaw16.DataGlobs" = some 3 := by kernel_rfl
theorem goes_no:false=Rows.dataGlobsUptoRow.goesBy Tryz.prog:=goesBy_no rfl rfl named (goes_of _ goes_all)
theorem card:Rows.DataGlobsUptoCardSaid :=
 Claim7.holds_tied_plain_at .later [] _ _ _ _ said (fun _ h=>by cases h) (by as_aux_lemma=>kernel_rfl) (fun _ h=>by cases h) dataGlobsUpto_row_tie rfl ⟨rfl,rfl⟩ (by as_aux_lemma=>kernel_rfl) rfl plain goes_no
end dglobs
end Go.Proofs.YtgdpbnfgcabneaaGreatDoor

/- Part of the proof. -/
import Derived.ProofKit
import Derived.OpenShut
import Derived.Deep.DeepHandedRow
import Derived.Test.YtgdpbnfgcabneaaGreatDoorCards
import Derived.Test.YtgdpbnfgcabneaaGreatDoorTie
import Derived.Test.YtgdpbnfgcabneaaGreatDoorQDLaw3
set_option maxRecDepth 100000
set_option maxHeartbeats 40000000
namespace Go.Proofs.YtgdpbnfgcabneaaGreatDoor
namespace Dq
open Go.ChangeShapes Go.WideShapes Go.ChangeAt Go.RowKit
def leaf0:DataW Unit→List Value
 | .lit (.int k n)=>[.int k n]
 | _=>[]
def leaf1:DataW Unit→List Value
 | .agg qs=>qs.flatMap leaf0
 | d=>leaf0 d
def leaf2:DataW Unit→List Value
 | .agg qs=>qs.flatMap leaf1
 | d=>leaf1 d
noncomputable def laidWorld (os:Os):World :=
 let w0:=World.holding Tryz.prog os ⟨#[],#[],[]⟩
 let put (h:Array Obj) (g:Nat) (cs:List Value):Array Obj:=h.modify g fun
  | .cells _ t frozen=>.cells cs.toArray t frozen
  | o=>o
 let h1:=put w0.heap 4 (leaf2 Rows.laid_math_bits_deBruijn32tab)
 let h2:=put h1 5 (leaf2 Rows.laid_math_bits_deBruijn64tab)
 let h3:=put h2 3 (leaf2 Rows.laid_internal_strconv_uint64pow10)
 let h4:=put h3 2 (leaf2 Rows.laid_unicode_utf8_acceptRanges)
 let h5:=put h4 1 (leaf2 Rows.laid_unicode_utf8_first)
 { w0 with heap:=h5 }
end Dq
namespace dglobs
open Go.ChangeShapes Go.WideShapes Go.ChangeAt Go.RowKit
open Go.ChangeMaps (open_string shut_string)
theorem own:ownKnob Tryz.prog.godebug=none:=by kernel_rfl
theorem laidOut:laidOutB Tryz.prog=true:=by kernel_rfl
theorem laid_met (os:Os) (args:Array Value):laidMet Tryz.prog Rows.dataGlobsUptoRow.laid ((Dq.laidWorld os).forCall (fun _ _=>0) ⟨#[],args,[]⟩).memory :=
 laidMet_of_run' 8 (by kernel_rfl) (by kernel_rfl)
theorem reads (os:Os) {H:Type} (enc:TypeId×Value→H):∃ places,DataW.whole enc Tryz.prog ((Dq.laidWorld os).forCall (fun _ _=>0) ⟨#[],#[.slice none 0 0,.string ⟨#[]⟩,.string ⟨#[]⟩],[]⟩).memory Tryz.f3.params.toList Rows.dataGlobsSpec.vars false #[Value.slice none 0 0,.string ⟨#[]⟩,.string ⟨#[]⟩].toList 8=some ([.nil,.lit (.string []),.lit (.string [])],[],places) :=
 ⟨[],by kernel_rfl⟩
theorem zero_block {W:World} (h:W.ShapedOpen Tryz.prog):∃ cs fz m,W.heap[0]?=some (.cells cs 3 fz)∧cs[0]?=some (.int .i64 m):=by
 obtain⟨cs,hh,hs,hr⟩:=h.1 0 #[.int .i64 0] 3 (of_decide_eq_true (by kernel_rfl)) (by kernel_rfl)
 obtain⟨m,hm⟩:=Go.Proofs.cell_of_shapedOpen_int (g:=0) (zero:=#[.int .i64 0]) (t:=3) h (of_decide_eq_true (by kernel_rfl)) (by kernel_rfl) rfl (by kernel_rfl) (by kernel_rfl) Tryz.underlying3
 refine⟨cs,_,m,hh,?_⟩
 simpa[World.cell?,hh] using hm
theorem cellsS:Tryz.prog.cellsOf 9=1:=by kernel_rfl
theorem cellsI:Tryz.prog.cellsOf 2=1:=by kernel_rfl
theorem cellsB:Tryz.prog.cellsOf 4=1:=by kernel_rfl
theorem cellsF:Tryz.prog.cellsOf 29=4:=by kernel_rfl
theorem bulk_all {H:Type} {α:Type} (f:α→DataW H) (g:α→Nat) (hfg:∀ x,g x≤Rows.uptoBulk (f x)):∀ l:List α,(l.map g).sum≤Rows.uptoBulkAll (l.map f)
 | []=>Nat.zero_le _
 | x :: r=>by
  have h1:=bulk_all f g hfg r
  have h2:=hfg x
  simp only [List.map_cons,List.sum_cons,Rows.uptoBulkAll]
  omega
theorem range_map {H:Type} {α:Type} {f:α→DataW H} {D:Nat→DataW H} {l:List α} (h:∀ j (h:j<l.length),D j=f l[j]):(List.range l.length).map D=l.map f:=by
 refine List.ext_getElem (by simp) fun j h1 h2=>?_
 have hj:j<l.length:=by simpa using h2
 simp[h j hj]
theorem list_of {α:Type} {Q:Nat→α→Prop}:∀ (n:Nat),(∀ i,i<n→∃ x,Q i x)→∃ l:List α,l.length=n∧∀ j (h:j<l.length),Q j l[j]
 | 0,_=>⟨[],rfl,fun j h=>by cases h⟩
 | n+1,h=>by
  obtain⟨l,hl,hq⟩:=list_of n fun i hi=>h i (by omega)
  obtain⟨x,hx⟩:=h n (by omega)
  refine⟨l++[x],by simp[hl],fun j hj=>?_⟩
  rcases Nat.lt_or_ge j l.length with h1 | h1
  ·rw[List.getElem_append_left h1];exact hq j h1
  ·have e:j=n:=by rw[List.length_append,List.length_singleton] at hj;omega
   subst e
   rw[List.getElem_append_right h1]
   simpa[hl] using hx
theorem file_of {H:Type} {enc:TypeId×Value→H} {W:World} {base n:Nat} {spare:Nat→Bool} {held:Bool} {cs:List Value} {x:DataW H×List MemPlace} (hl:cs.length=4) (h:DataW.trod enc Tryz.prog W base spare held n 29 cs=some x) :
  ∃ (s t:ByteArray) (c:Int) (d:Bool),cs=[.string s,.string t,.int .i64 c,.bool d]∧x.1=.agg [.lit (.string s.data.toList),.lit (.string t.data.toList),.lit (.int .i64 c),.lit (.bool d)]:=by
 match cs,hl with
 | [c0,c1,c2,c3],_ =>
  obtain⟨ys,n',_,hy,_,hyl,hf⟩:=DataW.trod_struct Tryz.underlying29 h
  have h0:DataW.trod enc Tryz.prog W base spare held n' 9 (([c0,c1,c2,c3].drop 0).take (Tryz.prog.cellsOf 9))=ys[0]?:=hf 0 _ rfl
  have h1:DataW.trod enc Tryz.prog W base spare held n' 9 (([c0,c1,c2,c3].drop 1).take (Tryz.prog.cellsOf 9))=ys[1]?:=hf 1 _ rfl
  have h2:DataW.trod enc Tryz.prog W base spare held n' 2 (([c0,c1,c2,c3].drop 2).take (Tryz.prog.cellsOf 2))=ys[2]?:=hf 2 _ rfl
  have h3:DataW.trod enc Tryz.prog W base spare held n' 4 (([c0,c1,c2,c3].drop 3).take (Tryz.prog.cellsOf 4))=ys[3]?:=hf 3 _ rfl
  rw[cellsS] at h0
  rw[cellsS] at h1
  rw[cellsI] at h2
  rw[cellsB] at h3
  match ys,hyl with
  | [y0,y1,y2,y3],_ =>
   obtain⟨s,e0,f0,_⟩:=DataW.trod_string Tryz.underlying9 h0
   obtain⟨t,e1,f1,_⟩:=DataW.trod_string Tryz.underlying9 h1
   obtain⟨c,e2,f2,_⟩:=DataW.trod_int Tryz.underlying2 h2
   obtain⟨d,e3,f3⟩:=DataW.trod_bool Tryz.underlying4 h3
   simp at e0 e1 e2 e3 f0 f1 f2 f3
   subst e0 e1 e2 e3
   exact⟨s,t,c,d,rfl,by rw[hy,f0,f1,f2,f3];rfl⟩
section
variable {H:Type} {enc:TypeId×Value→H} {W:World}
theorem sum_mem {α:Type} (g:α→Nat) {l:List α} {x:α} (h:x∈l):g x≤(l.map g).sum:=by
 induction l with
 | nil=>cases h
 | cons y r ih =>
  simp only [List.map_cons,List.sum_cons]
  rcases List.mem_cons.1 h with rfl | h
  ·omega
  ·have:=ih h;omega
theorem sum_len {α:Type} (g:α→Nat) (hg:∀ x,1≤g x) (l:List α):l.length≤(l.map g).sum:=by
 induction l with
 | nil=>exact Nat.zero_le _
 | cons y r ih=>simp only [List.map_cons,List.sum_cons,List.length_cons];have:=hg y;omega
theorem files_of {n:Nat} {v:Value} {x:DataW H×List MemPlace} (h:DataW.trod enc Tryz.prog W 0 (fun _=>true) true n 22 [v]=some x) :
  ∃ (l:List Sw.F) (a:Option Addr) (cap:Nat),v=.slice a l.length cap∧Sw.Files W (.slice a l.length cap) l∧(∀ f∈l,f.p.length≤Rows.uptoBulk x.1∧f.t.length≤Rows.uptoBulk x.1)∧l.length≤Rows.uptoBulk x.1:=by
 rcases Go.Deep.open_slice Tryz.underlying22 h with ⟨hcs,rfl⟩ | ⟨a,len,cap,m,k,D,Pl,hcs,_,hl,hm,hmm,rfl,hi⟩
 ·simp at hcs
  subst hcs
  exact⟨[],_,_,rfl,.inl ⟨rfl,_,_,rfl⟩,(fun f hf=>by cases hf),Nat.zero_le _⟩
 ·simp at hcs
  subst hcs
  simp only [if_true] at hmm
  subst hmm
  have each:∀ i,i<len→∃ f:Sw.F,D i=.agg [.lit (.string f.p),.lit (.string f.t),.lit (.int .i64 f.c),.lit (.bool f.d)] ∧
    W.cell? (a.add (i * 4))=some (.string (str f.p))∧W.cell? (a.add (i * 4+1))=some (.string (str f.t))∧W.cell? (a.add (i * 4+2))=some (.int .i64 f.c)∧W.cell? (a.add (i * 4+3))=some (.bool f.d):=fun i hil=>by
   obtain⟨cs',hc,ht'⟩:=hi i (by omega)
   rw[cellsF] at hc
   obtain⟨_,hcl,hat⟩:=World.cells?_some hc
   obtain⟨s,t,c,d,rfl,hx1⟩:=file_of hcl ht'
   refine⟨⟨bs s,bs t,c,d⟩,hx1,?_,?_,?_,?_⟩
   ·have:=hat 0 (by omega)
    rw[Go.Deep.add_add] at this
    rw[zfh];exact this
   ·have:=hat 1 (by omega)
    rw[Go.Deep.add_add] at this
    rw[zfh];exact this
   ·have:=hat 2 (by omega)
    rw[Go.Deep.add_add] at this
    exact this
   ·have:=hat 3 (by omega)
    rw[Go.Deep.add_add] at this
    exact this
  obtain⟨l,hll,hq⟩:=list_of len each
  subst hll
  have e:=range_map (f:=fun f:Sw.F=>(DataW.agg [.lit (.string f.p),.lit (.string f.t),.lit (.int .i64 f.c),.lit (.bool f.d)]:DataW H)) fun j h=>(hq j h).1
  have hb:=bulk_all (H:=H) (fun f:Sw.F=>(DataW.agg [.lit (.string f.p),.lit (.string f.t),.lit (.int .i64 f.c),.lit (.bool f.d)]:DataW H)) (fun f=>f.p.length+f.t.length+1) (fun f=>by simp[Rows.uptoBulk,Rows.uptoBulkAll];omega) l
  rw[←e] at hb
  have hsum:(l.map fun f:Sw.F=>f.p.length+f.t.length+1).sum≤Rows.uptoBulk (DataW.slice ((List.range l.length).map D) ((List.range (m - l.length)).map fun j=>D (l.length+j)):DataW H):=by
   simp only [Rows.uptoBulk];omega
  refine⟨l,some a,_,rfl,?_,fun f hf=>?_,?_⟩
  ·rcases Nat.eq_zero_or_pos l.length with h0 | h0
   ·exact .inl ⟨List.length_eq_zero_iff.1 h0,_,_,by rw[h0]⟩
   ·obtain⟨b,off,spot⟩:=a
    have hspot:spot=none:=by simpa[Addr.add] using World.cell?_spot (hq 0 h0).2.1
    subst hspot
    have hbW:b<W.heap.size:=by
     have:=World.block_lt_of_cell? _ _ (hq 0 h0).2.1
     simpa[add_plain] using this
    refine .inr ⟨b,off,_,rfl,hbW,fun j hj=>?_⟩
    obtain⟨_,q0,q1,q2,q3⟩:=hq j hj
    simp only [add_plain,←Nat.add_assoc] at q0 q1 q2 q3
    exact⟨q0,q1,q2,q3⟩
  ·have h1:=Nat.le_trans (sum_mem (fun f:Sw.F=>f.p.length+f.t.length+1) hf) hsum
   exact⟨Nat.le_trans (by omega) h1,Nat.le_trans (by omega) h1⟩
  ·exact Nat.le_trans (sum_len (fun f:Sw.F=>f.p.length+f.t.length+1) (fun f=>by omega) l) hsum
end
set_option maxRecDepth 100000 in
theorem contract (H:Type) (enc:TypeId×Value→H) (W:World) (base:Nat) (args:Array Value) (ds gs:List (DataW H)) (before:List MemPlace)
  (hval:∀ (j:Nat) t v,Tryz.f3.params[j]?=some t→args[j]?=some v→Value.okWide Tryz.prog W .any base t v)
  (hW:DataW.Whole enc Tryz.prog Tryz.f3.params.toList Rows.dataGlobsSpec.vars false W args.toList ds gs before)
  (hbk:Rows.uptoBulkAll (ds++gs)≤1048576) (hsh:W.ShapedOpen Tryz.prog) :
  Calls Tryz.prog 3 args W fun e W'=>∃ v,e=.returned v∧Rows.dataGlobsSpec.post enc Tryz.prog Tryz.f3 false true false false W args v W':=by
 have hW':=hW
 obtain⟨p,q,hA0,hV,rfl,hfz,hnd⟩:=hW
 have hA:DataW.TrodAll enc Tryz.prog W 0 (fun _=>true) true Tryz.f3.params.toList args.toList ds p:=hA0
 rw[Tryz.params3] at hA hval
 obtain⟨v0,vs0,d0,ds0,p0,q0,hargs,rfl,rfl,h0,r0⟩:=trodAll_cons hA
 obtain⟨v1,vs1,d1,ds1,p1,q1,rfl,rfl,rfl,h1,r1⟩:=trodAll_cons r0
 obtain⟨v2,vs2,d2,ds2,p2,q2,rfl,rfl,rfl,h2,r2⟩:=trodAll_cons r1
 obtain⟨rfl,rfl,rfl⟩:=trodAll_nil r2
 obtain rfl:args=#[v0,v1,v2]:=by cases args;simp_all
 obtain⟨rfl,rfl⟩:=trodVars_none hV
 obtain⟨a0,len0,cap0,rfl⟩:=okWide_slice Tryz.underlying22 (hval 0 22 v0 rfl rfl)
 have h1k:=h1
 have h2k:=h2
 obtain⟨x,rfl,rfl,rfl,wx⟩:=open_string Tryz.underlying9 (hval 1 9 v1 rfl rfl) h1
 obtain⟨y,rfl,rfl,rfl,wy⟩:=open_string Tryz.underlying9 (hval 2 9 v2 rfl rfl) h2
 have h0k:=h0
 obtain⟨fuel0,hf0⟩:=h0
 clear hA0
 have hlt:∀ x∈p0++([]++([]++[])),x.block<W.heap.size:=fun x hx=>hW'.lt x (by simpa using hx)
 have fin:∀ W',Below W.heap.size W W'→Rows.dataGlobsSpec.post enc Tryz.prog Tryz.f3 false true false false W #[.slice a0 len0 cap0,.string x,.string y] (.bool true) W':=by
  intro W' hnx
  have t0:=Below.trod laidOut (by kernel_rfl) (of_decide_eq_true (by kernel_rfl)) h0k hnx (fun x hx=>hlt x (by simp[hx]))
  exact⟨_,_,_,[],_,[],hW',trodAll_mk1 (shut_bool Tryz.underlying4 _),trodAll_mk3 t0 (shut_string Tryz.underlying9 wx) (shut_string Tryz.underlying9 wy),rfl,hnx.frame _,fun h=>by cases h⟩
 have hf0':DataW.trod enc Tryz.prog W 0 (fun _=>true) true fuel0 22 [.slice a0 len0 cap0]=some (d0,p0):=by simpa[Value.cells] using hf0
 obtain⟨l,a1,c1,hv,hF,hfl,hln⟩:=files_of hf0'
 cases hv
 have hbd:Rows.uptoBulk d0≤1048576∧x.size≤1048576∧y.size≤1048576:=by
  simp only [List.cons_append,Rows.uptoBulkAll,Rows.uptoBulk] at hbk
  rw[←Lib.size_eq,←Lib.size_eq] at hbk
  omega
 simp only at hfl hln
 obtain⟨cs0,fz0,m0,hz,hm⟩:=zero_block hsh
 have walk:Calls Tryz.prog 3 #[.slice a0 l.length cap0,.string x,.string y] W fun e w'=>e=.returned (.bool true)∧Below W.heap.size W w':=by
  have hfl2:∀ f∈l,f.p.length≤1048576∧f.t.length≤1048576:=fun f hf=>by have:=hfl f hf;omega
  by_cases hbig:100<x.size∨40<y.size∨zaq (bs x)=false
  ·exact Dq.zpa W _ x y hbd.2.1 hbd.2.2 hbig
  ·simp only [not_or] at hbig
   exact Dq.zrn W a0 cap0 l x y hF hfl2 (by omega) (by omega) (by omega) (by simpa using hbig.2.2) hz hm ⟨by decide,⟨by decide,by decide,by decide,by decide⟩⟩
 refine walk.mono fun e W' ⟨he,hnx⟩=>?_
 subst he
 exact⟨_,rfl,fin W' hnx⟩
set_option maxRecDepth 100000 in
theorem lifted (os:Os) (started:os.Started) (H:Type) (enc:TypeId×Value→H) (F:Stop.Interp) :
  ReturnsInHanded {} Tryz.checked os 3 .any ((Rows.OpenSpec.upto Rows.dataGlobsSpec).preRow enc Tryz.prog Tryz.f3 Rows.dataGlobsUptoRow.domain false Rows.dataGlobsUptoRow.laid) (((Rows.OpenSpec.upto Rows.dataGlobsSpec).at F).post enc Tryz.prog Tryz.f3 false true false false):=by
 obtain⟨places,hx⟩:=reads os enc
 refine returnsInHanded_of_row (C:=Tryz.checked) (s:=Rows.OpenSpec.upto Rows.dataGlobsSpec) own started (by kernel_rfl) Tryz.func3
  (witness_row_at (enc:=enc) (C:=Tryz.checked) false (Dq.laidWorld os) #[.slice none 0 0,.string ⟨#[]⟩,.string ⟨#[]⟩] rfl (by kernel_rfl) (by kernel_rfl) (by kernel_rfl)
   (OpenSpec.preRow_of_cond 8 hx (by kernel_rfl) (fun k hk=>by cases hk;kernel_rfl) (by kernel_rfl) (laid_met os _))) ?_
 intro W base args ds gs before hval hW h2 hcond hsz hL hsh _
 exact contract H enc W base args ds gs before hval hW (of_decide_eq_true (hcond _ rfl)) hsh
theorem and_tt {a b:Bool} (h:a=true) (k:b=true):(a && b)=true:=by rw[h,k];rfl
theorem closed:joinedFacts Tryz.prog 3 Tryz.f3 (Rows.OpenSpec.upto Rows.dataGlobsSpec).bare Rows.dataGlobsUptoRow=true:=by
 unfold joinedFacts
 repeat (refine and_tt ?_ ?_)
 all_goals (as_aux_lemma=>kernel_rfl)
theorem said:Rows.DataGlobsUptoSaid :=
 OpenClaim.holds_of_cond 3 Tryz.f3 rfl rfl rfl rfl rfl rfl rfl ⟨rfl,rfl,rfl,rfl,rfl⟩ rfl rfl rfl rfl rfl (by kernel_rfl) Tryz.func3 closed
  (of_decide_eq_true (by kernel_rfl)) (by unfold Func.isWrapper;first | (rw[if_pos (by decide +kernel)];kernel_rfl) | (rw[if_neg (by decide +kernel)];exact⟨rfl,rfl⟩))
  (fun os started H enc _ F=>by rw[OpenClaim.pre_eq_preRow];exact lifted os started H enc F)
theorem plain (f : FuncId) (fn : Func) (hf : Tryz.pinned.checked.prog.funcNamed "flatiron/flatironlaw16.DataGlobs" = some f) (hfn : Tryz.pinned.checked.prog.funcs[f]? = some fn) :
  true=Tryz.pinned.checked.prog.looks []∧∀ (j:Nat) t,fn.params[j]?=some t→Tryz.pinned.checked.prog.wantsStandIn t=false:=by
 obtain rfl : f = 3 := Option.some.inj ((show Tryz.prog.funcNamed "flatiron/flatironlaw16.DataGlobs" = some 3 by kernel_rfl).symm.trans hf) |>.symm
 obtain rfl:fn=Tryz.f3:=(Option.some.inj (Tryz.func3.symm.trans hfn)).symm
 refine⟨by kernel_rfl,fun j t ht=>?_⟩
 rw[Tryz.params3] at ht
 rcases (show t=22∨t=9 by simpa using Array.mem_of_getElem? ht) with rfl | rfl
 ·exact(show Tryz.prog.wantsStandIn 22=false by kernel_rfl)
 ·exact(show Tryz.prog.wantsStandIn 9=false by kernel_rfl)
end dglobs
end Go.Proofs.YtgdpbnfgcabneaaGreatDoor

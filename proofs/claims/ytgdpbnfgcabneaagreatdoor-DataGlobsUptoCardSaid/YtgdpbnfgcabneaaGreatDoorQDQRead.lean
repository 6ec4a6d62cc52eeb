/- Part of the proof. -/
import Derived.Test.YtgdpbnfgcabneaaGreatDoorQDQStart
import Derived.Test.YtgdpbnfgcabneaaGreatDoorQMRec
import Derived.Test.YtgdpbnfgcabneaaGreatDoorQJFresh
import Derived.Test.YtgdpbnfgcabneaaGreatDoorQSPut
set_option maxRecDepth 100000
set_option maxHeartbeats 40000000
namespace Go.Proofs.YtgdpbnfgcabneaaGreatDoor
namespace Dq
open Go.RowKit Go.Maps Ww Tw Kw Jw Xb Xw Dz
theorem all_idle (cb:Nat) (w:World) :
  CallsD Tryz.prog 101 #[.pointer (some ⟨cb,0,none⟩)] .returning w fun e u' w'=>e=.returned (.tuple #[])∧u'=.returning∧w'=w:=by
 have hq:∀ w:World,(binOp .eql 20 .nilIface .nilIface).run Tryz.prog w=.ok (.bool true) w:=fun w=>by kernel_rfl
 refine callsD_of_wpS Tryz.func101 rfl fun c₀ cs hu=>?_
 apply wpS_seq
 apply wpS_region
 simp[wpOpsS,go_sem,recoverD,hu,Tryz.ntmps101,Exit.thenS]
 refine wpS_of_wp ?_
 have hQ:∀ a:Act,a.defers=[]→bodyPostS Tryz.prog Tryz.f101 c₀ cs (fun e u' w'=>e=Ending.returned (Value.tuple #[])∧u'=.returning∧w'=w) .ret a (c₀ :: cs) w:=fun a hd=>by
  refine⟨hd,.returning,?_,.tuple #[],?_,rfl,rfl,rfl⟩
  ·cases c₀;simp_all
  ·exact results_none rfl _ _ _
 rw[show (#[Value.pointer (some ⟨cb,0,none⟩)]++((Array.replicate 15 undef).setIfInBounds 3 Value.nilIface).setIfInBounds 0 Value.nilIface)=#[.pointer (some ⟨cb,0,none⟩),.nilIface,undef,undef,.nilIface,undef,undef,undef,undef,undef,undef,undef,undef,undef,undef,undef] from by kernel_rfl]
 go_wp2
 exact hQ _ rfl
theorem part_rule (w:World) (rb:Nat) (ln:Int) (t nd o:ByteArray) (rv:Value) (hrv:∃ a n c,rv=.slice a n c) (R:Ending→World→Prop)
  (HR:Calls Tryz.prog 174 #[.pointer (some ⟨rb,0,none⟩),.agg #[.int .i64 1,.int .i64 ln,.string ⟨#[]⟩,.string ⟨#[]⟩,.string ⟨#[]⟩,.bool false,.bool false,.string t,.string nd,.string o,rv]] (w.alloc (.cells #[.int .i64 1,.int .i64 ln,.string ⟨#[]⟩,.string ⟨#[]⟩,.string ⟨#[]⟩,.bool false,.bool false,.string t,.string nd,.string o,rv] 219)) fun e w'=>e=.returned (.tuple #[])∧R e w') :
  Calls Tryz.prog 102 #[.pointer (some ⟨rb,0,none⟩),.agg #[.int .i64 1,.int .i64 ln,.string ⟨#[]⟩,.string ⟨#[]⟩,.string ⟨#[]⟩,.bool false,.bool false,.string t,.string nd,.string o,rv]] w fun e w'=>e=.returned (.tuple #[])∧R e w':=by
 obtain⟨a,n,c,rfl⟩:=hrv
 have HR:=Lib.hid HR
 go_enter Tryz.func102,Tryz.ntmps102
 go_wp2_with fail
 refine HR.out.mono ?_
 rintro e w1 ⟨rfl,h1⟩
 have H1:=Lib.hid h1
 clear h1 HR
 go_wp2_with fail
 go_end0
 exact⟨rfl,H1.out⟩
def PAt (w:World) (g:Nat) (pc:Array Value):Prop:=g<w.heap.size∧∀ j u,pc[j]?=some u→w.cell? ⟨g,j,none⟩=some u
theorem PAt.below {w w':World} {g:Nat} {pc:Array Value} (h:PAt w g pc) (hB:Below w.heap.size w w'):PAt w' g pc:=⟨Nat.lt_of_lt_of_le h.1 hB.size,fun j u hu=>(hB.cell (p:=⟨g,j,none⟩) h.1).trans (h.2 j u hu)⟩
theorem all_one (w:World) (rb g c:Nat) (k ln:Int) (s2 s3 s4:ByteArray) (q5 q6:Bool) (t nd o:ByteArray) (ra:Option Addr) (rn rc:Nat) (hP:PAt w g #[.int .i64 k,.int .i64 ln,.string s2,.string s3,.string s4,.bool q5,.bool q6,.string t,.string nd,.string o,.slice ra rn rc]) (Y:List Nat) (hY:∀ i∈Y,i<w.heap.size) (P:World→Prop) (hPe:∀ W b i v,(∃ cs,W.heap[b]?=some (.cells cs ErrT (0,0)))→P W→P (W.setCell ⟨b,i,none⟩ v))
  (HR:∀ W,Below w.heap.size w W→Calls Tryz.prog 102 #[.pointer (some ⟨rb,0,none⟩),.agg #[.int .i64 k,.int .i64 ln,.string s2,.string s3,.string s4,.bool q5,.bool q6,.string t,.string nd,.string o,.slice ra rn rc]] W fun e w'=>e=.returned (.tuple #[])∧Kept Y W w'∧P w') :
  Calls Tryz.prog 53 #[.pointer (some ⟨rb,0,none⟩),.slice (some ⟨g,0,none⟩) 1 c] w fun e w'=>e=.returned (.tuple #[.int .i64 0,.int .i64 0])∧Kept Y w w'∧P w':=by
 have hmf:∀ (fn:Fn) (first cap:Array Value) (w:World),(Instr.makeFunc fn first cap).run Tryz.prog w=.ok (.func fn first cap) w:=fun _ _ _ _=>rfl
 have HR:=Lib.hid HR
 have HPE:=Lib.hid hPe
 have HP:=Lib.hid hP
 have HY:=Lib.hid hY
 have hB0:=(Below.refl w.heap.size w).alloc (Nat.le_refl _) (.cells #[.int .i64 0] ErrT)
 have hP0:=hP.below hB0
 have hc0:=zah w (.cells #[.int .i64 0] ErrT)
 have hs0:(w.alloc (.cells #[.int .i64 0] ErrT)).heap.size=w.heap.size+1:=by simp
 have HB0:=Lib.hid hB0
 have HC0:=Lib.hid hc0
 have z0:=hP0.2 0 _ rfl
 have z1:=hP0.2 1 _ rfl
 have z2:=hP0.2 2 _ rfl
 have z3:=hP0.2 3 _ rfl
 have z4:=hP0.2 4 _ rfl
 have z5:=hP0.2 5 _ rfl
 have z6:=hP0.2 6 _ rfl
 have z7:=hP0.2 7 _ rfl
 have z8:=hP0.2 8 _ rfl
 have z9:=hP0.2 9 _ rfl
 have z10:=hP0.2 10 _ rfl
 have hg:=hP0.1
 clear hP hP0 hB0 hc0 hY hPe
 go_enter_defers Tryz.func53,Tryz.ntmps53
 go_wp2_with fail
 generalize w.alloc (.cells #[.int .i64 0] ErrT)=w0 at *
 refine wp_loop_rounds 2 ?_
 rw[rounds_succ]
 go_wp2_with fail
 have hs1:=HB0.out.size
 refine(HR.out _ (HB0.out.alloc hs1 _)).mono ?_
 rintro e w1 ⟨rfl,hk1,hp1⟩
 have hlc:=(Array.getElem?_eq_some_iff.1 HC0.out).1
 have hc1:=(hk1.block w.heap.size (by simp;omega) (fun e=>by have:=HY.out _ e;omega)).trans (zaf HC0.out _)
 have HK1:=Lib.hid (trans_new (Kept.of_below (X:=Y) (HB0.out.alloc hs1 _)) hk1 (fun i hi=>.inl hi))
 have HC1:=Lib.hid hc1
 have HP1:=Lib.hid hp1
 clear hk1 hc1 hp1 HR z0 z1 z2 z3 z4 z5 z6 z7 z8 z9 z10 hg
 go_wp2_with fail
 rw[rounds_succ]
 have k1:=zaa (i:=0) HC1.out rfl
 have f1:=zad HC1.out 0
 have l1:=(Array.getElem?_eq_some_iff.1 HC1.out).1
 have hc4:=heap_set (i:=0) HC1.out (.int .i64 0)
 have c4:(w1.setCell ⟨w.heap.size,0,none⟩ (.int .i64 0)).cell? ⟨w.heap.size,0,none⟩=some (.int .i64 0):=zaa (i:=0) hc4 rfl
 have HK4:=Lib.hid ((Kept.refl [w.heap.size] w1).setCell (p:=⟨w.heap.size,0,none⟩) (.inl (by simp)) (.int .i64 0))
 clear hc4
 go_wp2_with fail
 refine leaves_cons (f:=101) (args:=#[.pointer (some ⟨w.heap.size,0,none⟩)]) (by simp) (by simp[go_sem]) ?_
 refine(all_idle w.heap.size _).mono ?_
 rintro e u' w4 ⟨rfl,rfl,rfl⟩
 simp only [Leaves,settle]
 refine⟨.tuple #[.int .i64 0,.int .i64 0],?_,rfl,trans_new HK1.out HK4.out (by simp),HPE.out _ _ _ _ ⟨_,HC1.out⟩ HP1.out⟩
 simp[results,Tryz.results53,go_sem,c4]
end Dq
namespace Iw
open Go.RowKit Ww
theorem Of_any (w:World) (s:ByteArray) (hs:s.size≤100000) :
  Calls Tryz.prog 96 #[.string s] w fun e w'=>∃ a c,e=.returned (.slice a (Ip.zci (by8 s)).length c)∧w'.ownsRow (w.heap.size+1) LT 3 (.slice a (Ip.zci (by8 s)).length c) (Ip.zci (by8 s)).length (zcp (Ip.zci (by8 s)))∧Below w.heap.size w w':=by
 have HE:=Lib.hid (each_any (w.alloc (.cells #[.slice none 0 0] LS)) w.heap.size s hs ⟨_,Boxed.new w LS _,World.ownsRow_nil _ _ _ _⟩)
 go_enter Tryz.func96,Tryz.ntmps96
 go_wp2_with fail
 refine HE.out.mono ?_
 rintro e w' ⟨rfl,⟨v,hv,hr⟩,hB⟩
 have c0:=hv.cell
 obtain⟨a,c,rfl⟩:=zac hr
 go_wp2_with fail
 go_ret
 exact⟨a,c,rfl,hr,Below.trans ((Below.refl _ _).alloc (Nat.le_refl _) _) hB⟩
theorem line_cells {w:World} {B:Nat} {T:TypeId} {a:Option Addr} {c:Nat} {l:List Ip.L} (h:w.ownsRow B T 3 (.slice a l.length c) l.length (zcp l)) {i:Nat} (hi:i<l.length) :
  ∃ g,a=some ⟨g,0,none⟩∧l.length≤c∧g<w.heap.size∧B≤g∧w.cell? ⟨g,i * 3,none⟩=some (.int .i64 (l[i].n:Int))∧w.cell? ⟨g,i * 3+1,none⟩=some (.string (str l[i].t))∧w.cell? ⟨g,i * 3+2,none⟩=some (.bool l[i].q):=by
 have hcell:∀ (l:List Ip.L) (i:Nat) (hi:i<l.length),(zcp l)[i * 3]?=some (.int .i64 (l[i].n:Int))∧(zcp l)[i * 3+1]?=some (.string (str l[i].t))∧(zcp l)[i * 3+2]?=some (.bool l[i].q):=by
  intro l
  induction l with
  | nil=>intro i hi;simp at hi
  | cons x l ih =>
   intro i hi
   have e:zcp (x :: l)=lineC x++zcp l:=rfl
   cases i with
   | zero=>exact⟨rfl,rfl,rfl⟩
   | succ i =>
    obtain⟨h1,h2,h3⟩:=ih i (by simpa using hi)
    rw[e,show (i+1) * 3=(lineC x).length+i * 3 by show _=3+i * 3;omega]
    rw[Nat.add_assoc,Nat.add_assoc,List.getElem?_append_right (by omega),List.getElem?_append_right (by omega),List.getElem?_append_right (by omega)]
    simp only [Nat.add_sub_cancel_left,List.getElem_cons_succ]
    exact⟨h1,h2,h3⟩
 obtain⟨h1,h2,h3⟩:=hcell l i hi
 obtain⟨hl,hr⟩:=id h
 rcases hr with ⟨hn,h0⟩ | ⟨g,cap,cur,hv,hb,hg,hn,hc,hs,ht⟩
 ·omega
 ·cases hv
  have hk:=h.cells (g:=g) rfl
  have k1:=hk _ _ h1
  have k2:=hk _ _ h2
  have k3:=hk _ _ h3
  rw[Addr.add_lit,Nat.zero_add] at k1 k2 k3
  exact⟨g,rfl,hn,(Array.getElem?_eq_some_iff.1 hg).1,hb,k1,k2,k3⟩
end Iw
namespace Mw
open Go.RowKit Ww Iw
abbrev FT:TypeId:=42
theorem Ps.mono {w:World} {lo lo':Nat} {v:Value} {X:List PV} (h:Ps w lo v X) (hl:lo'≤lo):Ps w lo' v X:=⟨zco h.row hl,fun x hx=>zco (h.each x hx) hl,h.apart⟩
theorem sizeF:(Tryz.prog.info? FT).map (·.size)=some 3:=by kernel_rfl
theorem undF:Tryz.prog.underlying FT=some (.struct (Tryz.prog.fieldsOf FT)):=by kernel_rfl
theorem zld {P:Program} {fn:Func} {p q:Tmp} {ty:TypeId} (h:fn.results=#[.tmp q,.cell p ty]) (tmps:Array Value) (w:World) (g:Nat) (t:TypeId) (cs:Array Value) (fr:Nat×Nat) (d:TypeDesc) (r:Value)
  (hp:tmps.getD p undef=.pointer (some ⟨g,0,none⟩)) (hq:tmps.getD q undef=r) (hg:w.heap[g]?=some (.cells cs t fr))
  (hu:P.underlying ty=some d) (hd:(match d with | .struct _ | .array _ _=>true | _=>false)=true) (hi:(P.info? ty).map (·.size)=some cs.size) :
  (results fn tmps).run P w=.ok (.tuple #[r,.agg cs]) w:=by
 have hp':tmps[p]?.getD undef=.pointer (some ⟨g,0,none⟩):=by simpa using hp
 have hq':tmps[q]?.getD undef=r:=by simpa using hq
 simp[results,h,hp',hq',asAddr,run_loadVar_row w g t ty cs fr d hg hu hd hi,Result.andThen]
def OfPost (w:World) (at_:ByteArray) (r:Except Nat (List Mp.P)) (e:Ending) (w':World):Prop :=
 (match r with
  | .error n=>e=.returned (.tuple #[.slice none 0 0,.agg #[.int .i64 6,.string at_,.int .i64 (n:Int)]])
  | .ok L=>∃ X a c,X.map PV.p=L∧e=.returned (.tuple #[.slice a X.length c,.agg #[.int .i64 0,.string ⟨#[]⟩,.int .i64 0]])∧Ps w' w.heap.size (.slice a X.length c) X)∧Below w.heap.size w w'
def OfRel (w1:World) (L:List Ip.L) (v6 v14:Value) (wr:World):Prop :=
 ∃ (i:Nat) (X:List PV) (a:Option Addr) (c:Nat),v14=.int .i64 i∧v6=.slice a X.length c∧i≤L.length∧X.length≤i∧(∀ p∈X.map PV.p,p.recipe.length≤i)∧Ps wr w1.heap.size (.slice a X.length c) X∧Below w1.heap.size w1 wr ∧
  Mp.goA [] L=Mp.goA (X.map PV.p) (L.drop i)
theorem go_err {l:List Mp.P} {x:Ip.L} {r:List Ip.L} (h:Mp.addA l x=none):Mp.goA l (x :: r)=.error x.n:=by
 conv=>lhs;unfold Mp.goA
 rw[h]
theorem go_ok {l m:List Mp.P} {x:Ip.L} {r:List Ip.L} (h:Mp.addA l x=some m):Mp.goA l (x :: r)=Mp.goA m r:=by
 conv=>lhs;unfold Mp.goA
 rw[h]
theorem Of_any (w:World) (at_ s:ByteArray) (hs:s.size≤99990) :
  Calls Tryz.prog 50 #[.string at_,.string s] w (OfPost w at_ (Mp.zkg (by8 s))):=by
 have hll:=Ip.linesA_le (by8 s)
 have hcl:=List.count_le_length (a:=(10:UInt8)) (l:=by8 s)
 rw[zab] at hcl
 have HO:=Lib.hid fun W=>Iw.Of_any W s (by omega)
 have hlen:∀ x∈Ip.zci (by8 s),x.t.length≤100000:=fun x hx=>by
  have:=Ip.linesA_len hx
  rw[zab] at this;omega
 have HG:Hid (Mp.zkg (by8 s)=Mp.goA [] (Ip.zci (by8 s))):=Lib.hid rfl
 generalize Ip.zci (by8 s)=L at *
 generalize Mp.zkg (by8 s)=R at *
 have hL2:L.length≤100000:=by omega
 have HLn:=Lib.hid hlen
 clear hll hcl hlen hs
 have HB0:=Lib.hid ((Below.refl w.heap.size w).alloc (Nat.le_refl _) (.cells #[.int .i64 0,.string ⟨#[]⟩,.int .i64 0] FT))
 have HX0:=Lib.hid (heap_alloc_last w (.cells #[.int .i64 0,.string ⟨#[]⟩,.int .i64 0] FT))
 go_enter Tryz.func50,Tryz.ntmps50
 go_wp2_with fail
 refine(HO.out _).mono ?_
 rintro e w1 ⟨al,cl,rfl,hr,B1⟩
 have HR:=Lib.hid hr
 have HB1:=Lib.hid (HB0.out.trans (B1.mono (by simp)))
 have HX1:=Lib.hid ((B1.block w.heap.size (by simp)).trans HX0.out)
 have hx1:w.heap.size<w1.heap.size:=(Array.getElem?_eq_some_iff.1 HX1.out).1
 clear B1 hr
 go_wp2_with fail
 go_loopw [6,14] (fun v6 v14 wr=>OfRel w1 L v6 v14 wr) (fun _ v14 _=>L.length - (intOf v14).toNat)
 case atStart=>exact⟨0,[],none,0,rfl,rfl,Nat.zero_le _,Nat.le_refl _,by simp,Ps.nil _ _,Below.refl _ _,rfl⟩
 case round =>
  obtain⟨i,X,a,c,rfl,rfl,hi,hXi,hrec,hP,hB,hgo⟩:=hrel
  have hws:=hB.size
  by_cases hlt:i<L.length
  ·obtain⟨g,rfl,hgc,hg,_,x0,x1,x2⟩:=line_cells HR.out hlt
   have p0:wr.cell? ⟨g,i * 3,none⟩=some (.int .i64 (L[i].n:Int)):=(hB.cell (p:=⟨g,i * 3,none⟩) hg).trans x0
   have p1:wr.cell? ⟨g,i * 3+1,none⟩=some (.string (str L[i].t)):=(hB.cell (p:=⟨g,i * 3+1,none⟩) hg).trans x1
   have p2:wr.cell? ⟨g,i * 3+2,none⟩=some (.bool L[i].q):=(hB.cell (p:=⟨g,i * 3+2,none⟩) hg).trans x2
   have htl:=HLn.out L[i] (List.getElem_mem hlt)
   rw[List.drop_eq_getElem_cons hlt] at hgo
   clear HLn
   generalize hx:L[i]=x at *
   rcases x with ⟨xn,xt,xq⟩
   have HP:=Lib.hid (hP.below ((Below.refl wr.heap.size wr).alloc (Nat.le_refl _) (.cells #[.int .i64 (xn:Int),.string (str xt),.bool xq] LT)))
   have HA:=Lib.hid (zgr (wr.alloc (.cells #[.int .i64 (xn:Int),.string (str xt),.bool xq] LT)) w1.heap.size a c X xn xt xq (by simp;omega) HP.out (by omega) (fun y hy=>by have:=hrec y.p (List.mem_map_of_mem hy);omega) htl)
   have hki:(i:Int)<L.length:=by omega
   have hk0:(0:Int)≤(i:Int):=Int.natCast_nonneg _
   have HGO:=Lib.hid hgo
   have HB:=Lib.hid hB
   have hapart:∀ g',(Value.slice a X.length c).ownBlock=some g'→g'<wr.heap.size:=fun g' h=>(hP.row.lt g' h).2
   have hapart2:∀ y∈X,∀ g',y.v.ownBlock=some g'→g'<wr.heap.size:=fun y hy g' h=>((hP.each y hy).lt g' h).2
   have HAP:=Lib.hid hapart
   have HAP2:=Lib.hid hapart2
   have HRC:=Lib.hid hrec
   clear x0 x1 x2 hx hgo htl hP hB hapart hapart2 hrec
   cases hadd:Mp.addA (X.map PV.p) ⟨xn,xt,xq⟩ with
   | none =>
    have HE:=Lib.hid (go_err (r:=L.drop (i+1)) hadd)
    rw[hadd] at HA
    clear hadd
    go_wp2_with fail
    refine HA.out.mono ?_
    rintro e w4 ⟨⟨a4,n4,c4,rfl⟩,B4,hk4⟩
    have hbx:w4.heap[wr.heap.size]?=some (.cells #[.int .i64 (xn:Int),.string (str xt),.bool xq] LT (0,0)):=(hk4 wr.heap.size (by simp) (fun h=>Nat.lt_irrefl _ (HAP.out _ h)) (fun y hy h=>Nat.lt_irrefl _ (HAP2.out y hy _ h))).trans (World.alloc_heap_new _ _)
    have HB4:=Lib.hid ((HB.out.alloc hws _).trans B4)
    have HX4:=Lib.hid ((HB4.out.block w.heap.size hx1).trans HX1.out)
    have b0:w4.cell? ⟨wr.heap.size,0,none⟩=some (.int .i64 (xn:Int)):=zaa hbx rfl
    have d0:w4.cell? ⟨w.heap.size,0,none⟩=some (.int .i64 0):=zaa HX4.out rfl
    have d1:w4.cell? ⟨w.heap.size,1,none⟩=some (.string ⟨#[]⟩):=zaa HX4.out rfl
    have d2:w4.cell? ⟨w.heap.size,2,none⟩=some (.int .i64 0):=zaa HX4.out rfl
    have f0:w4.frozen? ⟨w.heap.size,0,none⟩=false:=zad HX4.out _
    have f1:w4.frozen? ⟨w.heap.size,1,none⟩=false:=zad HX4.out _
    have f2:w4.frozen? ⟨w.heap.size,2,none⟩=false:=zad HX4.out _
    clear hbx B4 hk4
    go_wp2_with fail
    go_region
    go_wp2_with fail
    refine bodyPost_ret (zld Tryz.results50 _ _ w.heap.size FT #[.int .i64 6,.string at_,.int .i64 (xn:Int)] (0,0) _ (.slice none 0 0) rfl rfl ((congrArg (·[w.heap.size]?) (heap_drew _)).trans (zai (i:=2) (zai (i:=1) (zai (i:=0) HX4.out _) _) _)) undF rfl sizeF) rfl ?_
    rw[HG.out,HGO.out,HE.out]
    exact⟨rfl,((((HB1.out.trans (HB4.out.mono (Nat.le_of_lt hx1))).setCell (Nat.le_refl _) _).setCell (Nat.le_refl _) _).setCell (Nat.le_refl _) _).drew⟩
   | some M =>
    have HE:=Lib.hid (go_ok (r:=L.drop (i+1)) hadd)
    have hml:=(Mp.zdj hadd).1
    have HRC2:=Lib.hid (addA_rec hadd HRC.out)
    rw[List.length_map] at hml
    rw[hadd] at HA
    clear hadd
    go_wp2_with fail
    refine HA.out.mono ?_
    rintro e w4 ⟨⟨X4,a4,c4,hM,rfl,hP4⟩,B4,_⟩
    have HM:=Lib.hid hM
    have hx4:X4.length=M.length:=by rw[←hM,List.length_map]
    have hx5:X4.length≤i+1:=by omega
    have HB4:=Lib.hid ((HB.out.alloc hws _).trans B4)
    have HP4:=Lib.hid hP4
    clear B4 hM hP4 hx4 hml
    go_wp2_with fail
    go_roundw
    case rel=>exact⟨i+1,X4,a4,c4,by go_num,rfl,hlt,hx5,by rw[HM.out];exact HRC2.out,HP4.out,HB4.out,by rw[HGO.out,HE.out,HM.out]⟩
    case measure=>simp[intOf];omega
  ·obtain rfl:i=L.length:=by omega
   have HGO:Hid (Mp.goA [] L=.ok (X.map PV.p)):=Lib.hid (by rw[hgo,List.drop_length];rfl)
   have HB2:=Lib.hid hB
   have HP:=Lib.hid hP
   have HX4:=Lib.hid ((hB.block w.heap.size hx1).trans HX1.out)
   have d0:wr.cell? ⟨w.heap.size,0,none⟩=some (.int .i64 0):=zaa HX4.out rfl
   have d1:wr.cell? ⟨w.heap.size,1,none⟩=some (.string ⟨#[]⟩):=zaa HX4.out rfl
   have d2:wr.cell? ⟨w.heap.size,2,none⟩=some (.int .i64 0):=zaa HX4.out rfl
   have f0:wr.frozen? ⟨w.heap.size,0,none⟩=false:=zad HX4.out _
   have f1:wr.frozen? ⟨w.heap.size,1,none⟩=false:=zad HX4.out _
   have f2:wr.frozen? ⟨w.heap.size,2,none⟩=false:=zad HX4.out _
   have hki:¬ (L.length:Int)<L.length:=by omega
   clear hgo hB hP
   go_wp2_with fail
   refine bodyPost_ret (zld Tryz.results50 _ _ w.heap.size FT #[.int .i64 0,.string ⟨#[]⟩,.int .i64 0] (0,0) _ (.slice a X.length c) rfl rfl (zai (i:=2) (zai (i:=1) (zai (i:=0) HX4.out _) _) _) undF rfl sizeF) rfl ?_
   rw[HG.out,HGO.out]
   exact⟨⟨X,a,c,rfl,rfl,(HP.out.kept fun g h1 _=>(Below.heap_setCell _ _ _ _ (by show g≠w.heap.size;omega)).trans ((Below.heap_setCell _ _ _ _ (by show g≠w.heap.size;omega)).trans (Below.heap_setCell _ _ _ _ (by show g≠w.heap.size;omega)))).mono (Nat.le_of_lt hx1)⟩,(((HB1.out.trans (HB2.out.mono (Nat.le_of_lt hx1))).setCell (Nat.le_refl _) _).setCell (Nat.le_refl _) _).setCell (Nat.le_refl _) _⟩
end Mw
namespace Jw
open Go.RowKit Ww Tw Kw
def Kinds (w:World) (X:List Nat):Prop:=∀ i∈X,(∃ es ck,w.heap[i]?=some (.map es ck))∨∃ cs t fz,w.heap[i]?=some (.cells cs t fz)∧(t=PT∨t=BT∨t=U8)
theorem Tab.shrink {w:World} {tb:Nat} {X:List Nat} {L:List Jp.V} {M:List (Bs×Int)} {all:Bool} (h:Tab w tb X L M all):∃ X0,Tab w tb X0 L M all∧Kinds w X0∧∀ i∈X0,i∈X:=by
 obtain⟨E,mv,mn,O,h,e⟩:=h
 have hX:∀ i,i∈tb :: (mv.toList++(mn.toList++E.flatMap fun e=>if e.2.g=none then [] else O e.1))↔i=tb∨mv=some i∨mn=some i∨∃ e∈E,e.2.g≠none∧i∈O e.1:=by
  intro i
  simp only [List.mem_cons,List.mem_append,Option.mem_toList,List.mem_flatMap]
  refine or_congr Iff.rfl (or_congr Iff.rfl (or_congr Iff.rfl ?_))
  constructor
  ·rintro ⟨e,he,hi⟩
   by_cases hg:e.2.g=none
   ·rw[if_pos hg] at hi;cases hi
   ·rw[if_neg hg] at hi;exact⟨e,he,hg,hi⟩
  ·rintro ⟨e,he,hg,hi⟩
   exact⟨e,he,by rw[if_neg hg];exact hi⟩
 refine⟨tb :: (mv.toList++(mn.toList++E.flatMap fun e=>if e.2.g=none then [] else O e.1)),⟨E,mv,mn,O,⟨h.cells,h.vars,h.named,h.ne,h.keys,h.grown,(hX _).2 (.inl rfl),fun b hb=>(hX _).2 (.inr (.inl hb)),fun b hb=>(hX _).2 (.inr (.inr (.inl hb))),fun e he hg i hi=>(hX _).2 (.inr (.inr (.inr ⟨e,he,hg,hi⟩)))⟩,e⟩,fun i hi=>?_,fun i hi=>?_⟩
 ·rcases (hX i).1 hi with rfl | hb | hb | ⟨e,he,hg,hi⟩
  ·exact .inr ⟨_,_,_,h.cells,.inl rfl⟩
  ·subst hb;exact .inl (Kw.MapAt.obj h.vars)
  ·subst hb;exact .inl (Kw.MapAt.obj h.named)
  ·cases hq:e.2.g with
   | none=>exact absurd hq hg
   | some b =>
    obtain⟨pv,bv,hB⟩:=h.grown.at_ e he b hq
    obtain⟨cs,t,fz,h1,h2⟩:=hB.cells_of i hi
    exact .inr ⟨cs,t,fz,h1,.inr h2⟩
 ·rcases (hX i).1 hi with rfl | hb | hb | ⟨e,he,hg,hi⟩
  ·exact h.tX
  ·exact h.vX i hb
  ·exact h.nX i hb
  ·exact h.oX e he hg i hi
theorem Kinds.row {w:World} {X:List Nat} (h:Kinds w X) {lo:Nat} {t:TypeId} {z:Nat} {v:Value} {n:Nat} {xs:List Value} (ho:w.ownsRow lo t z v n xs) (ht:t≠PT∧t≠BT∧t≠U8):∀ k,v.ownBlock=some k→k∉X:=by
 intro k hk hX
 rcases ho.2 with ⟨hv,_⟩ | ⟨g,cap,cur,hv,_,hg,_⟩
 ·rw[hv] at hk;simp[Value.ownBlock] at hk
 ·rw[hv] at hk
  simp[Value.ownBlock] at hk
  subst hk
  rcases h g hX with ⟨es,ck,h1⟩ | ⟨cs,t',fz,h1,h2⟩
  ·rw[hg] at h1;cases h1
  ·rw[hg] at h1;cases h1
   rcases h2 with h2 | h2 | h2
   ·exact ht.1 h2
   ·exact ht.2.1 h2
   ·exact ht.2.2 h2
theorem Kinds.box {w:World} {X:List Nat} (h:Kinds w X) {b:Nat} {cs:Array Value} {t:TypeId} {fz:Nat×Nat} (hb:w.heap[b]?=some (.cells cs t fz)) (ht:t≠PT∧t≠BT∧t≠U8):b∉X:=by
 intro hX
 rcases h b hX with ⟨es,ck,h1⟩ | ⟨cs,t',fz,h1,h2⟩
 ·rw[hb] at h1;cases h1
 ·rw[hb] at h1;cases h1
  rcases h2 with h2 | h2 | h2
  ·exact ht.1 h2
  ·exact ht.2.1 h2
  ·exact ht.2.2 h2
theorem Kinds.lt {w:World} {X:List Nat} (h:Kinds w X):∀ i∈X,i<w.heap.size:=fun i hi=>by
 rcases h i hi with ⟨es,ck,h1⟩ | ⟨cs,t,fz,h1,_⟩
 ·exact(Array.getElem?_eq_some_iff.1 h1).1
 ·exact(Array.getElem?_eq_some_iff.1 h1).1
end Jw
namespace Dq
open Go.RowKit Go.Maps Ww Tw Kw Jw Xb Xw Dz
abbrev FaT:TypeId:=42
def pC (k ln:Int) (s2 s3 s4:ByteArray) (q5 q6:Bool) (t nd o:ByteArray) (rv:Value):Array Value:=#[.int .i64 k,.int .i64 ln,.string s2,.string s3,.string s4,.bool q5,.bool q6,.string t,.string nd,.string o,rv]
def AllC (w:World) (L:List Jp.V) (sv:Value) (dir:ByteArray) (pc:Value→Array Value) (P:Nat→World→Prop):Prop :=
 ∀ (W0 W:World) (rb db tb sx dx rx fx ib kb:Nat) (X:List Nat) (g c:Nat) (ra:Option Addr) (rc:Nat),Beg W0 W rb db tb sx dx rx fx ib kb sv dir→w.heap.size≤W0.heap.size→Below w.heap.size w W→w.heap.size≤db→db<W0.heap.size→Tab W tb X L [] false→(∀ i∈X,w.heap.size<i∧i<W0.heap.size)→g<W0.heap.size→PAt W g (pc (.slice ra 0 rc)) →
  Calls Tryz.prog 53 #[.pointer (some ⟨rb,0,none⟩),.slice (some ⟨g,0,none⟩) 1 c] W fun e w'=>∃ Y,e=.returned (.tuple #[.int .i64 0,.int .i64 0])∧Kept Y W w'∧(∀ i∈Y,i=db∨i∈X∨W0.heap.size≤i∧i≠rb)∧P db w'
theorem zvu {w:World} {lo:Nat} {a:Option Addr} {c:Nat} {X:List Mw.PV} {p:Mp.P} (hX:X.map Mw.PV.p=[p]) (hr:p.recipe=[]) (h:Mw.Ps w lo (.slice a X.length c) X) :
  ∃ g ra rc,a=some ⟨g,0,none⟩∧X.length=1∧lo≤g∧PAt w g (Mw.zbj p (.slice ra 0 rc)):=by
 obtain⟨x,rfl⟩:∃ x,X=[x]:=by
  have:=congrArg List.length hX
  exact List.length_eq_one_iff.1 (by simpa using this)
 have hp:x.p=p:=by simpa using hX
 subst hp
 have hv:=h.each x (by simp)
 rw[hr] at hv
 obtain⟨ra,rc,hvr⟩:∃ a c,x.v=.slice a 0 c:=by
  rcases hv.2 with ⟨h,_⟩ | ⟨g,cap,_,h,_⟩
  ·exact⟨_,_,h⟩
  ·exact⟨_,_,h⟩
 rcases h.row.2 with ⟨_,h0⟩ | ⟨g,cap,cur,hv,hb,hg,_⟩
 ·cases h0
 ·cases hv
  refine⟨g,ra,rc,rfl,rfl,hb,(Array.getElem?_eq_some_iff.1 hg).1,fun j u hu=>?_⟩
  have:=h.row.cells (g:=g) rfl j u (by
   show (Mw.pvsC [x])[j]?=some u
   have e:Mw.pvsC [x]=(Mw.zbj x.p x.v).toList:=by simp[Mw.pvsC,Mw.pvC]
   rw[e,hvr]
   simpa using hu)
  rw[Addr.add_lit,Nat.zero_add] at this
  exact this
theorem kinds_lt {w:World} {X:List Nat} (h:Kinds w X):∀ i∈X,i<w.heap.size:=fun i hi=>by
 rcases h i hi with ⟨es,ck,h1⟩ | ⟨cs,t,fz,h1,_⟩
 ·exact(Array.getElem?_eq_some_iff.1 h1).1
 ·exact(Array.getElem?_eq_some_iff.1 h1).1
theorem Read_ok (w:World) (sp:Option Addr) {tb:Nat} (hT:NewT w tb) (q:ByteArray) (wh t:Bs) (hq:q.size≤1000) (hcl:zaq (bs q)=true) (hj:Hid (Pt.join [bs q,[77,97,107,101,102,105,108,101]]=some wh))
  (HRd:∀ W,Below w.heap.size w W→Calls Tryz.prog 49 #[.pointer sp,.string (str wh)] W fun e w'=>e=.returned (.tuple #[.string (str t),.int .i64 0])∧Below W.heap.size W w') (ht:t.length≤99990)
  (k ln:Nat) (s2 s3 s4 tt nd o:Bs) (q5 q6:Bool) (hp:Mp.zkg t=.ok [⟨k,ln,s2,s3,s4,q5,q6,tt,nd,o,[]⟩]) (P:Nat→World→Prop) (hPe:∀ db W b i v,(∃ cs,W.heap[b]?=some (.cells cs FaT (0,0)))→P db W→P db (W.setCell ⟨b,i,none⟩ v))
  (HA:AllC w [] (.pointer sp) q (pC k ln (str s2) (str s3) (str s4) q5 q6 (str tt) (str nd) (str o)) P) :
  Calls Tryz.prog 11 #[.pointer sp,.string q,.pointer (some ⟨tb,0,none⟩)] w fun e w'=>∃ db,e=.returned (.tuple #[.pointer (some ⟨db,0,none⟩),.agg #[.int .i64 0,.string ⟨#[]⟩,.int .i64 0]])∧Below w.heap.size w w'∧w.heap.size≤db∧P db w':=by
 have HCl:=Lib.hid fun W=>zok W q (by omega)
 rw[hcl] at HCl
 have HJ:=Lib.hid fun W b hb=>zoi W b hb q ⟨#[77,97,107,101,102,105,108,101]⟩ wh ⟨by omega,by decide⟩ hj
 have HOf:=Lib.hid fun W=>Mw.Of_any W (str wh) (str t) (by show t.toArray.size≤_;rw[List.size_toArray];exact ht)
 rw[show by8 (str t)=t from rfl,hp] at HOf
 have HRd:=Lib.hid HRd
 have HA:=Lib.hid HA
 have HPE:=Lib.hid hPe
 have HC:=Lib.hid fun W (h:Below w.heap.size w W)=>PClone_new W (hT.below h)
 clear hT hcl hj ht hp hPe
 have hB0:=(Below.refl w.heap.size w).alloc (Nat.le_refl _) (.cells #[.int .i64 0,.string ⟨#[]⟩,.int .i64 0] FaT)
 have hf0:=zah w (.cells #[.int .i64 0,.string ⟨#[]⟩,.int .i64 0] FaT)
 have HB0:=Lib.hid hB0
 have HF0:=Lib.hid hf0
 have hlf:=(Array.getElem?_eq_some_iff.1 hf0).1
 clear hB0 hf0
 go_enter Tryz.func11,Tryz.ntmps11
 go_wp2_with fail
 generalize w.alloc (.cells #[.int .i64 0,.string ⟨#[]⟩,.int .i64 0] FaT)=w0 at *
 refine(HCl.out _).mono ?_
 rintro e w1 ⟨rfl,B1⟩
 have hs1:=HB0.out.size
 have HB1:=Lib.hid (HB0.out.trans (B1.mono hs1))
 have HF1:=Lib.hid ((B1.block _ hlf).trans HF0.out)
 clear B1 HCl
 go_wp2_with fail
 refine(HJ.out w1 _ rfl).mono ?_
 rintro e w2 ⟨rfl,B2⟩
 have HB2:=Lib.hid (HB1.out.trans (B2.mono HB1.out.size))
 have HF2:=Lib.hid ((B2.block _ (Array.getElem?_eq_some_iff.1 HF1.out).1).trans HF1.out)
 clear B2 HJ
 go_wp2_with fail
 refine(HRd.out w2 HB2.out).mono ?_
 rintro e w3 ⟨rfl,B3⟩
 have HB3:=Lib.hid (HB2.out.trans (B3.mono HB2.out.size))
 have HN3:=Lib.hid (show w.heap.size<w3.heap.size from Nat.lt_of_lt_of_le (Array.getElem?_eq_some_iff.1 HF2.out).1 B3.size)
 have HF3:=Lib.hid ((B3.block _ (Array.getElem?_eq_some_iff.1 HF2.out).1).trans HF2.out)
 clear B3 HRd HF1
 go_wp2_with fail
 refine(HOf.out w3).mono ?_
 rintro e w4 ⟨⟨XX,a,c,hX,rfl,hPs⟩,B4⟩
 obtain⟨g,ra,rc,rfl,hl1,hgl,hpa⟩:=zvu hX rfl hPs
 rw[hl1]
 have HB4:=Lib.hid (HB3.out.trans (B4.mono HB3.out.size))
 have hf4:=(B4.block _ (Array.getElem?_eq_some_iff.1 HF3.out).1).trans HF3.out
 have HF4:=Lib.hid hf4
 have HPA:=Lib.hid hpa
 have z0:=zaa (i:=0) hf4 rfl
 have z1:=zaa (i:=1) hf4 rfl
 have z2:=zaa (i:=2) hf4 rfl
 have fz0:=zad hf4 0
 have fz1:=zad hf4 1
 have fz2:=zad hf4 2
 have l4:=(Array.getElem?_eq_some_iff.1 hf4).1
 clear hX hPs B4 hf4 hpa HOf HF3 HF2 HF0 hlf hl1
 go_wp2_with fail
 have h50:=heap_set (i:=0) HF4.out (.int .i64 0)
 have h51:=heap_set (i:=1) h50 (.string ⟨#[]⟩)
 have h52:=heap_set (i:=2) h51 (.int .i64 0)
 have B5:=((HB4.out.setCell (p:=⟨w.heap.size,0,none⟩) (by simp) (.int .i64 0)).setCell (p:=⟨w.heap.size,1,none⟩) (by simp) (.string ⟨#[]⟩)).setCell (p:=⟨w.heap.size,2,none⟩) (by simp) (.int .i64 0)
 have hgne:g≠w.heap.size:=by have:=HB3.out.size;have:=HN3.out;omega
 have hpa5:PAt (((w4.setCell ⟨w.heap.size,0,none⟩ (.int .i64 0)).setCell ⟨w.heap.size,1,none⟩ (.string ⟨#[]⟩)).setCell ⟨w.heap.size,2,none⟩ (.int .i64 0)) g (Mw.zbj ⟨k,ln,s2,s3,s4,q5,q6,tt,nd,o,[]⟩ (.slice ra 0 rc)) :=
  ⟨by simpa[World.setCell] using HPA.out.1,fun j u hu=>by
   have e:(((w4.setCell ⟨w.heap.size,0,none⟩ (.int .i64 0)).setCell ⟨w.heap.size,1,none⟩ (.string ⟨#[]⟩)).setCell ⟨w.heap.size,2,none⟩ (.int .i64 0)).heap[g]?=w4.heap[g]?:=(Below.heap_setCell _ _ _ _ hgne).trans ((Below.heap_setCell _ _ _ _ hgne).trans (Below.heap_setCell _ _ _ _ hgne))
   exact(World.cell?_of_block (w:=w4) e).trans (HPA.out.2 j u hu)⟩
 have HF5:=Lib.hid h52
 have HB5:=Lib.hid B5
 have HPA5:=Lib.hid hpa5
 clear z0 z1 z2 fz0 fz1 fz2 l4 h50 h51 h52 B5 hpa5 HF4 HPA
 generalize ((w4.setCell ⟨w.heap.size,0,none⟩ (.int .i64 0)).setCell ⟨w.heap.size,1,none⟩ (.string ⟨#[]⟩)).setCell ⟨w.heap.size,2,none⟩ (.int .i64 0)=w5 at *
 refine(HC.out w5 HB5.out).mono ?_
 rintro e w6 ⟨cb,X1,rfl,hT61,hX61,B6⟩
 obtain⟨X',hT6,hK6,hsub⟩:=hT61.shrink
 have hX6:∀ i∈X',w5.heap.size≤i:=fun i hi=>hX61 i (hsub i hi)
 clear hT61 hX61 hsub
 have HF6:=Lib.hid ((B6.block _ (Array.getElem?_eq_some_iff.1 HF5.out).1).trans HF5.out)
 have HB6:=Lib.hid (HB5.out.trans (B6.mono HB5.out.size))
 have HPA6:=Lib.hid (HPA5.out.below B6)
 have HT6:=Lib.hid hT6
 have HX6:=Lib.hid (show ∀ i∈X',w.heap.size<i from fun i hi=>Nat.lt_of_lt_of_le (Array.getElem?_eq_some_iff.1 HF5.out).1 (hX6 i hi))
 have HXL:=Lib.hid (show ∀ i∈X',i<w6.heap.size from fun i hi=>kinds_lt hK6 i hi)
 clear hT6 hX6 B6 HC hK6
 go_wp2_with fail
 have HA0:=Lib.hid ((Below.refl _ w6).alloc (Nat.le_refl _) (.cells (dC q cb (.slice none 0 0) (.slice none 0 0) (.slice none 0 0) (.slice none 0 0)) DT))
 have HD6:=Lib.hid (zah w6 (.cells (dC q cb (.slice none 0 0) (.slice none 0 0) (.slice none 0 0) (.slice none 0 0)) DT))
 have hs6:(w6.alloc (.cells (dC q cb (.slice none 0 0) (.slice none 0 0) (.slice none 0 0) (.slice none 0 0)) DT)).heap.size=w6.heap.size+1:=by simp
 have HS6:=Lib.hid hs6
 clear hs6
 refine(start_any HD6.out sp).mono ?_
 rintro e w7 ⟨rb,sx,dx,rx,fx,ib,kb,rfl,hBeg⟩
 have HBG:=Lib.hid hBeg
 have B7:=HA0.out.trans (hBeg.b.mono HA0.out.size)
 have HF7:=Lib.hid ((B7.block _ (Array.getElem?_eq_some_iff.1 HF6.out).1).trans HF6.out)
 have HB7:=Lib.hid (HB6.out.trans (B7.mono HB6.out.size))
 have HPA7:=Lib.hid (HPA6.out.below B7)
 have HT7:=Lib.hid (HT6.out.below B7)
 clear hBeg B7
 go_wp2_with fail
 have hXl:∀ i∈X',w.heap.size<i∧i<(w6.alloc (.cells (dC q cb (.slice none 0 0) (.slice none 0 0) (.slice none 0 0) (.slice none 0 0)) DT)).heap.size:=fun i hi=>⟨HX6.out i hi,by have:=HS6.out;have:=HXL.out i hi;omega⟩
 refine(HA.out _ w7 rb w6.heap.size cb sx dx rx fx ib kb X' g c ra rc HBG.out (by have:=HS6.out;have:=HB6.out.size;omega) HB7.out HB6.out.size (by have:=HS6.out;omega) HT7.out hXl (by have:=HS6.out;have:=HPA6.out.1;omega) HPA7.out).mono ?_
 rintro e w8 ⟨Y,rfl,hk8,hY8,hp8⟩
 have hrl:=(Array.getElem?_eq_some_iff.1 HBG.out.r).1
 have hnr:rb∉Y:=fun e=>by
  rcases hY8 rb e with h | h | h
  ·have:=HBG.out.new.1;have:=HS6.out;omega
  ·have:=HBG.out.new.1;have:=HS6.out;have:=HXL.out _ h;omega
  ·exact h.2 rfl
 have hr8:=(hk8.block rb hrl hnr).trans HBG.out.r
 have hfl:=(Array.getElem?_eq_some_iff.1 HF6.out).1
 have hnf:w.heap.size∉Y:=fun e=>by
  rcases hY8 _ e with h | h | h
  ·omega
  ·have:=HX6.out _ h;omega
  ·have:=HS6.out;omega
 have hf8:=(hk8.block _ (Array.getElem?_eq_some_iff.1 HF7.out).1 hnf).trans HF7.out
 have HB8:=Lib.hid (HB7.out.trans (hk8.to_below HB7.out.size (fun i hi=>by
  have h0:=HB6.out.size;have h1:=HS6.out
  rcases hY8 i hi with h | h | h
  ·omega
  ·have:=HX6.out _ h;omega
  ·omega)))
 have HF8:=Lib.hid hf8
 have HP8:=Lib.hid hp8
 have r80:=zaa (i:=0) hr8 rfl
 have lr8:=(Array.getElem?_eq_some_iff.1 hr8).1
 have z0:=zaa (i:=0) hf8 rfl
 have z1:=zaa (i:=1) hf8 rfl
 have z2:=zaa (i:=2) hf8 rfl
 have fz0:=zad hf8 0
 have fz1:=zad hf8 1
 have fz2:=zad hf8 2
 have l8:=(Array.getElem?_eq_some_iff.1 hf8).1
 clear hk8 hp8 hr8 hf8 HA
 go_wp2_with fail
 have h50:=heap_set (i:=0) HF8.out (.int .i64 0)
 have h51:=heap_set (i:=1) h50 (.string ⟨#[]⟩)
 have h52:=heap_set (i:=2) h51 (.int .i64 0)
 have hz:(Tryz.prog.info? FaT).map (·.size)=some 3:=by kernel_rfl
 have hu:Tryz.prog.underlying FaT=some (.struct (Tryz.prog.fieldsOf FaT)):=by kernel_rfl
 refine bodyPost_ret (Mw.zld Tryz.results11 _ _ w.heap.size FaT _ (0,0) _ (.pointer (some ⟨w6.heap.size,0,none⟩)) rfl rfl h52 hu rfl hz) rfl ?_
 exact⟨w6.heap.size,rfl,((HB8.out.setCell (p:=⟨w.heap.size,0,none⟩) (by simp) (.int .i64 0)).setCell (p:=⟨w.heap.size,1,none⟩) (by simp) (.string ⟨#[]⟩)).setCell (p:=⟨w.heap.size,2,none⟩) (by simp) (.int .i64 0),HB6.out.size,
  HPE.out _ _ _ _ _ ⟨_,h51⟩ (HPE.out _ _ _ _ _ ⟨_,h50⟩ (HPE.out _ _ _ _ _ ⟨_,HF8.out⟩ HP8.out))⟩
end Dq
end Go.Proofs.YtgdpbnfgcabneaaGreatDoor

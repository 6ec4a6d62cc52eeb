/- Part of the proof. -/
import Derived.Test.YtgdpbnfgcabneaaGreatDoorQIBuild
set_option maxRecDepth 100000
set_option maxHeartbeats 40000000
namespace Go.Proofs.YtgdpbnfgcabneaaGreatDoor
namespace Mp
abbrev Bs:=List UInt8
abbrev trim:=Ip.trim
structure P where
 kind:Nat
 line:Nat
 name:Bs
 op:Bs
 value:Bs
 over:Bool
 out:Bool
 targets:Bs
 needs:Bs
 order:Bs
 recipe:List Ip.L
def zero:P:=⟨0,0,[],[],[],false,false,[],[],[],[]⟩
def cut (stops s:Bs):Option Nat:=Wp.cutA stops [] s 0
def has (stops s:Bs):Bool:=(cut stops s).isSome
def opAt (b:Bs) (c:UInt8) (r:Bs):Bs×Bs×Bs :=
 if c=58∧r.head?=some 61 then (b,[58,61],r.tail)
 else if ¬ c=61 then ([],[],[])
 else if b.getLast?=some 63 then (b.dropLast,[63,61],r)
 else if b.getLast?=some 43 then (b.dropLast,[43,61],r)
 else (b,[61],r)
def zio (s:Bs):Bs×Bs×Bs:=match cut [61,58] s with
 | none=>([],[],[])
 | some k=>opAt (s.take k) (s.getD k 0) (s.drop (k+1))
def oddA (n:Bs):Bool:=n.any fun c=>[32,9,10,58,35,61].contains c
def zfl (o:Bs×Bs×Bs):Option P :=
 if o.2.1=[] then none else if trim o.1=[] then none else if oddA (trim o.1)=true then none else some { zero with name:=trim o.1,op:=o.2.1,value:=trim o.2.2 }
def zda (s:Bs):Option P:=zfl (zio s)
def zbh (k:Nat) (s:Bs):Option P:=if has [58,61] s=true then none else some { zero with kind:=k,needs:=trim s }
def zdt (stops s:Bs):Bs×Bs:=match cut stops s with
 | none=>(s,[])
 | some k=>(s.take k,s.drop (k+1))
def recA (n:Nat) (t:Bs):List Ip.L:=if t=[] then [] else [⟨n,t,true⟩]
def zvc (n:Nat) (t b:Bs):Option P :=
 if has [61] (zdt [59] b).1=true then none else
 some { zero with kind:=1,targets:=t,needs:=trim (zdt [124] (zdt [59] b).1).1,order:=trim (zdt [124] (zdt [59] b).1).2,recipe:=recA n (trim (zdt [59] b).2) }
def zie (n:Nat) (s:Bs):Option P:=match cut [58] s with
 | none=>none
 | some k=>if trim (s.take k)=[] then none else if (s.drop (k+1)).head?=some 58 then none else zvc n (trim (s.take k)) (s.drop (k+1))
def zcd (s:Bs):Bs×Bs:=zdt [32,9] s
def oOver:Bs:=[111,118,101,114,114,105,100,101]
def zot:Bs:=[101,120,112,111,114,116]
def zkf:Bs:=[117,110,101,120,112,111,114,116]
def zbl (n:Nat) (s:Bs):Option P :=
 if (zcd s).1=oOver then (zda (zcd s).2).map (fun p:P=>{ p with over:=true })
 else if (zcd s).1=zot then (match zda (zcd s).2 with
  | some p=>some { p with out:=true }
  | none=>zbh 2 (zcd s).2)
 else if (zcd s).1=zkf then zbh 3 (zcd s).2
 else zie n s
def oneA (n:Nat) (s:Bs):Option P:=match zda s with
 | some p=>some p
 | none=>zbl n s
def zja (n:Nat) (s:Bs):Option P:=(oneA n s).map (fun p:P=>{ p with line:=n })
def addA (l:List P) (x:Ip.L):Option (List P) :=
 if x.q=true then (match l.getLast? with
  | some p=>if p.kind=1 then some (l.dropLast++[{ p with recipe:=p.recipe++[x] }]) else none
  | none=>none)
 else (zja x.n x.t).map fun p=>l++[p]
def goA:List P→List Ip.L→Except Nat (List P)
 | l,[]=>.ok l
 | l,x :: r=>match addA l x with
  | none=>.error x.n
  | some l=>goA l r
def zkg (s:Bs):Except Nat (List P):=goA [] (Ip.zci s)
theorem ztp:∀ {stops op t:Bs} {k i:Nat},Wp.cutA stops op t k=some i→stops.contains (t.getD (i - k) 0)=true
 | stops,op,[],k,i,h=>by rw[Wp.zmc] at h;cases h
 | stops,op,c :: r,k,i,h=>by
  by_cases hh:op=[]∧stops.contains c=true
  ·obtain⟨rfl,hc⟩:=hh
   rw[Wp.zgi hc] at h
   obtain rfl:=Option.some.inj h
   simpa using hc
  ·rw[Wp.zfc hh] at h
   have h1:=ztp h
   have h2:=Wp.zvj h
   rw[show i - k=(i - (k+1))+1 by omega,List.getD_cons_succ]
   exact h1
theorem cut_hits {stops t:Bs} {i:Nat} (h:cut stops t=some i):t.getD i 0∈stops:=by
 have:=ztp h
 rw[Nat.sub_zero] at this
 simpa using this
theorem zcz (s:Bs):(trim s).length≤s.length:=Ip.zcz s
theorem cut_lt {stops s:Bs} {k:Nat} (h:cut stops s=some k):k<s.length:=by
 have:=(Wp.zvj h).2;omega
theorem zqm (stops s:Bs):(zdt stops s).1.length≤s.length∧(zdt stops s).2.length≤s.length:=by
 unfold zdt
 split
 ·simp
 ·rename_i k _
  show (s.take k).length≤_∧(s.drop (k+1)).length≤_
  rw[List.length_take,List.length_drop];omega
theorem zdj {l m:List P} {x:Ip.L} (h:addA l x=some m):m.length≤l.length+1∧l.length≤m.length:=by
 unfold addA at h
 split at h
 ·split at h
  ·rename_i p hp
   split at h
   ·obtain rfl:=Option.some.inj h
    have h0:l≠[]:=fun e=>by rw[e] at hp;cases hp
    have:=List.length_pos_iff.2 h0
    simp;omega
   ·cases h
  ·cases h
 ·rw[Option.map_eq_some_iff] at h
  obtain⟨p,_,rfl⟩:=h
  simp
theorem opAt_len (b r:Bs) (c:UInt8):(opAt b c r).1.length≤b.length∧(opAt b c r).2.1.length≤2∧(opAt b c r).2.2.length≤r.length:=by
 unfold opAt
 split
 ·simp
 ·split
  ·simp
  ·split
   ·simp
   ·split<;>simp
theorem oper_len (s:Bs):(zio s).1.length≤s.length∧(zio s).2.1.length≤2∧(zio s).2.2.length≤s.length:=by
 unfold zio
 split
 ·simp
 ·rename_i k _
  obtain⟨h1,h2,h3⟩:=opAt_len (s.take k) (s.drop (k+1)) (s.getD k 0)
  rw[List.length_take] at h1
  rw[List.length_drop] at h3
  exact⟨by omega,h2,by omega⟩
def Letter (c:UInt8):Prop:=(97≤c.toNat∧c.toNat≤122)∨(65≤c.toNat∧c.toNat≤90)∨(48≤c.toNat∧c.toNat≤57)
def Val (c:UInt8):Prop:=Letter c∨c=36∨c=40∨c=41∨c=44
theorem zjf {stops:Bs}:∀ {a r:Bs} {k:Nat},(∀ c∈a,stops.contains c=false∧c≠40∧c≠123)→Wp.cutA stops [] (a++r) k=Wp.cutA stops [] r (k+a.length)
 | [],r,k,_=>rfl
 | c :: a,r,k,h=>by
  obtain⟨h1,h2,h3⟩:=h c (by simp)
  rw[List.cons_append,Wp.zfc (fun e=>by rw[h1] at e;cases e.2),Wp.zds h2 h3 (fun d e=>by cases e),zjf (fun c hc=>h c (by simp[hc])),List.length_cons]
  congr 1;omega
theorem cut_at {stops a r:Bs} {c:UInt8} (h:∀ c∈a,stops.contains c=false∧c≠40∧c≠123) (hc:stops.contains c=true):cut stops (a++c :: r)=some a.length:=by
 unfold cut
 rw[zjf h,Wp.zgi hc,Nat.zero_add]
theorem linesA_one {s:Bs} (h10:10∉s) (h35:35∉s) (h9:s.head?≠some 9) (h0:trim s≠[]):Ip.zci s=[⟨1,trim s,false⟩]:=by
 unfold Ip.zci
 rw[Ip.zkj h10]
 have ht:Ip.tab (([s]:List Bs).headD [])=false:=by
  show (s.head? == some 9)=false
  rw[beq_eq_false_iff_ne];exact h9
 rw[ht,Ip.zem (by rfl)]
 have h1:Ip.addA [] (Ip.trim s)=Ip.trim s:=by
  unfold Ip.addA
  rw[if_neg h0,if_pos rfl]
 rw[h1]
 have hb:Ip.zay [] (Ip.trim s)=Ip.trim s:=by
  rw[Ip.zjr (b:=Ip.trim s) (fun h=>h35 (Ip.trim_sub h)),List.nil_append]
 have htt:Ip.trim (Ip.trim s)=Ip.trim s:=by
  have hf:=Ip.trim_fine h10
  unfold Ip.trim Lib.trimS
  have hR:Lib.trimRightS (Ip.trim s) [32,9,10]=Ip.trim s:=by
   unfold Lib.trimRightS
   rw[Ip.zkq,List.reverse_reverse]
   intro c hc
   rw[List.head?_reverse] at hc
   exact Ip.zso hc
  show Lib.trimLeftS (Lib.trimRightS (Ip.trim s) [32,9,10]) [32,9,10]=Ip.trim s
  rw[hR]
  exact Ip.zkq fun c hc=>Ip.zuf hc
 have he:Ip.zkb false (Ip.trim s)=Ip.trim s:=by
  show Ip.trim (Ip.zay [] (Ip.trim s))=_
  rw[hb,htt]
 unfold Ip.emit
 rw[he,if_neg h0]
 rfl
theorem trim_id {s:Bs} (h1:∀ c,s.head?=some c→([32,9,10]:Bs).contains c=false) (h2:∀ c,s.getLast?=some c→([32,9,10]:Bs).contains c=false):trim s=s:=by
 have hR:Lib.trimRightS s [32,9,10]=s:=by
  unfold Lib.trimRightS
  rw[Ip.zkq,List.reverse_reverse]
  intro c hc
  rw[List.head?_reverse] at hc
  exact h2 c hc
 show Lib.trimLeftS (Lib.trimRightS s [32,9,10]) [32,9,10]=s
 rw[hR]
 exact Ip.zkq h1
theorem trim_sp {s:Bs}:trim (s++[32])=trim s:=by
 have:Lib.trimRightS (s++[32]) [32,9,10]=Lib.trimRightS s [32,9,10]:=by
  unfold Lib.trimRightS
  rw[List.reverse_append]
  rfl
 show Lib.trimLeftS (Lib.trimRightS (s++[32]) [32,9,10]) [32,9,10]=_
 rw[this];rfl
theorem trim_lsp {s:Bs} (h:∀ c,s.getLast?=some c→([32,9,10]:Bs).contains c=false) (h1:∀ c,s.head?=some c→([32,9,10]:Bs).contains c=false):trim (32 :: s)=s:=by
 cases s with
 | nil=>rfl
 | cons x s =>
  have hR:Lib.trimRightS (32 :: x :: s) [32,9,10]=32 :: x :: s:=by
   unfold Lib.trimRightS
   rw[Ip.zkq,List.reverse_reverse]
   intro c hc
   rw[List.head?_reverse,List.getLast?_cons_cons] at hc
   exact h c hc
  show Lib.trimLeftS (Lib.trimRightS (32 :: x :: s) [32,9,10]) [32,9,10]=_
  rw[hR]
  show (32 :: x :: s).dropWhile _=_
  rw[List.dropWhile_cons,if_pos (by rfl)]
  exact Ip.zkq h1
def marks:List Bs:=[[61],[58,61],[63,61],[43,61]]
def tailT (v:Bs):Bs:=if v=[] then [] else 32 :: v
theorem mark_ways {o:Bs} (h:o∈marks):o=[61]∨o=[58,61]∨o=[63,61]∨o=[43,61]:=by simpa[marks] using h
theorem oper_line {q o v:Bs} (ho:o∈marks) (hq:∀ c∈q,([61,58]:Bs).contains c=false∧c≠40∧c≠123) :
  zio (q++32 :: o++v)=(q++[32],o,v):=by
 have hq2:∀ c∈q++[32],([61,58]:Bs).contains c=false∧c≠40∧c≠123:=fun c hc=>by
  rcases List.mem_append.1 hc with hc | hc
  ·exact hq c hc
  ·rw[List.mem_singleton.1 hc];decide
 have hm:∀ d:UInt8,([61,58]:Bs).contains d=false∧d≠40∧d≠123→∀ c∈q++[32,d],([61,58]:Bs).contains c=false∧c≠40∧c≠123:=fun d hd c hc=>by
  rcases List.mem_append.1 hc with hc | hc
  ·exact hq c hc
  ·rcases List.mem_cons.1 hc with rfl | hc
   ·decide
   ·rw[List.mem_singleton.1 hc];exact hd
 have put:∀ (b r:Bs) (c:UInt8),cut [61,58] (b++c :: r)=some b.length→zio (b++c :: r)=opAt b c r:=fun b r c h=>by
  unfold zio
  rw[h]
  show opAt ((b++c :: r).take b.length) ((b++c :: r).getD b.length 0) ((b++c :: r).drop (b.length+1))=_
  simp
 rcases mark_ways ho with rfl | rfl | rfl | rfl
 ·rw[show q++32 :: [61]++v=(q++[32])++61 :: v by simp,put _ _ _ (cut_at hq2 rfl)]
  unfold opAt
  simp
 ·rw[show q++32 :: [58,61]++v=(q++[32])++58 :: 61 :: v by simp,put _ _ _ (cut_at hq2 rfl)]
  unfold opAt
  simp
 ·rw[show q++32 :: [63,61]++v=(q++[32,63])++61 :: v by simp,put _ _ _ (cut_at (hm 63 (by decide)) rfl)]
  unfold opAt
  simp[List.dropLast_append_of_ne_nil]
 ·rw[show q++32 :: [43,61]++v=(q++[32,43])++61 :: v by simp,put _ _ _ (cut_at (hm 43 (by decide)) rfl)]
  unfold opAt
  simp[List.dropLast_append_of_ne_nil]
def partT (n o v:Bs):P:={ zero with name:=n,op:=o,value:=v }
theorem one_yes {n:Nat} {s:Bs} {p:P} (h:zda s=some p):oneA n s=some p:=by unfold oneA;rw[h]
theorem parts_one {s:Bs} {p:P} (hl:Ip.zci s=[⟨1,trim s,false⟩]) (hp:oneA 1 (trim s)=some p):zkg s=.ok [{ p with line:=1 }]:=by
 unfold zkg
 rw[hl]
 have ha:addA [] ⟨1,trim s,false⟩=some [{ p with line:=1 }]:=by
  unfold addA
  rw[if_neg (by exact Bool.false_ne_true)]
  show (zja 1 (trim s)).map _=_
  unfold zja
  rw[hp];rfl
 unfold goA
 rw[ha]
 rfl
section
variable {n o v:Bs} (ho:o∈marks) (hn0:n≠[]) (hn:∀ c∈n,Letter c) (hv:∀ c∈v,Val c)
include ho hn0 hn hv
end
def zdy (v:Bs):Bs:=[88]++32 :: [58,61]++32 :: v
theorem wild_parts {v:Bs} (h0:v.head?=some 36) (h1:v.getLast?=some 41) (h10:(10:UInt8)∉v) (h35:(35:UInt8)∉v):zkg (zdy v)=.ok [⟨0,1,[88],[58,61],v,false,false,[],[],[],[]⟩]:=by
 have hv0:v≠[]:=fun e=>by rw[e] at h0;cases h0
 have hl:∀ c,v.getLast?=some c→([32,9,10]:Bs).contains c=false:=fun c hc=>by rw[h1] at hc;cases hc;decide
 have hh:∀ c,v.head?=some c→([32,9,10]:Bs).contains c=false:=fun c hc=>by rw[h0] at hc;cases hc;decide
 have ht:trim (zdy v)=zdy v:=trim_id (fun c hc=>by
   obtain rfl:(88:UInt8)=c:=by simpa[zdy] using hc
   decide) (fun c hc=>hl c (by
   unfold zdy at hc
   rw[List.getLast?_append,List.getLast?_cons] at hc
   rw[h1] at hc ⊢
   simpa using hc))
 have hlines:Ip.zci (zdy v)=[⟨1,trim (zdy v),false⟩]:=by
  refine linesA_one (by simp[zdy,h10]) (by simp[zdy,h35]) (by simp[zdy]) (by rw[ht];simp[zdy])
 have hop:zio (zdy v)=([88]++[32],[58,61],tailT v):=by
  have:=oper_line (q:=[88]) (o:=[58,61]) (v:=tailT v) (by simp[marks]) (by decide)
  rwa[show [88]++32 :: [58,61]++tailT v=zdy v from by unfold tailT zdy;rw[if_neg hv0]] at this
 refine parts_one (p:=partT [88] [58,61] v) hlines ?_
 rw[ht]
 refine one_yes ?_
 unfold zda
 rw[hop]
 have htv:trim (tailT v)=v:=by
  unfold tailT
  rw[if_neg hv0]
  exact trim_lsp hl hh
 have htn:trim ([88]++[32])=[88]:=by rw[trim_sp];rfl
 unfold zfl
 show (if ([58,61]:Bs)=[] then none else if trim ([88]++[32])=[] then none else if oddA (trim ([88]++[32]))=true then none else some { zero with name:=trim ([88]++[32]),op:=[58,61],value:=trim (tailT v) })=_
 rw[if_neg (by simp),htn,if_neg (by simp),if_neg (by decide),htv]
 rfl
end Mp
end Go.Proofs.YtgdpbnfgcabneaaGreatDoor

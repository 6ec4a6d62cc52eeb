/- Part of the proof. -/
import Derived.Test.YtgdpbnfgcabneaaGreatDoorQTBase
import Derived.Test.YtgdpbnfgcabneaaGreatDoorShelf
set_option maxRecDepth 100000
set_option maxHeartbeats 40000000
namespace Go.Proofs.YtgdpbnfgcabneaaGreatDoor
namespace Tw
open Go.RowKit Ww
theorem zct (c:UInt8):∀ l:Bs,(c∉l∧Lib.indexByte l c=-1)∨∃ a b,l=a++c :: b∧c∉a∧Lib.indexByte l c=a.length
 | []=>.inl ⟨by simp,rfl⟩
 | x :: l=>by
  unfold Lib.indexByte
  by_cases hx:x=c
  ·subst hx
   exact .inr ⟨[],l,rfl,by simp,by simp⟩
  ·have hx':(x == c)=false:=beq_eq_false_iff_ne.2 hx
   rw[hx']
   rcases zct c l with ⟨h1,h2⟩ | ⟨a,b,h1,h2,h3⟩
   ·exact .inl ⟨by simp[h1,Ne.symm hx],by rw[h2];rfl⟩
   ·refine .inr ⟨x :: a,b,by rw[h1];rfl,by simp[h2,Ne.symm hx],?_⟩
    rw[h3]
    have:((a.length:Int) == -1)=false:=by rw[beq_eq_false_iff_ne];omega
    simp[this]
theorem zmd {c:UInt8} {l:Bs} (h:c∉l):Lib.indexByte l c=-1:=by
 rcases zct c l with ⟨_,h2⟩ | ⟨a,b,rfl,_,_⟩
 ·exact h2
 ·exact absurd (by simp) h
theorem znb {c:UInt8}:∀ {a a' b b':Bs},a++c :: b=a'++c :: b'→c∉a→c∉a'→a=a'∧b=b'
 | [],[],_,_,h,_,_=>⟨rfl,(List.cons.inj h).2⟩
 | [],x :: _,_,_,h,_,h2=>absurd (by rw[(List.cons.inj h).1];simp) h2
 | x :: _,[],_,_,h,h1,_=>absurd (by rw[←(List.cons.inj h).1];simp) h1
 | x :: a,y :: a',_,_,h,h1,h2=>by
  have hh:=List.cons.inj h
  have h3:=znb (a:=a) (a':=a') hh.2 (fun e=>h1 (List.mem_cons_of_mem _ e)) (fun e=>h2 (List.mem_cons_of_mem _ e))
  exact⟨by rw[hh.1,h3.1],h3.2⟩
theorem zms {c:UInt8} {a b:Bs} (h:c∉a):Lib.indexByte (a++c :: b) c=a.length:=by
 rcases zct c (a++c :: b) with ⟨h2,_⟩ | ⟨a',b',h1,h2,h3⟩
 ·exact absurd (by simp) h2
 ·rw[h3,(znb h1 h h2).1]
theorem zse (w:World) (s:ByteArray) (c:UInt8) (h:c∉by8 s):Calls Tryz.prog 276 #[.string s,.string ⟨#[c]⟩] w fun e w'=>e=.returned (.int .i64 (-1))∧w=w' :=
 (Tryz.stringslite_Index_one s c w).mono fun _ _ ⟨he,hw⟩=>⟨by rw[he,show Lib.indexByte s.data.toList c=-1 from zmd h],hw.symm⟩
theorem znv (w:World) (s:ByteArray) (c:UInt8) (k:Nat) (b:Bs) (hk:k≤s.size) (he:by8 s=(by8 s).take k++c :: b) (h:c∉(by8 s).take k):Calls Tryz.prog 276 #[.string s,.string ⟨#[c]⟩] w fun e w'=>e=.returned (.int .i64 k)∧w=w' :=
 (Tryz.stringslite_Index_one s c w).mono fun _ _ ⟨hr,hw⟩=>⟨by
  have:Lib.indexByte (by8 s) c=k:=by
   rw[he,zms h,List.length_take,zab,Nat.min_eq_left hk]
  rw[hr];exact congrArg (fun i=>Ending.returned (.int .i64 i)) this,hw.symm⟩
theorem zrg (w:World) (s:ByteArray) (c:UInt8) (h:c∉by8 s) :
  Calls Tryz.prog 212 #[.string s,.string ⟨#[c]⟩] w fun e w'=>e=.returned (.tuple #[.string s,.string ByteArray.empty,.bool false])∧Below w.heap.size w w':=by
 have HC:=Lib.hid (zse w s c h)
 clear h
 go_enter Tryz.func212,Tryz.ntmps212
 go_wp2_with fail
 refine HC.out.mono ?_
 rintro e w1 ⟨rfl,rfl⟩
 go_wp2_with fail
 go_ret3
 exact⟨rfl,Below.refl _ _⟩
theorem zog (w:World) (s:ByteArray) (hs:s.size≤1000000) (c:UInt8) (k:Nat) (b:Bs) (hk:k+1≤s.size) (he:by8 s=(by8 s).take k++c :: b) (h:c∉(by8 s).take k) :
  Calls Tryz.prog 212 #[.string s,.string ⟨#[c]⟩] w fun e w'=>e=.returned (.tuple #[.string (s.extract 0 k),.string (s.extract (k+1) s.size),.bool true])∧Below w.heap.size w w':=by
 have HC:=Lib.hid (znv w s c k b (by omega) he h)
 have hwr:IntKind.i64.wrap ((k:Int)+1)=(k:Int)+1:=by rw[IntWalk.i64_in _ (by omega)]
 have ho0:(0:Int)≤(k:Int):=Int.natCast_nonneg _
 have hoi:(k:Int)<(s.size:Int):=by omega
 have ho1:(0:Int)≤(k:Int)+1:=by omega
 have ho2:(k:Int)+1≤(s.size:Int):=by omega
 have ho3:((k:Int)+1).toNat=k+1:=by omega
 clear h he hk
 go_enter Tryz.func212,Tryz.ntmps212
 go_wp2_with fail
 refine HC.out.mono ?_
 rintro e w1 ⟨rfl,rfl⟩
 go_wp2_with fail
 go_quiet (fail)
 go_wp2
 go_ret3
 exact⟨rfl,below_drewN (Below.refl _ _) _⟩
theorem zqb (w:World) (s:ByteArray) (c:UInt8) (h:c∉by8 s) :
  Calls Tryz.prog 126 #[.string s,.string ⟨#[c]⟩] w fun e w'=>e=.returned (.tuple #[.string s,.string ByteArray.empty,.bool false])∧Below w.heap.size w w':=by
 have HC:=Lib.hid (zrg w s c h)
 clear h
 go_enter Tryz.func126,Tryz.ntmps126
 go_wp2_with fail
 refine HC.out.mono ?_
 rintro e w1 ⟨rfl,hB⟩
 go_wp2_with fail
 go_ret3
 exact⟨rfl,hB⟩
theorem zmw (w:World) (s:ByteArray) (hs:s.size≤1000000) (c:UInt8) (a b:Bs) (he:by8 s=a++c :: b) (h:c∉a) :
  Calls Tryz.prog 126 #[.string s,.string ⟨#[c]⟩] w fun e w'=>e=.returned (.tuple #[.string (str a),.string (str b),.bool true])∧Below w.heap.size w w':=by
 have hl:a.length+b.length+1=s.size:=by rw[←zab,he];simp;omega
 have hta:(by8 s).take a.length=a:=by rw[he];simp
 have htb:(by8 s).drop (a.length+1)=b:=by rw[he];simp
 have e1:s.extract 0 a.length=str a:=zar (by rw[zgo,hta];rfl)
 have e2:s.extract (a.length+1) s.size=str b:=zar (by rw[zbs,htb];rfl)
 have HC0:=zog w s hs c a.length b (by omega) (by rw[hta,←he]) (by rw[hta];exact h)
 rw[e1,e2] at HC0
 have HC:=Lib.hid HC0
 clear h he hl hta htb e1 e2 HC0 hs
 go_enter Tryz.func126,Tryz.ntmps126
 go_wp2_with fail
 refine HC.out.mono ?_
 rintro e w1 ⟨rfl,hB⟩
 go_wp2_with fail
 go_ret3
 exact⟨rfl,hB⟩
abbrev PA:TypeId:=322
def zeroP:Array Value:=#[.string ⟨#[]⟩,.bool false,.string ⟨#[]⟩,.string ⟨#[]⟩]
def patOf (p:ByteArray):Option Nat→Array Value
 | none=>#[.string p,.bool false,.string p,.string ⟨#[]⟩]
 | some i=>#[.string p,.bool true,.string (str ((by8 p).take i)),.string (str ((by8 p).drop (i+1)))]
def patC (p:ByteArray):Array Value:=patOf p (Tp.atA (by8 p))
def patV (p:ByteArray):Value:=.agg (patC p)
theorem sizeA:(Tryz.prog.info? PA).map (·.size)=some 4:=by kernel_rfl
theorem undA:Tryz.prog.underlying PA=some (.struct (Tryz.prog.fieldsOf PA)):=by kernel_rfl
theorem zgj {P:Program} {fn:Func} {p:Tmp} {ty:TypeId} (h:fn.results=#[.cell p ty]) (tmps:Array Value) (w:World) (g:Nat) (t:TypeId) (cs:Array Value) (fr:Nat×Nat) (d:TypeDesc)
  (hp:tmps.getD p undef=.pointer (some ⟨g,0,none⟩)) (hg:w.heap[g]?=some (.cells cs t fr))
  (hu:P.underlying ty=some d) (hd:(match d with | .struct _ | .array _ _=>true | _=>false)=true) (hi:(P.info? ty).map (·.size)=some cs.size) :
  (results fn tmps).run P w=.ok (.agg cs) w:=by
 have hp':tmps[p]?.getD undef=.pointer (some ⟨g,0,none⟩):=by simpa using hp
 simp[results,h,hp',asAddr,run_loadVar_row w g t ty cs fr d hg hu hd hi]
theorem heap_alloc_last (w:World) (o:Obj):(w.alloc o).heap[w.heap.size]?=some o:=Array.getElem?_push_size
theorem cut_in (w:World) (p a b:ByteArray) (q:Bool) (HC:∀ W,Calls Tryz.prog 126 #[.string p,.string ⟨#[37]⟩] W fun e w'=>e=.returned (.tuple #[.string a,.string b,.bool q])∧Below W.heap.size W w'):Calls Tryz.prog 216 #[.string p] w fun e w'=>e=.returned (.agg #[.string p,.bool q,.string a,.string b])∧Below w.heap.size w w':=by
 have HC:=Lib.hid HC
 go_enter Tryz.func216,Tryz.ntmps216
 go_wp2_with fail
 refine(HC.out _).mono ?_
 rintro e w1 ⟨rfl,B1⟩
 have HB:=Lib.hid (((Below.refl w.heap.size w).alloc (Nat.le_refl _) (.cells zeroP PA)).trans (B1.mono (by simp)))
 have H1:=Lib.hid ((B1.block w.heap.size (by simp)).trans (heap_alloc_last w (.cells zeroP PA)))
 clear B1
 go_wp2_with (refine wpList_store_row rfl PA _ _ rfl w.heap.size #[.string p,.bool q,.string a,.string b] rfl rfl PA zeroP H1.out sizeA rfl (by simp[Value.oneCell']) ?_)
 (try simp only [Exit.inBlock,Exit.then])
 refine bodyPost_ret (zgj Tryz.results216 _ _ w.heap.size PA #[.string p,.bool q,.string a,.string b] (0,0) _ rfl (setRow_heap _ _ _ _ _ _ H1.out) undA rfl sizeA) rfl ?_
 exact⟨rfl,below_setRow HB.out (Nat.le_refl _) _⟩
theorem zro (w:World) (p:ByteArray) (hs:p.size≤1000000):Calls Tryz.prog 216 #[.string p] w fun e w'=>e=.returned (patV p)∧Below w.heap.size w w':=by
 cases h:Tp.atA (by8 p) with
 | none =>
  refine(cut_in w p p ⟨#[]⟩ false fun W=>zqb W p 37 (Tp.zsd h)).mono ?_
  rintro e w' ⟨rfl,hB⟩
  exact⟨by unfold patV patC;rw[h];rfl,hB⟩
 | some i =>
  refine(cut_in w p _ _ true fun W=>zmw W p hs 37 _ _ (Tp.at_split h).1 (Tp.at_split h).2).mono ?_
  rintro e w' ⟨rfl,hB⟩
  exact⟨by unfold patV patC;rw[h];rfl,hB⟩
theorem field_has (a b c d:Value) (w:World):(Instr.field PA (.agg #[a,b,c,d]) 1).run Tryz.prog w=.ok b w:=by kernel_rfl
theorem zqh (w:World) (p:ByteArray) (hs:p.size≤1000000):Calls Tryz.prog 250 #[.string p] w fun e w'=>e=.returned (.bool (Tp.atA (by8 p)).isSome)∧Below w.heap.size w w':=by
 have HC:=Lib.hid fun W=>zro W p hs
 obtain⟨q,hq⟩:∃ q,(Tp.atA (by8 p)).isSome=q:=⟨_,rfl⟩
 obtain⟨a,b,hp⟩:∃ a b,patV p=.agg #[.string p,.bool q,.string a,.string b]:=by
  cases h:Tp.atA (by8 p) with
  | none=>rw[h] at hq;exact⟨_,_,by unfold patV patC;rw[h,←hq];rfl⟩
  | some i=>rw[h] at hq;exact⟨_,_,by unfold patV patC;rw[h,←hq];rfl⟩
 rw[hq]
 rw[hp] at HC
 clear hp hq
 have hf:=fun W=>field_has (.string p) (.bool q) (.string a) (.string b) W
 go_enter Tryz.func250,Tryz.ntmps250
 go_wp2_with fail
 refine(HC.out _).mono ?_
 rintro e w1 ⟨rfl,B1⟩
 go_wp2_with fail
 go_ret
 exact⟨rfl,B1⟩
end Tw
end Go.Proofs.YtgdpbnfgcabneaaGreatDoor

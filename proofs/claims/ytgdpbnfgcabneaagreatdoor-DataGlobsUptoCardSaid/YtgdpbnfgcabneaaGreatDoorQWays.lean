/- Part of the proof. -/
import Derived.Laws.CopyOwn
import Derived.Test.YtgdpbnfgcabneaaGreatDoorQRefDirs
import Derived.Deep.AppendLies
import Derived.Deep.RegionHeld3
set_option maxRecDepth 100000
set_option maxHeartbeats 40000000
namespace Go.Proofs.YtgdpbnfgcabneaaGreatDoor
section
open Go.RowKit
theorem mul_any (m:Nat) (hm:m≤1000000) (w:World) :
  Calls Tryz.prog 206 #[.int .u64 1,.int .u64 m] w fun e w'=>e=.returned (.tuple #[.int .u64 0,.int .u64 m])∧w=w':=by
 have h:=Tryz.bits_Mul 1 m (by omega) (by omega) w
 have e1:1 * m / 18446744073709551616=0:=by omega
 have e2:1 * m % 18446744073709551616=m:=by omega
 rw[e1,e2] at h
 exact h.mono fun e w' ⟨a,b⟩=>⟨a,b.symm⟩
def filled (d:ByteArray) (m k:Nat):List Value:=List.replicate k (.string d)++List.replicate (m - k) (.string ByteArray.empty)
theorem zps (d:ByteArray) {m k:Nat} (h:k≤m):(filled d m k).length=m:=by simp[filled];omega
theorem zjx (d:ByteArray) (m k j:Nat):splice (filled d m k) k (List.replicate j (.string d))=filled d m (k+j):=by
 unfold splice filled
 have e1:(List.replicate k (Value.string d)++List.replicate (m - k) (Value.string ByteArray.empty)).take k=List.replicate k (Value.string d):=by
  rw[List.take_left' (by simp)]
 have e2:(List.replicate k (Value.string d)++List.replicate (m - k) (Value.string ByteArray.empty)).drop (k+j)=List.replicate (m - (k+j)) (Value.string ByteArray.empty):=by
  rw[List.drop_append,List.drop_of_length_le (by simp)]
  simp
  omega
 rw[List.length_replicate,e1,e2,←List.append_assoc,List.replicate_append_replicate]
theorem zwo (d:ByteArray) (m:Nat):(madeCells (Value.string ByteArray.empty).cells (m * 1)).toList=filled d m 0:=by
 rw[show (Value.string ByteArray.empty).cells=#[.string ByteArray.empty] from rfl]
 have:=Lib.cellsOf_nil (m * 1)
 rw[←this]
 simp[Lib.cellsOf,filled]
theorem owns_whole {w:World} {base e n g:Nat} {xs:List Value} (h:w.ownsRow base e 1 (.slice (some ⟨g,0,none⟩) n n) n xs):w.heap[g]?=some (.cells xs.toArray e (0,0)):=by
 rcases h.2 with ⟨h0,_⟩ | ⟨g',c',cur,hv,_,hg,_,_,hs,ht⟩
 ·cases h0
 ·cases hv
  rw[hg,←ht,List.take_of_length_le (by simp[hs])]
theorem zwl {w:World} {base g m:Nat} {d:ByteArray} (h:w.heap[g]?=some (.cells (filled d m m).toArray 9 (0,0))) (hb:base≤g) (hm:m≤maxLen):w.ownsRow base 9 1 (.slice (some ⟨g,0,none⟩) m m) m (strC (List.replicate m d)):=by
 have e:filled d m m=strC (List.replicate m d):=by simp[filled,strC]
 rw[e] at h
 exact⟨by simp[strC],.inr ⟨g,m,_,rfl,hb,h,Nat.le_refl _,hm,by simp[strC],by simp[strC]⟩⟩
theorem zvw {w:World} {g m k:Nat} {d:ByteArray} (h:w.heap[g]?=some (.cells (filled d m k).toArray 9 (0,0))) (j n:Nat) (v:Value) (hn:n≤k) (hv:(List.replicate n (Value.string d))[j]?=some v):w.cell? ((⟨g,0,none⟩:Addr).add j)=some v:=by
 have hj:j<n:=by
  have:=(List.getElem?_eq_some_iff.1 hv).1
  simpa using this
 rw[List.getElem?_replicate,if_pos hj] at hv
 rw[Addr.add_lit,Nat.zero_add]
 unfold World.cell?
 simp only [h]
 rw[←hv]
 simp[filled,List.getElem?_append,show j<k by omega]
def Lie (w:World) (g:Nat) (cs:List Value):Prop:=∀ i v,cs[i]?=some v→w.cell? ((⟨g,0,none⟩:Addr).add i)=some v
theorem Repeat_any (w:World) (g0 o0 c0 m:Nat) (d:ByteArray) (hlt:g0<w.heap.size) (hc:w.cell? ⟨g0,o0,none⟩=some (.string d)) (hm:m≤1000000) :
  Calls Tryz.prog 123 #[.slice (some ⟨g0,o0,none⟩) 1 c0,.int .i64 m] w fun e w'=>∃ g,e=.returned (.slice (some ⟨g,0,none⟩) m m) ∧
   w'.ownsRow w.heap.size 9 1 (.slice (some ⟨g,0,none⟩) m m) m (strC (List.replicate m d))∧Below w.heap.size w w':=by
 obtain⟨i0,hi,hz0,hz1,hz2⟩:=info_parts zjk
 have hsz:(Tryz.prog.info? 9).map (·.size)=some 1:=by rw[hi];simp[hz1]
 have HC:=Lib.hid hc
 clear hc
 obtain⟨k1,hk,hk1,hk2⟩:∃ k1,Hid (Nat.min 1 m=k1)∧k1≤m∧(k1=0→m=0):=⟨Nat.min 1 m,Lib.hid rfl,Nat.min_le_right _ _,fun h=>by have e:min 1 m=0:=h;omega⟩
 have hk3:k1≤1:=by rw[←hk.out];exact Nat.min_le_left _ _
 have HK:=Lib.hid hk2
 clear hk2
 go_enter Tryz.func123,Tryz.ntmps123
 go_wp2_with (first
  | (go_at_call 206;refine(mul_any m hm _).mono ?_;rintro e w' ⟨rfl,rfl⟩)
  | (at_make;refine wpList_make_full _ rfl _ _ 27 rfl w.heap.size 9 i0 (.string ByteArray.empty) 1 Tryz.underlying27 hi hz0 hz1 .i64 .i64 m m m rfl rfl rfl rfl (by rw[hz2];omega) (by unfold maxLen;omega) (Nat.le_refl _) ?_;intro w1 hown hgrow;rw[zwo d m] at hown;have hg1:=Lib.hid (owns_whole hown);have hB1:=(Below.refl w.heap.size w).grown hgrow (Nat.le_refl _) (fun k e=>by cases e);clear hown hgrow)
  | (with_reducible refine wpList_copy_splice rfl (.tmp 31) (.tmp 32) 27 27 rfl 9 Tryz.underlying27 hsz (some ⟨w.heap.size,0,none⟩) (some ⟨g0,o0,none⟩) m m 1 c0 rfl rfl w.heap.size 0 (filled d m 0) 9 hg1.out (List.replicate k1 (.string d)) ?_ ?_ ?_ ?_ w.heap.size w hB1 (Nat.le_refl _) ?_))
 ·rw[List.length_replicate];exact hk.out.symm
 ·intro hpos j v hv
  have hj:j<k1:=by
   have:=(List.getElem?_eq_some_iff.1 hv).1
   simpa using this
  obtain rfl:j=0:=by omega
  rw[List.getElem?_replicate,if_pos hj] at hv
  rw[←hv]
  exact(hB1.cell (p:=⟨g0,o0+0,none⟩) hlt).trans HC.out
 ·rw[zps d (Nat.zero_le m),List.length_replicate];omega
 ·intro v hv
  rw[List.eq_of_mem_replicate hv]
  rfl
 ·intro w2 hg2 hB2
  have hg3:Hid (w2.heap[w.heap.size]?=some (.cells (filled d m k1).toArray 9 (0,0))):=Lib.hid (by
   have:=hg2.out
   rwa[zjx d m 0 k1,Nat.zero_add] at this)
  clear hg1 hg2 hB1
  go_wp2
  go_loopw [8] (fun i wr=>∃ k:Nat,i=.int .i64 k∧k≤m∧(k=0→m=0)∧wr.heap[w.heap.size]?=some (.cells (filled d m k).toArray 9 (0,0))∧Below w.heap.size w wr) (fun i _=>m - (intOf i).toNat)
  case atStart=>exact⟨k1,by simp,hk1,HK.out,hg3.out,hB2⟩
  case round =>
   obtain⟨k,rfl,hkm,hk0,hg,hB⟩:=hrel
   have HG:=Lib.hid hg
   clear hg
   by_cases hlt2:k<m
   ·have hpos:0<k:=by
     rcases Nat.eq_zero_or_pos k with h | h
     ·have:=hk0 h;omega
     ·exact h
    clear hk0
    obtain⟨j,hj,hj1,hj2,hj3⟩:∃ j,Hid (Nat.min k (m - k)=j)∧k+j≤m∧0<j∧j≤k:=⟨min k (m - k),Lib.hid rfl,by omega,by omega,by omega⟩
    have HGd:Hid (wr.drew.heap[w.heap.size]?=some (.cells (filled d m k).toArray 9 (0,0))):=Lib.hid HG.out
    have hBd:Below w.heap.size w wr.drew:=hB.drew
    have hne:¬ m=k:=by omega
    obtain⟨cs,hcs⟩:∃ cs,Hid (cs=List.replicate j (Value.string d)):=⟨_,Lib.hid rfl⟩
    have a1:Hid (cs.length=Nat.min k (m - k)):=Lib.hid (by rw[hcs.out,List.length_replicate];exact hj.out.symm)
    have a2:Lie wr.drew w.heap.size cs:=fun i v hv=>zvw HGd.out i j v hj3 (by rw[←hcs.out];exact hv)
    have a3:Hid (k+cs.length≤(filled d m k).length):=Lib.hid (by rw[zps d hkm,hcs.out,List.length_replicate];exact hj1)
    have a4:Hid (∀ v∈cs,v.oneCell'=true):=Lib.hid (fun v hv=>by rw[hcs.out] at hv;rw[List.eq_of_mem_replicate hv];rfl)
    go_wp2
    go_region_law (refine step_copy_splice rfl (.tmp 41) (.tmp 44) 27 27 rfl 9 Tryz.underlying27 hsz (some ⟨w.heap.size,k,none⟩) (some ⟨w.heap.size,0,none⟩) (m - k) (m - k) k m (by simp[go_sem]) (by simp[go_sem]) w.heap.size k (filled d m k) 9 HGd.out cs a1.out (fun _=>⟨rfl,_,rfl,a2⟩) a3.out a4.out w.heap.size w hBd (Nat.le_refl _) ?_;intro w4 hg4 hB4)
    all_goals go_simp
    all_goals go_wp2
    have hl:cs.length=j:=by rw[hcs.out,List.length_replicate]
    rw[hl,show IntKind.i64.wrap ((k:Int)+(j:Int))=((k+j:Nat):Int) from by rw[IntWalk.i64_in _ (by omega)];omega]
    refine⟨⟨k+j,rfl,hj1,fun h=>by omega,?_,hB4⟩,by simp[intOf];omega⟩
    have:=hg4.out
    rwa[hcs.out,zjx d m k j] at this
   ·obtain rfl:k=m:=by omega
    have hge:¬ (k:Int)<k:=by omega
    clear hk0
    go_wp2
    go_ret
    exact⟨_,rfl,zwl HG.out (Nat.le_refl _) (by unfold maxLen;omega),hB⟩
end
section
open Go.RowKit
def zed (s:List UInt8):List (List UInt8):=if s=[46] then [] else Pt.pieces s
theorem zlq (s:ByteArray):Lib.indexB s ⟨#[47]⟩=Lib.indexByte (bs s) 47:=Lib.index_one (bs s) 47
theorem zjh:∀ (k:Nat) (s:ByteArray),Lib.countB s ⟨#[47]⟩=k→(Lib.splitB ⟨#[47]⟩ 0 k s).map bs=Pt.pieces (bs s):=by
 intro k
 induction k with
 | zero =>
  intro s h
  rcases Lib.indexB_cases s ⟨#[47]⟩ with e | ⟨i,e,_⟩
  ·rw[Lib.splitB_miss _ _ _ _ e,zfu (by rw[←zlq];exact e)];rfl
  ·rw[Lib.countB_hit s _ i (by decide) e] at h;omega
 | succ k ih =>
  intro s h
  rcases Lib.indexB_cases s ⟨#[47]⟩ with e | ⟨i,e,_⟩
  ·rw[Lib.countB_miss s _ e] at h;omega
  ·rw[Lib.countB_hit s _ i (by decide) e] at h
   rw[Lib.splitB_hit _ _ _ _ i e,List.map_cons]
   have h2:=ih (s.extract (i+(⟨#[47]⟩:ByteArray).size) s.size) (by omega)
   rw[h2]
   exact(zgc (by rw[←zlq];exact e)).2.symm
theorem splitB_len (s:ByteArray):(Lib.splitB ⟨#[47]⟩ 0 (Lib.countB s ⟨#[47]⟩) s).length=Lib.countB s ⟨#[47]⟩+1:=Lib.splitB_all _ (by decide) 0 _ s rfl
def PartsPost (w:World) (s:ByteArray) (e:Ending) (w':World):Prop :=
 ∃ (ps:List ByteArray) (a:Option Addr) (c:Nat),e=.returned (.slice a ps.length c)∧ps.map bs=zed (bs s)∧w'.ownsRow w.heap.size 9 1 (.slice a ps.length c) ps.length (strC ps)∧Below w.heap.size w w'
theorem ztw (w:World) (m:Int) (hm:w.cell? ⟨0,0,none⟩=some (.int .i64 m)) (s:ByteArray) (hs:s.size≤1000000) :
  Calls Tryz.prog 122 #[.string s] w (PartsPost w s):=by
 have HM:=Lib.hid hm
 clear hm
 by_cases h:(s.toList == [46])=true
 ·have HE:=Lib.hid (znj h)
  go_enter Tryz.func122,Tryz.ntmps122
  go_wp2
  go_ret
  exact⟨[],none,0,rfl,by rw[HE.out];rfl,World.ownsRow_nil _ _ _ _,Below.refl _ _⟩
 ·have h':(s.toList == [46])=false:=by simpa using h
  clear h
  have HE:=Lib.hid (zls h')
  obtain⟨ps,hps⟩:∃ ps,Hid (Lib.splitB ⟨#[47]⟩ 0 (Lib.countB s ⟨#[47]⟩) s=ps):=⟨_,Lib.hid rfl⟩
  have hl:Hid (Lib.countB s ⟨#[47]⟩+1=ps.length):=Lib.hid (by rw[←hps.out,splitB_len])
  have hc:Calls Tryz.prog 205 #[.string s,.string ⟨#[47]⟩] w fun e w'=>e=.returned (.slice (some ⟨w.heap.size,0,none⟩) ps.length ps.length)∧w.alloc (.cells (strC ps).toArray 9)=w':=by
   refine(Tryz.strings_Split s ⟨#[47]⟩ m w (by omega) HM.out (by decide)).mono ?_
   rw[hl.out,hps.out]
   exact fun e w' ⟨a,b⟩=>⟨a,b.symm⟩
  have HC:=Lib.hid hc
  clear hc
  go_enter Tryz.func122,Tryz.ntmps122
  go_wp2_with (go_at_call 205;refine HC.out.mono ?_;rintro e w' ⟨rfl,rfl⟩)
  go_ret
  refine⟨ps,_,_,rfl,?_,?_,(Below.refl _ _).alloc (Nat.le_refl _) _⟩
  ·rw[←hps.out,zjh _ s rfl,zed,if_neg HE.out]
  ·have hps2:ps.length≤maxLen:=by
    have h1:=zjh _ s rfl
    rw[hps.out] at h1
    have h2:=zhw (ps.map bs)
    rw[h1,zbu,zax,←h1,List.length_map] at h2
    unfold maxLen;omega
   exact⟨by rw[zdx,Nat.mul_one],.inr ⟨w.heap.size,_,_,rfl,Nat.le_refl _,World.alloc_heap_new w _,Nat.le_refl _,hps2,by simp[strC],by rw[Nat.mul_one,List.take_of_length_le (by rw[zdx];exact Nat.le_refl _)]⟩⟩
def common:List (List UInt8)→List (List UInt8)→Nat
 | a :: l,b :: r=>if a=b then common l r+1 else 0
 | _,_=>0
def zaz (a b:List (List UInt8)):List (List UInt8):=List.replicate (b.length - common a b) [46,46]++a.drop (common a b)
def way (p q:List UInt8):List UInt8:=if zaz (zed p) (zed q)=[] then [46] else Pt.inter (zaz (zed p) (zed q))
theorem zss:∀ (a b:List (List UInt8)),common a b≤a.length∧common a b≤b.length
 | [],b=>by simp[common]
 | a :: l,[]=>by simp[common]
 | a :: l,b :: r=>by
  have:=zss l r
  unfold common
  split<;>simp<;>omega
theorem zik {P:Program} (w:World) (base:Nat) (t ty e:TypeId) (i:TypeInfo) (z:Value) (bytes:Nat) (ht:P.underlying t=some (.slice e)) (hi:P.info? e=some i) (hz:i.zero=some z)
  (hsize:i.size=1) (hby:i.bytes=bytes) (hzs:z.cells.size=1)
  (v:Value) (n:Nat) (xs:List Value) (hown:w.ownsRow base e 1 v n xs) (ap:Option Addr) (m c:Nat) (news:List Value) (hl:news.length=m)
  (hsrc:(ap=none∧m=0∧c=0)∨∃ ad,ap=some ad∧∀ j u,news[j]?=some u→w.cell? (ad.add j)=some u) (h1:∀ u∈news,u.oneCell'=true)
  (h63:n+m≤maxLen) (hbytes:(n+m) * bytes≤140737488355328) (hbase:base≤w.heap.size) :
  ∃ v' w',(Builtin.append_ #[t,t] ty #[v,.slice ap m c]).run P w=.ok v' w'∧w'.ownsRow base e 1 v' (n+m) (xs++news)∧w.grownBy w' v.ownBlock:=by
 rcases hsrc with ⟨rfl,rfl,rfl⟩ | ⟨ad,rfl,hc⟩
 ·obtain rfl:=List.eq_nil_of_length_eq_zero hl
  exact⟨v,w,run_append_owned_none (P:=P) (w:=w) base t ty e i 1 ht hi v n xs hown,by simpa using hown,rfl,rfl,rfl,Nat.le_refl _,fun _ _ _=>rfl⟩
 ·obtain⟨v',w',a,b,c,_⟩:=run_append_own (P:=P) w base t ty e i z 1 bytes ht hi hz hsize hby hzs (by decide) v n xs hown ad m c news (by omega) hc h1 h63 hbytes hbase
  exact⟨v',w',a,b,c⟩
theorem zdn {P:Program} {ops:Array Oper} {o:Oper} {a:Act} {w:World} {K:Act→World→Prop} {Q:Exit→Act→World→Prop} {E:Prop} (hgd:o.guard=none) (s x:Operand) (t:TypeId)
  (ho:o.op=.call { callee:=.builtin .append,args:=#[s,x],argTypes:=#[t,t] })
  (base:Nat) (e:TypeId) (i:TypeInfo) (z:Value) (bytes:Nat) (ht:P.underlying t=some (.slice e)) (hi:P.info? e=some i) (hz:i.zero=some z)
  (hsize:i.size=1) (hby:i.bytes=bytes) (hzs:z.cells.size=1)
  (v:Value) (n:Nat) (xs:List Value) (hs:a.eval s=v) (hown:w.ownsRow base e 1 v n xs) (ap:Option Addr) (m c:Nat) (news:List Value) (hx:a.eval x=.slice ap m c) (hl:news.length=m)
  (hsrc:(ap=none∧m=0∧c=0)∨∃ ad,ap=some ad∧∀ j u,news[j]?=some u→w.cell? (ad.add j)=some u) (h1:∀ u∈news,u.oneCell'=true)
  (h63:n+m≤maxLen) (hbytes:(n+m) * bytes≤140737488355328) (hbase:base≤w.heap.size)
  (h:∀ v' w',w'.ownsRow base e 1 v' (n+m) (xs++news)→w.grownBy w' v.ownBlock→K (a.put o.dst v') w') :
  if Region.wanted o (yielded ops a.tmps)=true then Oper.wp P o a w K Q else E:=by
 rw[if_pos (by simp[Region.wanted,hgd])]
 obtain⟨v',w',run,own,grew⟩:=zik (P:=P) w base t o.type e i z bytes ht hi hz hsize hby hzs v n xs hown ap m c news hl hsrc h1 h63 hbytes hbase
 unfold Oper.wp
 simp[execOp,ho,resolve,invoke,builtin,hs,hx,run,Result.andThen]
 exact h v' w' own grew
theorem zlv (a:List (List UInt8)):common a []=0:=by cases a<;>rfl
theorem zvl {a b:List (List UInt8)} {k:Nat} {x y:List UInt8} {l r:List (List UInt8)} (ha:a.drop k=x :: l) (hb:b.drop k=y :: r):common (a.drop k) (b.drop k)=if x=y then common l r+1 else 0:=by
 rw[ha,hb];rfl
theorem partsP_cost (s:List UInt8):cost (zed s)≤s.length+1:=by
 unfold zed
 split
 ·simp[cost]
 ·rw[zbu];exact Nat.le_refl _
theorem ztt {ps:List ByteArray} {s:ByteArray} (h:ps.map bs=zed (bs s)):tot ps≤s.size+1:=by
 rw[zlz,h]
 have:=partsP_cost (bs s)
 rwa[zax] at this
theorem zpj:∀ (l:List (List UInt8)),Lib.join l [47]=Pt.inter l
 | []=>rfl
 | [x]=>by simp[Lib.join,Pt.inter]
 | x :: y :: r=>by
  have:=zpj (y :: r)
  rw[Pt.inter,←this]
  simp[Lib.join]
theorem zhl:∀ (l:List (List UInt8)),(Pt.inter l).length≤cost l
 | []=>Nat.zero_le _
 | [x]=>by simp[Pt.inter,cost]
 | x :: y :: r=>by
  have:=zhl (y :: r)
  have h3:cost (x :: y :: r)=(x.length+1)+cost (y :: r):=by simp[cost]
  rw[Pt.inter,List.length_append,List.length_cons,h3];omega
theorem zfy {w:World} {base base' e size n:Nat} {v:Value} {xs:List Value} (hb:base'≤base) (h:w.ownsRow base e size v n xs):w.ownsRow base' e size v n xs:=by
 refine⟨h.1,?_⟩
 rcases h.2 with h0 | ⟨g,cap,cur,hv,hbg,r⟩
 ·exact .inl h0
 ·exact .inr ⟨g,cap,cur,hv,Nat.le_trans hb hbg,r⟩
theorem zki {ss:List ByteArray} {u:Value} (h:u∈strC ss):u.oneCell'=true:=by
 obtain⟨s,_,rfl⟩:=List.mem_map.1 h
 rfl
theorem src_of {w:World} {base k c:Nat} {a:Option Addr} {ta:List ByteArray} (h:w.ownsRow base 9 1 (.slice a ta.length c) ta.length (strC ta)) (hk:k≤ta.length) :
  ((if c=k then a else Option.map (fun x=>x.add k) a)=none∧ta.length - k=0∧c - k=0)∨∃ ad,(if c=k then a else Option.map (fun x=>x.add k) a)=some ad∧∀ j u,(strC (ta.drop k))[j]?=some u→w.cell? (ad.add j)=some u:=by
 rcases h.2 with ⟨e,h0⟩ | ⟨g,cap,cur,e,_,_,h1,_⟩
 ·simp only [Value.slice.injEq] at e
  obtain⟨rfl,_,rfl⟩:=e
  exact .inl ⟨by split<;>rfl,by omega,by omega⟩
 ·cases e
  right
  by_cases hc:c=k
  ·rw[if_pos hc]
   refine⟨_,rfl,fun j u hu=>?_⟩
   have:=(List.getElem?_eq_some_iff.1 hu).1
   rw[zdx,List.length_drop] at this
   omega
  ·rw[if_neg hc]
   refine⟨_,rfl,fun j u hu=>?_⟩
   have:=h.cells (g:=g) rfl (k+j) u (by rw[←hu,strC,strC,List.map_drop,List.getElem?_drop])
   show w.cell? (((⟨g,0,none⟩:Addr).add k).add j)=some u
   rw[Addr.add_lit] at this ⊢
   rw[Addr.add_lit,show 0+k+j=0+(k+j) by omega]
   exact this
theorem src_of' {w:World} {base k c g:Nat} {ta:List ByteArray} (h:w.ownsRow base 9 1 (.slice (some ⟨g,0,none⟩) ta.length c) ta.length (strC ta)) (hk:k≤ta.length) :
  ((if c=k then some ⟨g,0,none⟩ else some ⟨g,k,none⟩:Option Addr)=none∧ta.length - k=0∧c - k=0)∨∃ ad,(if c=k then some ⟨g,0,none⟩ else some ⟨g,k,none⟩:Option Addr)=some ad∧∀ j u,(strC (ta.drop k))[j]?=some u→w.cell? (ad.add j)=some u:=by
 have:=src_of h hk
 simpa[Addr.add_lit] using this
abbrev up:ByteArray:=⟨#[46,46]⟩
theorem zlb (w:World) (g0 c0 m:Nat) (n:Int) (hn:n=m) (hlt:g0<w.heap.size) (hc:w.cell? ⟨g0,0,none⟩=some (.string up)) (hm:m≤1000000) :
  Calls Tryz.prog 123 #[.slice (some ⟨g0,0,none⟩) 1 c0,.int .i64 n] w fun e w'=>∃ g,e=.returned (.slice (some ⟨g,0,none⟩) m m) ∧
   w'.ownsRow w.heap.size 9 1 (.slice (some ⟨g,0,none⟩) m m) m (strC (List.replicate m up))∧Below w.heap.size w w':=by
 subst hn
 exact Repeat_any w g0 0 c0 m up hlt hc hm
theorem way_of {ta tb out:List ByteArray} {a b:List (List UInt8)} {k mm:Nat} (ha:ta.map bs=a) (hb:tb.map bs=b) (hk:common (ta.map bs) (tb.map bs)=k) (hm:mm+k=tb.length) (ho:List.replicate mm up++ta.drop k=out):out.map bs=zaz a b:=by
 subst ha hb ho
 unfold zaz
 rw[hk,List.length_map,show tb.length - k=mm by omega,List.map_append,List.map_replicate,List.map_drop]
 rfl
theorem zku (a b:List ByteArray):tot (a++b)=tot a+tot b:=by simp[tot]
theorem tot_way (mm k:Nat) (ta:List ByteArray) (h1:mm≤1000000) (h2:tot ta≤1000000):tot (List.replicate mm up++ta.drop k)≤10000000:=by
 have e1:tot (List.replicate mm up)=mm * 3:=by simp[tot,up];rfl
 have e2:tot ta=tot (ta.take k)+tot (ta.drop k):=by rw[←zku,List.take_append_drop]
 rw[zku,e1]
 omega
theorem zvk (w:World) (base:Nat) (a:Option Addr) (n c:Nat) (out:List ByteArray) (ho:w.ownsRow base 9 1 (.slice a n c) n (strC out)) (hn:out.length=n) (hpos:0<n) (htt:tot out≤10000000) :
  Calls Tryz.prog 124 #[.slice a n c,.string ⟨#[47]⟩] w fun e w'=>e=.returned (.string (str (Pt.inter (out.map bs))))∧Below w.heap.size w w':=by
 subst hn
 obtain⟨g,c',e,hc,_⟩:=zcl ho hpos
 cases e
 have hg:g<w.heap.size:=(ho.lt g rfl).2
 have hl:=zhl (out.map bs)
 have hj:Lib.join (out.map (·.data.toList)) (⟨#[47]⟩:ByteArray).data.toList=Pt.inter (out.map bs):=zpj _
 rw[←zlz] at hl
 have:=Tryz.strings_Join g 0 c out ⟨#[47]⟩ w (fun j x hx=>by
  have hj:=(List.getElem?_eq_some_iff.1 hx).1
  have h2:=zgt ho hj
  rw[hx] at h2
  rw[Nat.zero_add]
  exact h2) hg (by have:=zev out;omega) hc (by rw[hj];omega)
 rw[hj] at this
 exact this
theorem To_any (w:World) (m:Int) (hm:w.cell? ⟨0,0,none⟩=some (.int .i64 m)) (hw0:0<w.heap.size) (p q:ByteArray) (hp:p.size≤900000) (hq:q.size≤900000) :
  Calls Tryz.prog 65 #[.string p,.string q] w fun e w'=>e=.returned (.string (str (way (bs p) (bs q))))∧Below w.heap.size w w':=by
 have HM:=Lib.hid hm
 clear hm
 obtain⟨i0,hi,hz0,hz1,hz2⟩:=info_parts zjk
 go_enter Tryz.func65,Tryz.ntmps65
 go_wp2_with fail
 refine(ztw _ m HM.out p (by omega)).mono ?_
 rintro e w1 ⟨ta,a1,c1,rfl,hta,o1,B1⟩
 have HM1:w1.cell? ⟨0,0,none⟩=some (.int .i64 m):=(B1.cell (p:=⟨0,0,none⟩) hw0).trans HM.out
 have hw1:=B1.size
 go_wp2_with fail
 refine(ztw _ m HM1 q (by omega)).mono ?_
 rintro e w2 ⟨tb,a2,c2,rfl,htb,o2,B2⟩
 have o1':=zae o1 B2
 have HTA:=Lib.hid hta
 have HTB:=Lib.hid htb
 have B12:Below w.heap.size w w2:=B1.trans (B2.mono hw1)
 have lta:=ztt hta
 have ltb:=ztt htb
 have nta:=zev ta
 have ntb:=zev tb
 clear hta htb HM1 o1 B1
 go_wp2_with fail
 go_loopw [7] (fun i wr=>∃ k:Nat,i=.int .i64 k∧k≤ta.length∧k≤tb.length∧common ((ta.map bs).drop k) ((tb.map bs).drop k)+k=common (ta.map bs) (tb.map bs)∧wr.heap=w2.heap∧Below w.heap.size w wr) (fun i _=>ta.length - (intOf i).toNat)
 case atStart=>exact⟨0,rfl,Nat.zero_le _,Nat.zero_le _,rfl,rfl,B12⟩
 case round =>
  obtain⟨k,rfl,hka,hkb,hcm,hheap,hB⟩:=hrel
  have r1:=zea hheap o1'
  have r2:=zea hheap o2
  have HH:=Lib.hid hheap
  have HCM:=Lib.hid hcm
  clear hheap hcm o1' o2
  by_cases h1:k<ta.length
  ·by_cases h2:k<tb.length
   ·obtain⟨g1,c1',e1,_,_⟩:=zcl r1 (by omega)
    cases e1
    obtain⟨g2,c2',e2,_,_⟩:=zcl r2 (by omega)
    cases e2
    have d1:=zgt r1 h1
    have d2:=zgt r2 h2
    have hcm:=HCM.out
    rw[zvl (zjn h1) (zjn h2)] at hcm
    generalize ta[k]?.getD ByteArray.empty=x at *
    generalize tb[k]?.getD ByteArray.empty=y at *
    have i1:(k:Int)<ta.length:=by omega
    have i2:(k:Int)<tb.length:=by omega
    by_cases h3:(x.toList == y.toList)=true
    ·have hxy:bs x=bs y:=by have:=eq_of_beq h3;rw[Lib.toList_data,Lib.toList_data] at this;exact this
     rw[if_pos hxy] at hcm
     have HC2:=Lib.hid hcm
     clear hcm HCM hxy
     go_wp2
     go_quiet (fail)
     go_wp2
     go_roundw
     case rel=>exact⟨k+1,by go_num,h1,h2,by have:=HC2.out;omega,HH.out,below_drewN hB nq⟩
     case measure=>simp[intOf]<;>omega
    ·have h3':(x.toList == y.toList)=false:=by simpa using h3
     have hxy:¬ bs x=bs y:=fun e=>by rw[Lib.toList_data,Lib.toList_data] at h3;exact h3 (beq_iff_eq.2 e)
     rw[if_neg hxy] at hcm
     have HE:Hid (common (ta.map bs) (tb.map bs)=k):=Lib.hid (by rw[←hcm,Nat.zero_add])
     clear hcm HCM h1 h2 h3 hxy
     go_wp2
     go_quiet (fail)
     go_wp2_with fail
     have r1':(wr.drewN nq).ownsRow _ _ _ _ _ _:=zea rfl r1
     have hB':=below_drewN hB nq
     generalize wr.drewN nq=W at *
     clear r1 r2 HH hB
     obtain⟨mm,hmm,hmm2⟩:∃ mm:Nat,Hid (IntKind.i64.wrap ((tb.length:Int) - (k:Int))=(mm:Int))∧mm≤tb.length:=⟨tb.length - k,Lib.hid (by rw[IntWalk.i64_in _ (by omega)];omega),by omega⟩
     have hml:Hid (mm+k=tb.length):=Lib.hid (by have:=hmm.out;rw[IntWalk.i64_in _ (by omega)] at this;omega)
     have hup:Hid ((W.alloc (.cells #[.string up] 9)).drew.cell? ⟨W.heap.size,0,none⟩=some (.string up)):=Lib.hid (Boxed.new W 9 (.string up)).cell
     go_region_law (first
      | (go_simp;go_at_call 123;go_must (refine(zlb _ W.heap.size 1 mm (IntKind.i64.wrap ((tb.length:Int) - (k:Int))) hmm.out (by simp) hup.out (by omega)).mono ?_);rintro e w3 ⟨g3,rfl,o3,B3⟩;have o3':=zfy (show w.heap.size≤_ by have:=hB'.size;simp;omega) o3;have r3:=zae (zea (w':=(W.alloc (.cells #[.string up] 9)).drew) rfl (r1'.alloc (.cells #[.string up] 9))) B3;have hB3:=((hB'.alloc hB'.size (.cells #[.string up] 9)).drew).trans (B3.mono (show w.heap.size≤_ by have:=hB'.size;simp;omega));have hs3:=Lib.hid (src_of' r3 hka))
      | (refine zdn rfl (.tmp 41) (.tmp 44) 27 rfl w.heap.size 9 i0 (.string ByteArray.empty) 16 Tryz.underlying27 hi hz0 hz1 hz2 rfl (.slice (some ⟨g3,0,none⟩) mm mm) mm (strC (List.replicate mm up)) (by simp[go_sem]) o3' _ (ta.length - k) (c1 - k) (strC (ta.drop k)) (by simp[go_sem]) (by rw[zdx,List.length_drop]) hs3.out (fun u hu=>zki hu) (by unfold maxLen;omega) (by omega) hB3.size ?_;intro v4 w4 o4 G4))
     obtain⟨a4,c4,rfl⟩:=zac o4
     obtain⟨n4,hn4⟩:∃ n4,Hid (mm+(ta.length - k)=n4):=⟨_,Lib.hid rfl⟩
     obtain⟨out,hout⟩:∃ out,Hid (List.replicate mm up++ta.drop k=out):=⟨_,Lib.hid rfl⟩
     rw[hn4.out,show strC (List.replicate mm up)++strC (ta.drop k)=strC out by rw[←hout.out];simp[strC]] at o4
     rw[hn4.out]
     have hB4:=hB3.grown G4 hB3.size (fun j ej=>(o3'.lt j ej).1)
     have hlen:Hid (out.length=n4):=Lib.hid (by rw[←hout.out,←hn4.out,List.length_append,List.length_replicate,List.length_drop])
     have hmap:Hid (out.map bs=zaz (zed (bs p)) (zed (bs q))):=Lib.hid (way_of HTA.out HTB.out HE.out hml.out hout.out)
     have htt:tot out≤10000000:=by rw[←hout.out];exact tot_way mm k ta (by omega) (by omega)
     clear o3 o3' r3 hs3 G4 B3 hB3 r1' hmm hml
     by_cases hz:n4=0
     ·have hz':((n4:Int) == 0)=true:=by rw[hz];rfl
      have HW:Hid (way (bs p) (bs q)=[46]):=Lib.hid (by
       unfold way
       rw[←hmap.out,if_pos]
       rw[List.map_eq_nil_iff]
       exact List.eq_nil_of_length_eq_zero (by rw[hlen.out];exact hz))
      clear hz
      go_simp
      go_wp2
      all_goals
       go_ret
       exact⟨by rw[HW.out];rfl,hB4⟩
     ·have hz':((n4:Int) == 0)=false:=by rw[beq_eq_false_iff_ne];omega
      have HW:Hid (way (bs p) (bs q)=Pt.inter (out.map bs)):=Lib.hid (by
       unfold way
       rw[←hmap.out,if_neg]
       rw[List.map_eq_nil_iff]
       intro e
       rw[e] at hlen
       exact hz hlen.out.symm)
      go_simp
      go_wp2_with (go_at_call 124;go_must (refine(zvk _ _ _ _ _ out o4 hlen.out (by omega) htt).mono ?_);rintro e w5 ⟨rfl,B5⟩)
      all_goals
       go_ret
       exact⟨by rw[HW.out];rfl,hB4.trans (B5.mono hB4.size)⟩
   ·have i1:decide (k<ta.length)=true:=by simp;omega
    have i2:decide (k<tb.length)=false:=by simp;omega
    have HE:Hid (common (ta.map bs) (tb.map bs)=k):=Lib.hid (by
     have e2:(tb.map bs).drop k=[]:=List.drop_of_length_le (by rw[List.length_map];omega)
     rw[←HCM.out,e2,zlv,Nat.zero_add])
    clear HCM h1 h2
    go_wp2
    go_quiet (fail)
    go_wp2_with fail
    have r1':(wr.drewN nq).ownsRow _ _ _ _ _ _:=zea rfl r1
    have hB':=below_drewN hB nq
    generalize wr.drewN nq=W at *
    clear r1 r2 HH hB
    obtain⟨mm,hmm,hmm2⟩:∃ mm:Nat,Hid (IntKind.i64.wrap ((tb.length:Int) - (k:Int))=(mm:Int))∧mm≤tb.length:=⟨tb.length - k,Lib.hid (by rw[IntWalk.i64_in _ (by omega)];omega),by omega⟩
    have hml:Hid (mm+k=tb.length):=Lib.hid (by have:=hmm.out;rw[IntWalk.i64_in _ (by omega)] at this;omega)
    have hup:Hid ((W.alloc (.cells #[.string up] 9)).drew.cell? ⟨W.heap.size,0,none⟩=some (.string up)):=Lib.hid (Boxed.new W 9 (.string up)).cell
    go_region_law (first
     | (go_simp;go_at_call 123;go_must (refine(zlb _ W.heap.size 1 mm (IntKind.i64.wrap ((tb.length:Int) - (k:Int))) hmm.out (by simp) hup.out (by omega)).mono ?_);rintro e w3 ⟨g3,rfl,o3,B3⟩;have o3':=zfy (show w.heap.size≤_ by have:=hB'.size;simp;omega) o3;have r3:=zae (zea (w':=(W.alloc (.cells #[.string up] 9)).drew) rfl (r1'.alloc (.cells #[.string up] 9))) B3;have hB3:=((hB'.alloc hB'.size (.cells #[.string up] 9)).drew).trans (B3.mono (show w.heap.size≤_ by have:=hB'.size;simp;omega));have hs3:=Lib.hid (src_of r3 hka))
     | (refine zdn rfl (.tmp 41) (.tmp 44) 27 rfl w.heap.size 9 i0 (.string ByteArray.empty) 16 Tryz.underlying27 hi hz0 hz1 hz2 rfl (.slice (some ⟨g3,0,none⟩) mm mm) mm (strC (List.replicate mm up)) (by simp[go_sem]) o3' _ (ta.length - k) (c1 - k) (strC (ta.drop k)) (by simp[go_sem]) (by rw[zdx,List.length_drop]) hs3.out (fun u hu=>zki hu) (by unfold maxLen;omega) (by omega) hB3.size ?_;intro v4 w4 o4 G4))
    obtain⟨a4,c4,rfl⟩:=zac o4
    obtain⟨n4,hn4⟩:∃ n4,Hid (mm+(ta.length - k)=n4):=⟨_,Lib.hid rfl⟩
    obtain⟨out,hout⟩:∃ out,Hid (List.replicate mm up++ta.drop k=out):=⟨_,Lib.hid rfl⟩
    rw[hn4.out,show strC (List.replicate mm up)++strC (ta.drop k)=strC out by rw[←hout.out];simp[strC]] at o4
    rw[hn4.out]
    have hB4:=hB3.grown G4 hB3.size (fun j ej=>(o3'.lt j ej).1)
    have hlen:Hid (out.length=n4):=Lib.hid (by rw[←hout.out,←hn4.out,List.length_append,List.length_replicate,List.length_drop])
    have hmap:Hid (out.map bs=zaz (zed (bs p)) (zed (bs q))):=Lib.hid (way_of HTA.out HTB.out HE.out hml.out hout.out)
    have htt:tot out≤10000000:=by rw[←hout.out];exact tot_way mm k ta (by omega) (by omega)
    clear o3 o3' r3 hs3 G4 B3 hB3 r1' hmm hml
    by_cases hz:n4=0
    ·have hz':((n4:Int) == 0)=true:=by rw[hz];rfl
     have HW:Hid (way (bs p) (bs q)=[46]):=Lib.hid (by
      unfold way
      rw[←hmap.out,if_pos]
      rw[List.map_eq_nil_iff]
      exact List.eq_nil_of_length_eq_zero (by rw[hlen.out];exact hz))
     clear hz
     go_simp
     go_wp2
     all_goals
      go_ret
      exact⟨by rw[HW.out];rfl,hB4⟩
    ·have hz':((n4:Int) == 0)=false:=by rw[beq_eq_false_iff_ne];omega
     have HW:Hid (way (bs p) (bs q)=Pt.inter (out.map bs)):=Lib.hid (by
      unfold way
      rw[←hmap.out,if_neg]
      rw[List.map_eq_nil_iff]
      intro e
      rw[e] at hlen
      exact hz hlen.out.symm)
     go_simp
     go_wp2_with (go_at_call 124;go_must (refine(zvk _ _ _ _ _ out o4 hlen.out (by omega) htt).mono ?_);rintro e w5 ⟨rfl,B5⟩)
     all_goals
      go_ret
      exact⟨by rw[HW.out];rfl,hB4.trans (B5.mono hB4.size)⟩
  ·have i1:decide (k<ta.length)=false:=by simp;omega
   have HE:Hid (common (ta.map bs) (tb.map bs)=k):=Lib.hid (by
    rw[←HCM.out,List.drop_of_length_le (by rw[List.length_map];omega)]
    show 0+k=k
    omega)
   clear HCM h1
   go_wp2
   go_quiet (fail)
   go_wp2_with fail
   have r1':(wr.drewN nq).ownsRow _ _ _ _ _ _:=zea rfl r1
   have hB':=below_drewN hB nq
   generalize wr.drewN nq=W at *
   clear r1 r2 HH hB
   obtain⟨mm,hmm,hmm2⟩:∃ mm:Nat,Hid (IntKind.i64.wrap ((tb.length:Int) - (k:Int))=(mm:Int))∧mm≤tb.length:=⟨tb.length - k,Lib.hid (by rw[IntWalk.i64_in _ (by omega)];omega),by omega⟩
   have hml:Hid (mm+k=tb.length):=Lib.hid (by have:=hmm.out;rw[IntWalk.i64_in _ (by omega)] at this;omega)
   have hup:Hid ((W.alloc (.cells #[.string up] 9)).drew.cell? ⟨W.heap.size,0,none⟩=some (.string up)):=Lib.hid (Boxed.new W 9 (.string up)).cell
   go_region_law (first
    | (go_simp;go_at_call 123;go_must (refine(zlb _ W.heap.size 1 mm (IntKind.i64.wrap ((tb.length:Int) - (k:Int))) hmm.out (by simp) hup.out (by omega)).mono ?_);rintro e w3 ⟨g3,rfl,o3,B3⟩;have o3':=zfy (show w.heap.size≤_ by have:=hB'.size;simp;omega) o3;have r3:=zae (zea (w':=(W.alloc (.cells #[.string up] 9)).drew) rfl (r1'.alloc (.cells #[.string up] 9))) B3;have hB3:=((hB'.alloc hB'.size (.cells #[.string up] 9)).drew).trans (B3.mono (show w.heap.size≤_ by have:=hB'.size;simp;omega));have hs3:=Lib.hid (src_of r3 hka))
    | (refine zdn rfl (.tmp 41) (.tmp 44) 27 rfl w.heap.size 9 i0 (.string ByteArray.empty) 16 Tryz.underlying27 hi hz0 hz1 hz2 rfl (.slice (some ⟨g3,0,none⟩) mm mm) mm (strC (List.replicate mm up)) (by simp[go_sem]) o3' _ (ta.length - k) (c1 - k) (strC (ta.drop k)) (by simp[go_sem]) (by rw[zdx,List.length_drop]) hs3.out (fun u hu=>zki hu) (by unfold maxLen;omega) (by omega) hB3.size ?_;intro v4 w4 o4 G4))
   obtain⟨a4,c4,rfl⟩:=zac o4
   obtain⟨n4,hn4⟩:∃ n4,Hid (mm+(ta.length - k)=n4):=⟨_,Lib.hid rfl⟩
   obtain⟨out,hout⟩:∃ out,Hid (List.replicate mm up++ta.drop k=out):=⟨_,Lib.hid rfl⟩
   rw[hn4.out,show strC (List.replicate mm up)++strC (ta.drop k)=strC out by rw[←hout.out];simp[strC]] at o4
   rw[hn4.out]
   have hB4:=hB3.grown G4 hB3.size (fun j ej=>(o3'.lt j ej).1)
   have hlen:Hid (out.length=n4):=Lib.hid (by rw[←hout.out,←hn4.out,List.length_append,List.length_replicate,List.length_drop])
   have hmap:Hid (out.map bs=zaz (zed (bs p)) (zed (bs q))):=Lib.hid (way_of HTA.out HTB.out HE.out hml.out hout.out)
   have htt:tot out≤10000000:=by rw[←hout.out];exact tot_way mm k ta (by omega) (by omega)
   clear o3 o3' r3 hs3 G4 B3 hB3 r1' hmm hml
   by_cases hz:n4=0
   ·have hz':((n4:Int) == 0)=true:=by rw[hz];rfl
    have HW:Hid (way (bs p) (bs q)=[46]):=Lib.hid (by
     unfold way
     rw[←hmap.out,if_pos]
     rw[List.map_eq_nil_iff]
     exact List.eq_nil_of_length_eq_zero (by rw[hlen.out];exact hz))
    clear hz
    go_simp
    go_wp2
    all_goals
     go_ret
     exact⟨by rw[HW.out];rfl,hB4⟩
   ·have hz':((n4:Int) == 0)=false:=by rw[beq_eq_false_iff_ne];omega
    have HW:Hid (way (bs p) (bs q)=Pt.inter (out.map bs)):=Lib.hid (by
     unfold way
     rw[←hmap.out,if_neg]
     rw[List.map_eq_nil_iff]
     intro e
     rw[e] at hlen
     exact hz hlen.out.symm)
    go_simp
    go_wp2_with (go_at_call 124;go_must (refine(zvk _ _ _ _ _ out o4 hlen.out (by omega) htt).mono ?_);rintro e w5 ⟨rfl,B5⟩)
    all_goals
     go_ret
     exact⟨by rw[HW.out];rfl,hB4.trans (B5.mono hB4.size)⟩
end
namespace Dw
open Go.RowKit
abbrev ST:TypeId:=9
abbrev Bs:=List UInt8
def TlAt (w:World) (v:Value) (ss:List ByteArray):Prop :=
 ∃ a c,v=.slice a ss.length c∧ss.length≤c∧((a=none∧ss.length=0∧c=0)∨∃ b o,a=some ⟨b,o,none⟩∧b<w.heap.size∧∀ j u,(strC ss)[j]?=some u→w.cell? ⟨b,o+j,none⟩=some u)
theorem TlAt.of_own {w:World} {base:Nat} {a:Option Addr} {c:Nat} {ss:List ByteArray} (h:w.ownsRow base ST 1 (.slice a ss.length c) ss.length (strC ss)):TlAt w (.slice a ss.length c) ss:=by
 rcases h.2 with ⟨e,h0⟩ | ⟨g,cap,cur,e,_,hg,h1,_⟩
 ·simp only [Value.slice.injEq] at e
  obtain⟨rfl,_,rfl⟩:=e
  exact⟨none,0,rfl,by omega,.inl ⟨rfl,h0,rfl⟩⟩
 ·cases e
  refine⟨_,c,rfl,h1,.inr ⟨g,0,rfl,(Array.getElem?_eq_some_iff.1 hg).1,fun j u hu=>?_⟩⟩
  have:=h.cells (g:=g) rfl j u hu
  rwa[Addr.add_lit] at this
theorem TlAt.below {w w':World} {v:Value} {ss:List ByteArray} (h:TlAt w v ss) (hB:Below w.heap.size w w'):TlAt w' v ss:=by
 obtain⟨a,c,hv,hc,h⟩:=h
 refine⟨a,c,hv,hc,?_⟩
 rcases h with h | ⟨b,o,ha,hb,hx⟩
 ·exact .inl h
 ·exact .inr ⟨b,o,ha,Nat.lt_of_lt_of_le hb hB.size,fun j u hu=>(hB.cell (p:=⟨b,o+j,none⟩) hb).trans (hx j u hu)⟩
theorem TlAt.open_ {w:World} {v:Value} {x:ByteArray} {ss:List ByteArray} (h:TlAt w v (x :: ss)):∃ b o c,v=.slice (some ⟨b,o,none⟩) (ss.length+1) c∧ss.length+1≤c∧w.cell? ⟨b,o,none⟩=some (.string x) ∧
  TlAt w (.slice (if c=1 then some ⟨b,o,none⟩ else some ⟨b,o+1,none⟩) ss.length (c - 1)) ss:=by
 obtain⟨a,c,rfl,hc,h⟩:=h
 rcases h with ⟨_,h0,_⟩ | ⟨b,o,rfl,hb,hx⟩
 ·exact absurd h0 (by simp)
 ·have hc':ss.length+1≤c:=hc
  refine⟨b,o,c,rfl,hc',by simpa using hx 0 (.string x) rfl,_,c - 1,rfl,by omega,.inr ?_⟩
  by_cases h1:c=1
  ·refine⟨b,o,if_pos h1,hb,fun j u hu=>?_⟩
   have:=(List.getElem?_eq_some_iff.1 hu).1
   rw[zdx] at this
   omega
  ·refine⟨b,o+1,if_neg h1,hb,fun j u hu=>?_⟩
   have:=hx (j+1) u (by simpa[strC] using hu)
   rwa[show o+1+j=o+(j+1) by omega]
theorem TlAt.lit (w:World) (x:ByteArray):TlAt (w.alloc (.cells #[.string x] ST)) (.slice (some ⟨w.heap.size,0,none⟩) 1 1) [x] :=
 ⟨_,1,rfl,Nat.le_refl _,.inr ⟨_,0,rfl,by simp,fun j u hu=>by
  rw[World.cell?_alloc_at _ _ _ _ (by simp)]
  match j,hu with
  | 0,hu=>simpa[strC] using hu⟩⟩
theorem TlAt.shape {w:World} {v:Value} {ss:List ByteArray} (h:TlAt w v ss):∃ a c,v=.slice a ss.length c:=by
 obtain⟨a,c,hv,_⟩:=h
 exact⟨a,c,hv⟩
theorem TlAt.drewN {w:World} {v:Value} {ss:List ByteArray} (h:TlAt w v ss) (n:Nat):TlAt (w.drewN n) v ss:=h
theorem below_drewN {B:Nat} {w w':World} (h:Below B w w') (n:Nat):Below B w (w'.drewN n):=⟨h.os,h.tape,h.output,h.size,h.block⟩
theorem zga {w:World} {base e n:Nat} {v:Value} {xs:List Value} (h:w.ownsRow base e 1 v n xs):∃ a c,v=.slice a n c:=by
 rcases h.2 with ⟨rfl,rfl⟩ | ⟨g,cap,cur,rfl,_⟩
 ·exact⟨none,0,rfl⟩
 ·exact⟨_,_,rfl⟩
def lenV:Value→Nat
 | .slice _ n _=>n
 | _=>0
theorem way_same {x:List UInt8} {a b:List (List UInt8)}:zaz (x :: a) (x :: b)=zaz a b:=by
 unfold zaz
 have e:common (x :: a) (x :: b)=common a b+1:=by
  show (if x=x then common a b+1 else 0)=_
  rw[if_pos rfl]
 rw[e,List.length_cons,show b.length+1 - (common a b+1)=b.length - common a b by omega,List.drop_succ_cons]
theorem way_zero {a b:List (List UInt8)} (h:common a b=0):zaz a b=List.replicate b.length [46,46]++a:=by unfold zaz;rw[h];rfl
theorem zfo {ops:Array Oper} {rest:List Oper} {o:Oper} {a:Act} {Q:Exit→Act→World→Prop} {w:World} (hg:o.guard=none) (s x:Operand)
  (ho:o.op=.call { callee:=.builtin .append,args:=#[s,x],argTypes:=#[27,27] }) (base:Nat) (v:Value) (n:Nat) (ss tt:List ByteArray) (hs:a.eval s=v) (hown:w.ownsRow base ST 1 v n (strC ss)) (hn:ss.length=n)
  (u:Value) (hx:a.eval x=u) (ht:TlAt w u tt) (hm:ss.length+tt.length≤1000000) (hb:base≤w.heap.size)
  (hK:∀ v' w',w'.ownsRow base ST 1 v' (n+tt.length) (strC (ss++tt))→w.grownBy w' v.ownBlock→wpList Tryz.prog ops Q rest (a.put o.dst v') w'):wpList Tryz.prog ops Q (o :: rest) a w:=by
 obtain⟨i0,hi,hz0,hz1,hz2⟩:=info_parts zjk
 obtain⟨ap,c,rfl,hc,h⟩:=ht
 refine wpList_plain hg fun K' hK'=>?_
 obtain⟨v',w',run,own,grew⟩:=zik (P:=Tryz.prog) w base 27 o.type ST i0 (.string ByteArray.empty) 16 Tryz.underlying27 hi hz0 hz1 hz2 rfl v n (strC ss) hown ap tt.length c (strC tt) (zdx tt)
  (by
   rcases h with ⟨h1,h2,h3⟩ | ⟨b,q,rfl,_,hx⟩
   ·exact .inl ⟨h1,h2,h3⟩
   ·exact .inr ⟨_,rfl,fun j u hu=>by rw[Addr.add_lit];exact hx j u hu⟩)
  (fun u hu=>zki hu) (by unfold maxLen;omega) (by omega) hb
 unfold Oper.wp
 simp[execOp,ho,resolve,invoke,builtin,hs,hx,run,Result.andThen]
 refine hK' _ _ (hK v' w' ?_ grew)
 rw[show strC (ss++tt)=strC ss++strC tt by simp[strC]]
 exact own
theorem Rto_any (w:World) (p q:ByteArray) (hp:p.size≤100000) (hq:q.size≤100000) :
  Calls Tryz.prog 110 #[.string p,.string q] w fun e w'=>e=.returned (.string (str (Pt.text (zaz (Pt.parts (bs p)) (Pt.parts (bs q))))))∧Below w.heap.size w w':=by
 have HS1:=Lib.hid (zfv w p (by omega))
 have HS2:=Lib.hid fun W=>zfv W q (by omega)
 go_enter Tryz.func110,Tryz.ntmps110
 go_wp2_with fail
 refine HS1.out.mono ?_
 rintro e w1 ⟨ta,a1,c1,rfl,hta,ho1,B1⟩
 have ht1:=TlAt.of_own ho1
 have HT1:=Lib.hid ht1
 have HA:=Lib.hid hta
 have htot1:=zke hta
 have HB1:=Lib.hid B1
 clear ho1 ht1 B1 hta HS1
 go_wp2_with fail
 refine(HS2.out _).mono ?_
 rintro e w2 ⟨tb,a2,c2,rfl,htb,ho2,B2⟩
 have HT2:=Lib.hid (TlAt.of_own ho2)
 have HT3:=Lib.hid (HT1.out.below B2)
 have HBB:=Lib.hid htb
 have htot2:=zke htb
 have HB2:=Lib.hid (HB1.out.trans (B2.mono HB1.out.size))
 clear ho2 B2 htb HS2 HT1 HB1
 have hl1:=zev ta
 have hl2:=zev tb
 go_wp2_with fail
 go_loopw [5,6] (fun v5 v6 wr=>∃ ra rb:List ByteArray,Below w.heap.size w wr∧TlAt wr v5 ra∧TlAt wr v6 rb∧tot ra≤tot ta∧rb.length≤tb.length∧zaz (ta.map bs) (tb.map bs)=zaz (ra.map bs) (rb.map bs)) (fun v5 _ _=>lenV v5)
 case atStart=>exact⟨ta,tb,HB2.out,HT3.out,HT2.out,Nat.le_refl _,Nat.le_refl _,rfl⟩
 case round =>
  obtain⟨ra,rb,hB,h5,h6,hra,hrb,hway⟩:=hrel
  have HB:=Lib.hid hB
  clear hB
  have hcase:(∃ x ra' rb',ra=x :: ra'∧rb=x :: rb')∨(common (ra.map bs) (rb.map bs)=0∧(ra=[]∨ra≠[]∧rb=[]∨∃ x y ra' rb',ra=x :: ra'∧rb=y :: rb'∧x≠y)):=by
   cases ra with
   | nil=>exact .inr ⟨by simp[common],.inl rfl⟩
   | cons x ra' =>
    cases rb with
    | nil=>exact .inr ⟨by simp[common],.inr (.inl ⟨by simp,rfl⟩)⟩
    | cons y rb' =>
     by_cases e:x=y
     ·subst e;exact .inl ⟨x,ra',rb',rfl,rfl⟩
     ·refine .inr ⟨?_,.inr (.inr ⟨x,y,ra',rb',rfl,rfl,e⟩)⟩
      show (if bs x=bs y then _ else 0)=0
      rw[if_neg fun h=>e (by rw[←zfh x,h,zfh])]
  rcases hcase with ⟨x,ra',rb',rfl,rfl⟩ | ⟨hc0,hstop⟩
  ·obtain⟨b5,o5,c5,rfl,hc5,hx5,ht5⟩:=h5.open_
   obtain⟨b6,o6,c6,rfl,hc6,hx6,ht6⟩:=h6.open_
   have hw2:zaz ((x :: ra').map bs) ((x :: rb').map bs)=zaz (ra'.map bs) (rb'.map bs):=way_same
   have HW:=Lib.hid (hway.trans hw2)
   have hr1:tot ra'≤tot ta:=by rw[zmf] at hra;omega
   have hr2:rb'.length≤tb.length:=by rw[List.length_cons] at hrb;omega
   have k5:(0:Int)<((ra'.length+1:Nat):Int):=by omega
   have k6:(0:Int)<((rb'.length+1:Nat):Int):=by omega
   have kx:(x.toList == x.toList)=true:=beq_self_eq_true _
   clear hway hw2 h5 h6 hra hrb
   generalize hm5:ra'.length=m5 at *
   generalize hm6:rb'.length=m6 at *
   have H5:=Lib.hid ht5
   have H6:=Lib.hid ht6
   clear ht5 ht6
   go_wp2_with fail
   go_quiet (fail)
   go_wp2_with fail
   go_roundw
   case rel=>exact⟨ra',rb',below_drewN HB.out _,H5.out.drewN _,H6.out.drewN _,hr1,by omega,HW.out⟩
   case measure=>show m5<m5+1;omega
  ·have HWay:=Lib.hid (hway.trans (way_zero hc0))
   have H5:=Lib.hid h5
   obtain⟨a6,c6,e6⟩:=h6.shape
   obtain⟨a5,c5,e5⟩:=h5.shape
   have hrl:=zev ra
   have Hra:=Lib.hid hra
   have hstop2:(ra.length=0∨0<ra.length∧rb.length=0)∨∃ b5 o5 b6 o6 x y,a5=some ⟨b5,o5,none⟩∧a6=some ⟨b6,o6,none⟩∧0<ra.length∧0<rb.length∧ra.length≤c5∧rb.length≤c6∧wr.cell? ⟨b5,o5,none⟩=some (.string x)∧wr.cell? ⟨b6,o6,none⟩=some (.string y)∧x≠y:=by
    rcases hstop with rfl | ⟨hne,rfl⟩ | ⟨x,y,ra',rb',rfl,rfl,hxy⟩
    ·exact .inl (.inl rfl)
    ·exact .inl (.inr ⟨List.length_pos_iff.2 hne,rfl⟩)
    ·obtain⟨b5,o5,c5',q5,hc5,hx5,_⟩:=h5.open_
     obtain⟨b6,o6,c6',q6,hc6,hx6,_⟩:=h6.open_
     rw[e5] at q5
     rw[e6] at q6
     simp only [Value.slice.injEq] at q5 q6
     exact .inr ⟨b5,o5,b6,o6,x,y,q5.1,q6.1,by simp,by simp,by rw[q5.2.2];exact hc5,by rw[q6.2.2];exact hc6,hx5,hx6,hxy⟩
   subst e5 e6
   have HN5:Hid (∃ k,k=ra.length):=Lib.hid ⟨_,rfl⟩
   have HM:Hid (∀ i:Nat,i=rb.length→List.replicate rb.length up++ra=List.replicate i up++ra):=Lib.hid fun i e=>by rw[e]
   have HTot:Hid (tot ra≤100001):=Lib.hid (by omega)
   have hm1:rb.length≤200000:=by omega
   have hk1:ra.length≤200000:=by omega
   have HWy:Hid (Pt.text (zaz (Pt.parts (bs p)) (Pt.parts (bs q)))=Pt.text ((List.replicate rb.length up++ra).map bs)):=Lib.hid (by
    rw[←HA.out,←HBB.out,HWay.out,List.map_append,List.map_replicate,List.length_map];rfl)
   have HRl:Hid ((∃ k:Nat,k=rb.length)∧True):=Lib.hid ⟨⟨_,rfl⟩,trivial⟩
   clear h5 h6 hra hrb hway hc0 hstop hrl HWay HA HBB htot1 htot2 hl1 hl2 HT2 HT3 HB2 Hra
   generalize hgm:rb.length=m at *
   have HKn:Hid (∀ i o c,TlAt wr (.slice i o c) ra→o=ra.length):=Lib.hid fun i o c h=>by
    obtain⟨_,_,e,_⟩:=h
    cases e;rfl
   obtain⟨n5,hn5⟩:∃ n5,ra.length=n5:=⟨_,rfl⟩
   rw[hn5] at hstop2 H5 hk1 ⊢
   have HN:Hid (ra.length=n5):=Lib.hid hn5
   clear hn5 hgm HN5 HRl HKn
   obtain⟨w2,rfl⟩:∃ w2:World,w2=wr:=⟨wr,rfl⟩
   rcases hstop2 with (h50 | ⟨h5p,h60⟩) | ⟨b5,o5,b6,o6,x,y,rfl,rfl,h5p,h6p,hc5,hc6,hx5,hx6,hxy⟩
   all_goals try (have k5:decide (0<n5)=false:=decide_eq_false (by omega))
   all_goals try (have k5:(0:Int)<(n5:Int):=by omega)
   all_goals try (have k6:decide (0<m)=false:=decide_eq_false (by omega))
   all_goals try (have k6:(0:Int)<(m:Int):=by omega)
   all_goals try (have kx:(x.toList == y.toList)=false:=beq_eq_false_iff_ne.2 fun h=>hxy (by rw[←zfh x,←zfh y];exact congrArg str (by rw[Lib.toList_data,Lib.toList_data] at h;exact h)))
   all_goals try clear h50
   all_goals try clear h60
   all_goals go_wp2_with fail
   all_goals go_quiet (fail)
   all_goals go_wp2_with fail
   all_goals (
    have HB2:=Lib.hid (below_drewN HB.out nq)
    have H52:=Lib.hid (H5.out.drewN nq)
    generalize w2.drewN nq=w3 at *
    have HTl:Hid (tot (List.replicate m up++ra)≤140737488355327):=Lib.hid (by
     rw[zku]
     have h1:=HTot.out
     have h2:∀ n:Nat,tot (List.replicate n up)≤3 * n:=fun n=>by
      induction n with
      | zero=>exact Nat.le_refl _
      | succ n ih=>rw[List.replicate_succ,zmf];show 2+1+_≤_;omega
     have:=h2 m
     omega)
    go_loopw [7,8] (fun v7 v8 wr2=>∃ (i:Nat) (a:Option Addr) (c:Nat),v8=.int .i64 i∧v7=.slice a i c∧i≤m∧wr2.ownsRow w3.heap.size ST 1 (.slice a i c) i (strC (List.replicate i up))∧Below w3.heap.size w3 wr2) (fun _ v8 _=>m - (intOf v8).toNat)
    case atStart=>exact⟨0,none,0,rfl,rfl,Nat.zero_le _,World.ownsRow_nil _ _ _ _,Below.refl _ _⟩
    case round =>
     obtain⟨i,a,c,rfl,rfl,hi,hrow,hBr⟩:=hrel
     have hk0:(0:Int)≤(i:Int):=Int.natCast_nonneg _
     have hws:=hBr.size
     by_cases hlt:i<m
     ·have hki:(i:Int)<(m:Int):=by omega
      have HRow:=Lib.hid (hrow.alloc (.cells #[.string up] ST))
      have HLit:=Lib.hid (TlAt.lit wr up)
      have HBr:=Lib.hid (hBr.alloc hBr.size (.cells #[.string up] ST))
      have HLt:Hid (∀ j,(Value.slice a i c).ownBlock=some j→w3.heap.size≤j):=Lib.hid fun j e=>(hrow.lt j e).1
      clear hrow hBr
      go_wp2_with (at_builtin;refine zfo rfl _ _ rfl w3.heap.size _ i (List.replicate i up) [up] rfl HRow.out List.length_replicate _ rfl HLit.out (by simp;omega) HBr.out.size ?_;intro v' w5 hown' hgrow;obtain⟨a7,c7,rfl⟩:=zga hown')
      have hB5:=HBr.out.grown hgrow HBr.out.size HLt.out
      go_roundw
      case rel=>exact⟨i+1,a7,c7,by go_num,rfl,hlt,by rw[List.replicate_succ'];exact hown',hB5⟩
      case measure=>simp[intOf];omega
     ·obtain rfl:i=m:=by omega
      have hki:decide (i<i)=false:=decide_eq_false (by omega)
      have HRow:=Lib.hid hrow
      have HTa:=Lib.hid (H52.out.below hBr)
      have HBr:=Lib.hid hBr
      have HLt:Hid (∀ j,(Value.slice a i c).ownBlock=some j→w3.heap.size≤j):=Lib.hid fun j e=>(hrow.lt j e).1
      clear hrow hBr
      go_wp2_with (at_builtin;refine zfo rfl _ _ rfl w3.heap.size _ i (List.replicate i up) ra rfl HRow.out List.length_replicate _ rfl HTa.out (by rw[List.length_replicate];have:=HN.out;omega) HBr.out.size ?_;intro v' w5 hown' hgrow;have HO5:Hid (Strs w5 v' (List.replicate i up++ra)):=Lib.hid (zqu (base:=w3.heap.size) (by rw[List.length_append,List.length_replicate];exact hown'));have HB5:=Lib.hid (HBr.out.grown hgrow HBr.out.size HLt.out);clear hown' hgrow)
      have HTx:=Lib.hid (zsa w5 v' (List.replicate i up++ra) HO5.out (by rw[List.length_append,List.length_replicate];have:=HN.out;omega) HTl.out)
      rw[←HWy.out] at HTx
      refine HTx.out.mono ?_
      rintro e w6 ⟨rfl,rfl⟩
      go_wp2_with fail
      go_ret
      exact⟨rfl,HB2.out.trans (HB5.out.mono HB2.out.size)⟩)
end Dw
section
open Go.RowKit
theorem zoq {P:List (List UInt8)} (hP:∀ x∈P,Pt.Good x):zed (Pt.text P)=P:=by
 unfold zed
 by_cases h:P=[]
 ·subst h;rfl
 ·obtain⟨h1,_,h3⟩:=zfe hP h
  rw[if_neg h3,h1]
def Step (x:List UInt8):Prop:=x≠[]∧x≠[46]∧47∉x
theorem Step.of_good {x:List UInt8} (h:Pt.Good x):Step x:=⟨h.1,h.2.1,h.2.2.2⟩
theorem Step.up:Step [46,46]:=⟨by simp,by simp,by simp⟩
open Pt in
theorem inter_nil' {l:List Bs} (h:∀ x∈l,Step x):inter l=[]↔l=[]:=by
 constructor
 ·intro e
  match l,h,e with
  | [],_,_=>rfl
  | [a],h,e=>exact absurd e (h a (by simp)).1
  | a :: b :: r,h,e=>simp[inter] at e
 ·rintro rfl;rfl
theorem zns:∀ (a b:List (List UInt8)),a.take (common a b)=b.take (common a b)
 | [],b=>by simp[common]
 | a :: l,[]=>by simp[common]
 | a :: l,b :: r=>by
  unfold common
  split
  ·rename_i h;subst h;simp[zns l r]
  ·rfl
theorem step_way {P Q:List (List UInt8)} (hP:∀ x∈P,Pt.Good x):∀ x∈zaz P Q,Step x:=by
 intro x hx
 unfold zaz at hx
 rcases List.mem_append.1 hx with hx | hx
 ·rw[List.eq_of_mem_replicate hx];exact Step.up
 ·exact Step.of_good (hP x (List.mem_of_mem_drop hx))
theorem zqw {P Q:List (List UInt8)} (hP:∀ x∈P,Pt.Good x) (hQ:∀ x∈Q,Pt.Good x):way (Pt.text P) (Pt.text Q)=Pt.text (zaz P Q):=by
 unfold way
 rw[zoq hP,zoq hQ]
 unfold Pt.text
 by_cases h:zaz P Q=[]
 ·rw[h];rfl
 ·rw[if_neg h,if_neg (fun e=>h ((inter_nil' (step_way hP)).1 e))]
end
end Go.Proofs.YtgdpbnfgcabneaaGreatDoor

/- Part of the proof. -/
import Derived.Maps.Ext
import Derived.Test.YtgdpbnfgcabneaaGreatDoorQRefDirs
set_option maxRecDepth 100000
set_option maxHeartbeats 40000000
namespace Go.Proofs.YtgdpbnfgcabneaaGreatDoor
namespace Sp
open Go
abbrev Bs:=List UInt8
structure F where
 p:Bs
 t:Bs
 c:Int
 d:Bool
theorem F.ext' {f g:F} (h1:f.p=g.p) (h2:f.t=g.t) (h3:f.c=g.c) (h4:f.d=g.d):f=g:=by
 cases f;cases g;simp_all
def Sorted (L:List F):Prop:=L.Pairwise fun a b=>a.p<b.p
theorem zdd (a:Bs):¬ a<a:=List.lt_irrefl a
theorem ziq {a b c:Bs} (h:a<b) (k:b<c):a<c:=List.lt_trans h k
theorem zjs {a b:Bs} (h:a<b):a≠b:=fun e=>zdd b (e▸h)
theorem lt_or {a b:Bs} (h:¬ a<b) (k:a≠b):b<a:=by
 rcases List.le_iff_lt_or_eq.1 (List.not_lt.1 h) with h | h
 ·exact h
 ·exact absurd h.symm k
theorem zdk:∀ (a b:Bs),bytesBefore a b=decide (a<b)
 | [],[]=>by simp[bytesBefore]
 | [],_ :: _=>by simp[bytesBefore]
 | _ :: _,[]=>by simp[bytesBefore]
 | a :: r,b :: s=>by
  rw[bytesBefore,zdk r s]
  simp only [List.cons_lt_cons_iff]
  by_cases h1:a<b<;>by_cases h2:a=b<;>by_cases h3:r<s<;>simp[h1,h2,h3]
def pos:List F→Bs→Nat×Bool
 | [],_=>(0,false)
 | f :: r,p=>if f.p=p then (0,true) else if p<f.p then (0,false) else ((pos r p).1+1,(pos r p).2)
def ins:List F→F→List F
 | [],f=>[f]
 | g :: r,f=>if g.p=f.p then f :: r else if f.p<g.p then f :: g :: r else g :: ins r f
def get (L:List F) (p:Bs):Option F:=L.find? fun f=>f.p == p
theorem zna:∀ (L:List F) (p:Bs),(pos L p).1≤L.length
 | [],_=>by simp[pos]
 | f :: r,p=>by
  unfold pos
  have:=zna r p
  split
  ·simp
  ·split
   ·simp
   ·simp;omega
theorem pos_lt:∀ (L:List F) (p:Bs),(pos L p).2=true→(pos L p).1<L.length
 | [],_,h=>by simp[pos] at h
 | f :: r,p,h=>by
  unfold pos at h ⊢
  split at h
  ·rename_i e;rw[if_pos e];simp
  ·rename_i e
   rw[if_neg e]
   split at h
   ·cases h
   ·rename_i e2
    rw[if_neg e2]
    have:=pos_lt r p h
    simp;omega
theorem zkz:∀ (L:List F) (f:F),ins L f=L.take (pos L f.p).1++f :: L.drop ((pos L f.p).1+if (pos L f.p).2 then 1 else 0)
 | [],f=>by simp[ins]
 | g :: r,f=>by
  unfold ins pos
  split
  ·simp
  ·split
   ·simp
   ·rw[zkz r f,Nat.add_right_comm]
    simp
theorem zcn:∀ {L:List F} {f:F},Sorted L→∀ g,g∈ins L f↔g=f∨(g∈L∧g.p≠f.p)
 | [],f,_,g=>by simp[ins]
 | h :: r,f,hs,g=>by
  obtain⟨h1,h2⟩:=List.pairwise_cons.1 hs
  unfold ins
  split
  ·rename_i e
   constructor
   ·intro hg
    rcases List.mem_cons.1 hg with rfl | hg
    ·exact .inl rfl
    ·exact .inr ⟨List.mem_cons_of_mem _ hg,fun e2=>zjs (h1 g hg) (e.trans e2.symm)⟩
   ·rintro (rfl | ⟨hg,hn⟩)
    ·simp
    ·rcases List.mem_cons.1 hg with rfl | hg
     ·exact absurd e hn
     ·simp[hg]
  ·split
   ·rename_i e e2
    constructor
    ·intro hg
     rcases List.mem_cons.1 hg with rfl | hg
     ·exact .inl rfl
     ·refine .inr ⟨hg,fun e3=>?_⟩
      rcases List.mem_cons.1 hg with rfl | hg
      ·exact e e3
      ·exact zdd _ (e3▸ziq e2 (h1 g hg))
    ·rintro (rfl | ⟨hg,_⟩)
     ·simp
     ·exact List.mem_cons_of_mem _ hg
   ·rename_i e e2
    rw[List.mem_cons,zcn h2 g]
    constructor
    ·rintro (rfl | rfl | ⟨hg,hn⟩)
     ·exact .inr ⟨by simp,e⟩
     ·exact .inl rfl
     ·exact .inr ⟨List.mem_cons_of_mem _ hg,hn⟩
    ·rintro (rfl | ⟨hg,hn⟩)
     ·exact .inr (.inl rfl)
     ·rcases List.mem_cons.1 hg with rfl | hg
      ·exact .inl rfl
      ·exact .inr (.inr ⟨hg,hn⟩)
theorem zby:∀ {L:List F} {f:F},Sorted L→Sorted (ins L f)
 | [],f,_=>by simp[ins,Sorted]
 | h :: r,f,hs=>by
  obtain⟨h1,h2⟩:=List.pairwise_cons.1 hs
  unfold ins
  split
  ·rename_i e
   exact List.pairwise_cons.2 ⟨fun g hg=>e▸h1 g hg,h2⟩
  ·split
   ·rename_i e e2
    refine List.pairwise_cons.2 ⟨fun g hg=>?_,hs⟩
    rcases List.mem_cons.1 hg with rfl | hg
    ·exact e2
    ·exact ziq e2 (h1 g hg)
   ·rename_i e e2
    refine List.pairwise_cons.2 ⟨fun g hg=>?_,zby h2⟩
    rcases (zcn h2 g).1 hg with rfl | ⟨hg,_⟩
    ·exact lt_or e2 (fun e3=>e e3.symm)
    ·exact h1 g hg
theorem znu:∀ (L:List F) (f:F),(ins L f).length=if (pos L f.p).2 then L.length else L.length+1
 | [],f=>by simp[ins,pos]
 | g :: r,f=>by
  unfold ins pos
  split
  ·simp
  ·split
   ·simp
   ·have:=znu r f
    simp only [List.length_cons,this]
    split<;>rfl
theorem zeo:∀ {L M:List F},Sorted L→Sorted M→(∀ g,g∈L↔g∈M)→L=M
 | [],[],_,_,_=>rfl
 | [],b :: s,_,_,h=>by have:=(h b).2 (by simp);simp at this
 | a :: r,[],_,_,h=>by have:=(h a).1 (by simp);simp at this
 | a :: r,b :: s,h1,h2,h=>by
  obtain⟨a1,a2⟩:=List.pairwise_cons.1 h1
  obtain⟨b1,b2⟩:=List.pairwise_cons.1 h2
  have hab:a=b:=by
   rcases List.mem_cons.1 ((h a).1 (by simp)) with e | ha
   ·exact e
   ·rcases List.mem_cons.1 ((h b).2 (by simp)) with e | hb
    ·exact e.symm
    ·exact absurd (ziq (a1 b hb) (b1 a ha)) (zdd _)
  subst hab
  rw[zeo a2 b2 fun g=>⟨fun hg=>by
   rcases List.mem_cons.1 ((h g).1 (by simp[hg])) with e | hg'
   ·exact absurd (a1 g hg) (by rw[e];exact zdd _)
   ·exact hg',fun hg=>by
   rcases List.mem_cons.1 ((h g).2 (by simp[hg])) with e | hg'
   ·exact absurd (b1 g hg) (by rw[e];exact zdd _)
   ·exact hg'⟩]
theorem zep {L:List F} (h:Sorted L) {f g:F} (hf:f∈L) (hg:g∈L) (e:f.p=g.p):f=g:=by
 induction L with
 | nil=>cases hf
 | cons a r ih =>
  obtain⟨h1,h2⟩:=List.pairwise_cons.1 h
  rcases List.mem_cons.1 hf with ef | hf'
  ·rcases List.mem_cons.1 hg with eg | hg'
   ·rw[ef,eg]
   ·exact absurd (ef▸e) (zjs (h1 g hg'))
  ·rcases List.mem_cons.1 hg with eg | hg'
   ·exact absurd (eg▸e).symm (zjs (h1 f hf'))
   ·exact ih h2 hf' hg'
theorem zgm {L:List F} (hs:Sorted L) {p:Bs} {f:F}:get L p=some f↔f∈L∧f.p=p:=by
 unfold get
 constructor
 ·intro h
  exact⟨List.mem_of_find?_eq_some h,by have:=List.find?_some h;simpa using this⟩
 ·rintro ⟨h1,h2⟩
  cases h:L.find? (fun f=>f.p == p) with
  | none=>have:=List.find?_eq_none.1 h f h1;simp[h2] at this
  | some g =>
   have h3:=List.mem_of_find?_eq_some h
   have h4:=List.find?_some h
   rw[zep hs h3 h1 (by rw[h2];simpa using h4)]
theorem zgg {L:List F} {p:Bs}:get L p=none↔∀ f∈L,f.p≠p:=by
 unfold get
 rw[List.find?_eq_none]
 simp
theorem zwb:∀ {L:List F} {p:Bs},Sorted L→(pos L p).2=(get L p).isSome∧∀ f,get L p=some f→L[(pos L p).1]?=some f
 | [],p,_=>by simp[pos,get]
 | g :: r,p,hs=>by
  obtain⟨h1,h2⟩:=List.pairwise_cons.1 hs
  obtain⟨i1,i2⟩:=zwb (p:=p) h2
  unfold pos get
  by_cases e:g.p=p
  ·rw[if_pos e];simp[e]
  ·rw[if_neg e,List.find?_cons,show (g.p == p)=false by simpa using e]
   by_cases e2:p<g.p
   ·rw[if_pos e2]
    have:r.find? (fun f=>f.p == p)=none:=by
     rw[List.find?_eq_none]
     intro f hf e3
     have e4:f.p=p:=by simpa using e3
     have:=h1 f hf
     rw[e4] at this
     exact zdd _ (ziq e2 this)
    simp[this]
   ·rw[if_neg e2]
    refine⟨i1,fun f hf=>?_⟩
    rw[List.getElem?_cons_succ]
    exact i2 f hf
theorem zrq {L:List F} {p:Bs} {f:F} (hs:Sorted L) (h:get L p=some f):(pos L p).2=true∧L[(pos L p).1]?=some f:=by
 obtain⟨a,b⟩:=zwb (p:=p) hs
 exact⟨by rw[a,h];rfl,b f h⟩
theorem zsj {L:List F} {p:Bs} (hs:Sorted L) (h:get L p=none):(pos L p).2=false:=by rw[(zwb hs).1,h];rfl
theorem zia {L:List F} {f:F} (hs:Sorted L) (h:get L f.p=none):(ins L f).length=L.length+1:=by rw[znu,zsj hs h];rfl
def fD (f:F):DataW Unit:=.agg [.lit (.string f.p),.lit (.string f.t),.lit (.int .i64 f.c),.lit (.bool f.d)]
def ent (f:F):Lit×DataW Unit:=(.string f.p,fD f)
def mapOf (L:List F):DataW Unit:=.map (L.map ent)
theorem zmo {f g:F} (h:fD f=fD g):f=g:=by
 unfold fD at h
 simp only [DataW.agg.injEq,List.cons.injEq,DataW.lit.injEq,Lit.string.injEq,Lit.int.injEq,Lit.bool.injEq,and_true,true_and] at h
 exact F.ext' h.1 h.2.1 h.2.2.1 h.2.2.2
theorem zcv (L:List F):Maps.size (mapOf L)=L.length:=by show (L.map ent).length=_;simp
theorem same_str (a b:Bs):(Lit.string a).sameKey (.string b)=(a == b):=rfl
theorem zdm (L:List F) (p:Bs):Maps.has (mapOf L) (.string p)=(get L p).isSome:=by
 show (L.map ent).any _=(L.find? _).isSome
 rw[List.any_map,Bool.eq_iff_iff,List.find?_isSome,List.any_eq_true];rfl
theorem zcu {L:List F} {p:Bs} {f:F} (h:get L p=some f) (z:DataW Unit):(mapOf L).atKey (.string p) z=fD f:=by
 unfold mapOf DataW.atKey
 simp only []
 rw[List.find?_map,show ((fun q:Lit×DataW Unit=>q.1.sameKey (.string p)) ∘ ent)=(fun f=>f.p == p) from rfl,show L.find? (fun f=>f.p == p)=some f from h]
 rfl
theorem zdi {L:List F} {p:Bs} (h:get L p=none) (z:DataW Unit):(mapOf L).atKey (.string p) z=z:=by
 unfold mapOf DataW.atKey
 simp only []
 rw[List.find?_map,show ((fun q:Lit×DataW Unit=>q.1.sameKey (.string p)) ∘ ent)=(fun f=>f.p == p) from rfl,show L.find? (fun f=>f.p == p)=none from h]
 rfl
theorem zfa {L:List F} {p:Bs} (h:∀ f∈L,f.p≠p):(L.map ent).filter (fun q=>!q.1.sameKey (.string p))=L.map ent:=by
 refine List.filter_eq_self.2 fun q hq=>?_
 obtain⟨f,hf,rfl⟩:=List.mem_map.1 hq
 show (!(f.p == p))=true
 have:=h f hf
 simpa using this
theorem zfp:∀ {L:List F} {f:F},Sorted L→(mapOf L).put (.string f.p) (fD f)=mapOf (ins L f)
 | [],f,_=>rfl
 | g :: r,f,hs=>by
  obtain⟨h1,h2⟩:=List.pairwise_cons.1 hs
  have ih:=zfp (f:=f) h2
  have ih':DataW.insert (ent f) ((r.map ent).filter fun q=>!q.1.sameKey (.string f.p))=(ins r f).map ent:=by
   have:DataW.map (DataW.insert (ent f) ((r.map ent).filter fun q=>!q.1.sameKey (.string f.p)))=mapOf (ins r f):=ih
   exact(DataW.map.injEq _ _).mp this
  show DataW.map (DataW.insert (ent f) ((ent g :: r.map ent).filter fun q=>!q.1.sameKey (.string f.p)))=.map ((ins (g :: r) f).map ent)
  congr 1
  unfold ins
  by_cases e:g.p=f.p
  ·have e1:(ent g).1.sameKey (.string f.p)=true:=by show (g.p == f.p)=true;simpa using e
   rw[if_pos e,List.filter_cons,if_neg (by rw[e1];simp),zfa (fun x hx e2=>zjs (h1 x hx) (e.trans e2.symm))]
   cases r with
   | nil=>rfl
   | cons x r =>
    show DataW.insert (ent f) (ent x :: r.map ent)=_
    unfold DataW.insert
    have:(ent f).1.before (ent x).1=true:=by
     show bytesBefore f.p x.p=true
     rw[zdk,←e];simpa using h1 x (by simp)
    rw[if_pos this];rfl
  ·have e1:(ent g).1.sameKey (.string f.p)=false:=by show (g.p == f.p)=false;simpa using e
   rw[if_neg e,List.filter_cons,if_pos (by rw[e1];rfl)]
   by_cases e2:f.p<g.p
   ·rw[if_pos e2,zfa (fun x hx e3=>zdd _ (e3▸ziq e2 (h1 x hx)))]
    unfold DataW.insert
    have:(ent f).1.before (ent g).1=true:=by
     show bytesBefore f.p g.p=true
     rw[zdk];simpa using e2
    rw[if_pos this];rfl
   ·rw[if_neg e2]
    unfold DataW.insert
    have:¬ (ent f).1.before (ent g).1=true:=by
     show ¬ bytesBefore f.p g.p=true
     rw[zdk];simpa using e2
    rw[if_neg this,ih'];rfl
end Sp
namespace Sw
open Go.RowKit
theorem Load_any (w:World) (b o:Nat) (c:Int) (hc:w.cell? ⟨b,o,none⟩=some (.int .i64 c)) :
  Calls Tryz.prog 161 #[.pointer (some ⟨b,o,none⟩)] w fun e w'=>e=.returned (.int .i64 c)∧w=w':=by
 have hl:=run_call_load (P:=Tryz.prog) Tryz.func232 (by kernel_rfl) (by kernel_rfl) (by kernel_rfl) .i64 (by kernel_rfl) hc
 go_enter Tryz.func161,Tryz.ntmps161
 go_wp2
 go_ret
 exact⟨rfl,rfl⟩
theorem Stor_any (w:World) (b o:Nat) (c y:Int) (hc:w.cell? ⟨b,o,none⟩=some (.int .i64 c)) (hz:w.frozen? ⟨b,o,none⟩=false) :
  Calls Tryz.prog 160 #[.pointer (some ⟨b,o,none⟩),.int .i64 y] w fun e w'=>e=.returned (.tuple #[])∧w'=w.setCell ⟨b,o,none⟩ (.int .i64 y):=by
 have hl:=run_call_store (P:=Tryz.prog) Tryz.func231 (by kernel_rfl) (by kernel_rfl) (by kernel_rfl) (by kernel_rfl) (k:=.i64) (y:=y) hc hz
 go_enter Tryz.func160,Tryz.ntmps160
 go_wp2
 go_end0
 exact⟨rfl,rfl⟩
open Go.Maps
abbrev F:=Sp.F
def fV (f:F):Value:=.agg #[.string (str f.p),.string (str f.t),.int .i64 f.c,.bool f.d]
def fC (f:F):List Value:=[.string (str f.p),.string (str f.t),.int .i64 f.c,.bool f.d]
def zid:Value→Option (DataW Unit×List MemPlace)
 | .agg cs=>match cs.toList with
  | [.string p,.string t,.int .i64 c,.bool d]=>some (Sp.fD ⟨bs p,bs t,c,d⟩,[])
  | _=>none
 | _=>none
theorem zgu (f:F):zid (fV f)=some (Sp.fD f,[]):=rfl
theorem zfx {v:Value} {z:DataW Unit×List MemPlace} (h:zid v=some z):∃ f,v=fV f∧z=(Sp.fD f,[]):=by
 unfold zid at h
 split at h
 ·rename_i cs
  split at h
  ·rename_i p t c d e
   cases h
   refine⟨⟨bs p,bs t,c,d⟩,?_,rfl⟩
   unfold fV
   rw[zfh,zfh]
   congr 1
   exact Array.toList_inj.1 e
  ·cases h
 ·cases h
theorem key:Keyed Tryz.prog 9:=string_keyed Tryz.underlying9
theorem zfd {p:ByteArray} (h:p.size≤maxLen):keyOf Tryz.prog 9 (.string p)=some (.string (bs p)):=WideMaps.keyOf_string_mk Tryz.underlying9 h
def noF:F:=⟨[],[],0,false⟩
theorem zeroF (w:World):(zeroValue 29).run Tryz.prog w=.ok (fV noF) w:=by kernel_rfl
structure MapAt (w:World) (bm:Nat) (L:List F):Prop where
 own:w.ownsMap Tryz.prog 9 zid bm L.length (Sp.mapOf L)
 sorted:Sp.Sorted L
theorem zow {w:World} {b n:Nat} {D:DataW Unit} (h:w.ownsMap Tryz.prog 9 zid b n D):w.ownsMap Tryz.prog 9 zid b (Maps.size D) D:=by
 obtain⟨es,clock,hb,Ft,_,rfl⟩:=h
 exact⟨es,clock,hb,Ft,by simp[Maps.size,length_sorted],rfl⟩
theorem MapAt.of_own {w:World} {bm n:Nat} {L:List F} (h:w.ownsMap Tryz.prog 9 zid bm n (Sp.mapOf L)) (hs:Sp.Sorted L):MapAt w bm L:=by
 have:=zow h
 rw[Sp.zcv] at this
 exact⟨this,hs⟩
structure Kept (X:List Nat) (w w':World):Prop where
 os:w'.os=w.os
 tape:w'.tape=w.tape
 output:w'.output=w.output
 size:w.heap.size≤w'.heap.size
 block:∀ i,i<w.heap.size→i∉X→w'.heap[i]?=w.heap[i]?
theorem Kept.refl (X:List Nat) (w:World):Kept X w w:=⟨rfl,rfl,rfl,Nat.le_refl _,fun _ _ _=>rfl⟩
theorem Kept.trans {X:List Nat} {a b c:World} (h:Kept X a b) (k:Kept X b c):Kept X a c :=
 ⟨k.os.trans h.os,k.tape.trans h.tape,k.output.trans h.output,Nat.le_trans h.size k.size,fun i hi hx=>(k.block i (Nat.lt_of_lt_of_le hi h.size) hx).trans (h.block i hi hx)⟩
theorem Kept.mono {X Y:List Nat} {a b:World} (h:Kept X a b) (hs:∀ i,i∈X→i∈Y):Kept Y a b :=
 ⟨h.os,h.tape,h.output,h.size,fun i hi hx=>h.block i hi fun e=>hx (hs i e)⟩
theorem Kept.of_below {X:List Nat} {a b:World} (h:Below a.heap.size a b):Kept X a b:=⟨h.os,h.tape,h.output,h.size,fun i hi _=>h.block i hi⟩
theorem Kept.below {X:List Nat} {a b c:World} (h:Kept X a b) (k:Below b.heap.size b c):Kept X a c:=h.trans (.of_below k)
theorem Kept.alloc {X:List Nat} {a b:World} (h:Kept X a b) (o:Obj):Kept X a (b.alloc o):=h.below ((Below.refl _ b).alloc (Nat.le_refl _) o)
theorem Kept.drewN {X:List Nat} {a b:World} (h:Kept X a b) (n:Nat):Kept X a (b.drewN n):=⟨h.os,h.tape,h.output,h.size,h.block⟩
theorem Kept.setCell {X:List Nat} {a b:World} (h:Kept X a b) {p:Addr} (hp:p.block∈X∨a.heap.size≤p.block) (u:Value):Kept X a (b.setCell p u) :=
 ⟨h.os,h.tape,h.output,by simpa[World.setCell] using h.size,fun i hi hx=>(Below.heap_setCell _ _ _ _ (by
  rcases hp with hp | hp
  ·exact fun e=>hx (e▸hp)
  ·omega)).trans (h.block i hi hx)⟩
theorem Kept.grown {X:List Nat} {a b c:World} {row:Option Nat} (h:Kept X a b) (hg:b.grownBy c row) (hr:∀ r,row=some r→r∈X∨a.heap.size≤r):Kept X a c :=
 ⟨hg.os.trans h.os,hg.tape.trans h.tape,hg.output.trans h.output,Nat.le_trans h.size hg.size,fun i hi hx=>(hg.block i (Nat.lt_of_lt_of_le hi h.size) (fun e=>by
  rcases hr i e.symm with hr | hr
  ·exact hx hr
  ·omega)).trans (h.block i hi hx)⟩
theorem Kept.to_below {X:List Nat} {a b:World} {B:Nat} (h:Kept X a b) (hB:B≤a.heap.size) (hX:∀ i∈X,B≤i):Below B a b :=
 ⟨h.os,h.tape,h.output,h.size,fun i hi=>h.block i (by omega) fun e=>by have:=hX i e;omega⟩
theorem Kept.cell {X:List Nat} {a b:World} (h:Kept X a b) {p:Addr} (hp:p.block<a.heap.size) (hx:p.block∉X):b.cell? p=a.cell? p:=World.cell?_of_block (w:=a) (h.block p.block hp hx)
theorem Kept.frozen {X:List Nat} {a b:World} (h:Kept X a b) {p:Addr} (hp:p.block<a.heap.size) (hx:p.block∉X):b.frozen? p=a.frozen? p:=World.frozen?_of_block (w:=a) (h.block p.block hp hx)
theorem MapAt.lt {w:World} {bm:Nat} {L:List F} (h:MapAt w bm L):bm<w.heap.size:=h.own.lt
theorem MapAt.block {w w':World} {bm:Nat} {L:List F} (h:MapAt w bm L) (hb:w'.heap[bm]?=w.heap[bm]?):MapAt w' bm L:=by
 obtain⟨⟨es,clock,hh,r⟩,s⟩:=h
 exact⟨⟨es,clock,hb.trans hh,r⟩,s⟩
theorem MapAt.kept {X:List Nat} {w w':World} {bm:Nat} {L:List F} (h:MapAt w bm L) (hk:Kept X w w') (hx:bm∉X):MapAt w' bm L:=h.block (hk.block _ h.lt hx)
theorem MapAt.below {w w':World} {bm:Nat} {L:List F} (h:MapAt w bm L) (hk:Below w.heap.size w w'):MapAt w' bm L:=h.block (hk.block _ h.lt)
theorem MapAt.alloc {w:World} {bm:Nat} {L:List F} (h:MapAt w bm L) (o:Obj):MapAt (w.alloc o) bm L:=h.below ((Below.refl _ w).alloc (Nat.le_refl _) o)
theorem MapAt.setCell {w:World} {bm:Nat} {L:List F} (h:MapAt w bm L) {p:Addr} (hp:bm≠p.block) (u:Value):MapAt (w.setCell p u) bm L:=h.block (Below.heap_setCell _ _ _ _ hp)
structure StoreAt (w:World) (sb bm:Nat) (L:List F) (c:Int):Prop where
 cells:w.heap[sb]?=some (.cells #[.int .i64 c,.map (some bm)] 180 (0,0))
 map:MapAt w bm L
theorem StoreAt.lt {w:World} {sb bm:Nat} {L:List F} {c:Int} (h:StoreAt w sb bm L c):sb<w.heap.size:=(Array.getElem?_eq_some_iff.1 h.cells).1
theorem StoreAt.ne {w:World} {sb bm:Nat} {L:List F} {c:Int} (h:StoreAt w sb bm L c):bm≠sb:=by
 intro e
 obtain⟨⟨es,clock,hh,_⟩,_⟩:=h.map
 rw[e,h.cells] at hh;cases hh
theorem StoreAt.c0 {w:World} {sb bm:Nat} {L:List F} {c:Int} (h:StoreAt w sb bm L c):w.cell? ⟨sb,0,none⟩=some (.int .i64 c):=by simp[World.cell?,h.cells]
theorem StoreAt.c1 {w:World} {sb bm:Nat} {L:List F} {c:Int} (h:StoreAt w sb bm L c):w.cell? ⟨sb,1,none⟩=some (.map (some bm)):=by simp[World.cell?,h.cells]
theorem StoreAt.f0 {w:World} {sb bm:Nat} {L:List F} {c:Int} (h:StoreAt w sb bm L c):w.frozen? ⟨sb,0,none⟩=false:=by simp[World.frozen?,h.cells]
theorem StoreAt.kept {X:List Nat} {w w':World} {sb bm:Nat} {L:List F} {c:Int} (h:StoreAt w sb bm L c) (hk:Kept X w w') (hs:sb∉X) (hb:bm∉X):StoreAt w' sb bm L c :=
 ⟨(hk.block _ h.lt hs).trans h.cells,h.map.kept hk hb⟩
theorem StoreAt.below {w w':World} {sb bm:Nat} {L:List F} {c:Int} (h:StoreAt w sb bm L c) (hk:Below w.heap.size w w'):StoreAt w' sb bm L c :=
 ⟨(hk.block _ h.lt).trans h.cells,h.map.below hk⟩
theorem StoreAt.alloc {w:World} {sb bm:Nat} {L:List F} {c:Int} (h:StoreAt w sb bm L c) (o:Obj):StoreAt (w.alloc o) sb bm L c:=h.below ((Below.refl _ w).alloc (Nat.le_refl _) o)
theorem MapAt.len {w:World} {bm:Nat} {L:List F} (h:MapAt w bm L) (ty:TypeId):(Builtin.len_ #[178] ty #[.map (some bm)]).run Tryz.prog w=.ok (.int .i64 L.length) w:=by
 have:=h.own.len (t:=178) (e:=29) Tryz.underlying178 ty
 rwa[Sp.zcv] at this
theorem MapAt.run_yes {w:World} {bm:Nat} {L:List F} (h:MapAt w bm L) {p:ByteArray} {f:F} (hp:p.size≤maxLen) (hf:Sp.get L (bs p)=some f) :
  (Instr.lookup 178 (.map (some bm)) (.string p) true).run Tryz.prog w=.ok (.tuple #[.agg #[.string (str f.p),.string (str f.t),.int .i64 f.c,.bool f.d],.bool true]) w:=by
 obtain⟨v,ps,hrun,hv⟩:=h.own.look_ok key Tryz.underlying178 (zeroF w) (zgu noF) (zfd hp)
 obtain⟨g,rfl,hg'⟩:=zfx hv
 rw[Sp.zcu hf] at hg'
 obtain rfl:=Sp.zmo (congrArg Prod.fst hg')
 rw[Sp.zdm,hf] at hrun
 exact hrun
theorem MapAt.run_no {w:World} {bm:Nat} {L:List F} (h:MapAt w bm L) {p:ByteArray} (hp:p.size≤maxLen) (hf:Sp.get L (bs p)=none) :
  (Instr.lookup 178 (.map (some bm)) (.string p) true).run Tryz.prog w=.ok (.tuple #[.agg #[.string ⟨#[]⟩,.string ⟨#[]⟩,.int .i64 0,.bool false],.bool false]) w:=by
 obtain⟨v,ps,hrun,hv⟩:=h.own.look_ok key Tryz.underlying178 (zeroF w) (zgu noF) (zfd hp)
 obtain⟨g,rfl,hg'⟩:=zfx hv
 rw[Sp.zdi hf] at hg'
 obtain rfl:=Sp.zmo (congrArg Prod.fst hg')
 rw[Sp.zdm,hf] at hrun
 exact hrun
section
variable {P:Program} (w:World) {ops:Array Oper} {rest:List Oper} {o:Oper} {a:Act} {Q:Exit→Act→World→Prop}
theorem zoa (hg:o.guard=none) (m x:Operand) (hop:o.op=Op.lookup 178 m x true) {bm:Nat} {L:List F} {p:ByteArray} {f:F} (hm:a.eval m=.map (some bm)) (hx:a.eval x=.string p)
  (hM:MapAt w bm L) (hp:p.size≤maxLen) (hf:Hid (Sp.get L (bs p)=some f)) (hK:wpList Tryz.prog ops Q rest (a.put o.dst (.tuple #[.agg #[.string (str f.p),.string (str f.t),.int .i64 f.c,.bool f.d],.bool true])) w):wpList Tryz.prog ops Q (o :: rest) a w:=by
 refine wpList_lookup_own_ok w hg m x _ hop 9 29 key Tryz.underlying178 zid (zeroF w) _ _ (zgu noF) bm _ _ hm hM.own _ _ hx (zfd hp) ?_
 intro v ps hv
 obtain⟨g,rfl,hg'⟩:=zfx hv
 rw[Sp.zcu hf.out] at hg'
 obtain rfl:=Sp.zmo (congrArg Prod.fst hg')
 rw[Sp.zdm,hf.out]
 exact hK
theorem zpb (hg:o.guard=none) (m x:Operand) (hop:o.op=Op.lookup 178 m x true) {bm:Nat} {L:List F} {p:ByteArray} (hm:a.eval m=.map (some bm)) (hx:a.eval x=.string p)
  (hM:MapAt w bm L) (hp:p.size≤maxLen) (hf:Hid (Sp.get L (bs p)=none)) (hK:wpList Tryz.prog ops Q rest (a.put o.dst (.tuple #[.agg #[.string ⟨#[]⟩,.string ⟨#[]⟩,.int .i64 0,.bool false],.bool false])) w):wpList Tryz.prog ops Q (o :: rest) a w:=by
 refine wpList_lookup_own_ok w hg m x _ hop 9 29 key Tryz.underlying178 zid (zeroF w) _ _ (zgu noF) bm _ _ hm hM.own _ _ hx (zfd hp) ?_
 intro v ps hv
 obtain⟨g,rfl,hg'⟩:=zfx hv
 rw[Sp.zdi hf.out] at hg'
 obtain rfl:=Sp.zmo (congrArg Prod.fst hg')
 rw[Sp.zdm,hf.out]
 exact hK
theorem zib (hg:o.guard=none) (m x:Operand) (hop:o.op=Op.lookup 178 m x false) {bm:Nat} {L:List F} {p:ByteArray} {f:F} (hm:a.eval m=.map (some bm)) (hx:a.eval x=.string p)
  (hM:MapAt w bm L) (hp:p.size≤maxLen) (hf:Hid ((Sp.get L (bs p)).getD noF=f)) (hK:wpList Tryz.prog ops Q rest (a.put o.dst (.agg #[.string (str f.p),.string (str f.t),.int .i64 f.c,.bool f.d])) w):wpList Tryz.prog ops Q (o :: rest) a w:=by
 refine wpList_plain hg fun K' hK'=>?_
 obtain⟨v,ps,hrun,hv⟩:=hM.own.lookup key Tryz.underlying178 (zeroF w) (zgu noF) (zfd hp)
 obtain⟨g,rfl,hg'⟩:=zfx hv
 have e:g=f:=by
  rw[←hf.out]
  cases h:Sp.get L (bs p) with
  | none=>rw[Sp.zdi h] at hg';exact(Sp.zmo (congrArg Prod.fst hg')).symm
  | some x=>rw[Sp.zcu h] at hg';exact(Sp.zmo (congrArg Prod.fst hg')).symm
 subst e
 unfold Oper.wp
 simp[execOp,hop,hm,hx,hrun,Result.andThen]
 exact hK' _ _ hK
theorem zdq (hg:o.guard=none) (m:Operand) (hop:o.op=Op.call { callee:=Callee.builtin Builtin.len,args:=#[m],argTypes:=#[178] }) {bm:Nat} {L:List F} (hm:a.eval m=.map (some bm)) (hM:MapAt w bm L)
  (hK:wpList Tryz.prog ops Q rest (a.put o.dst (.int .i64 L.length)) w):wpList Tryz.prog ops Q (o :: rest) a w:=by
 refine wpList_len_own w hg m _ hop 9 29 Tryz.underlying178 zid bm _ _ hm hM.own ?_
 rw[Sp.zcv];exact hK
theorem zfw (hg:o.guard=none) (m x v:Operand) (hop:o.op=Op.mapUpdate 178 m x v) {bm:Nat} {L:List F} {f:F} (hm:a.eval m=.map (some bm)) (hx:a.eval x=.string (str f.p)) (hv:a.eval v=fV f)
  (hM:MapAt w bm L) (hp:f.p.length≤maxLen) (hn:L.length<maxLen) (hK:∀ w',MapAt w' bm (Sp.ins L f)→w.mapTurned w' bm→wpList Tryz.prog ops Q rest (a.put o.dst undef) w'):wpList Tryz.prog ops Q (o :: rest) a w:=by
 refine wpList_mapUpdate_in w hg m x v _ hop 9 29 key Tryz.underlying178 zid bm _ _ hm hM.own hn _ _ _ hx hv (zfd (by rw[←zax,zas];exact hp)) _ [] (zgu f) ?_
 intro w' hown ht
 rw[zas,Sp.zfp hM.sorted] at hown
 exact hK w' (MapAt.of_own hown (Sp.zby hM.sorted)) ht
end
theorem zca (w:World) (o:Obj) {n:Nat} (h:w.heap.size=n):(w.alloc o).heap[n]?=some o:=by subst h;exact Array.getElem?_push_size
theorem zaa {w:World} {n i:Nat} {cs:Array Value} {T:TypeId} {v:Value} (h:w.heap[n]?=some (.cells cs T (0,0))) (hv:cs[i]?=some v):w.cell? ⟨n,i,none⟩=some v:=by simp[World.cell?,h,hv]
theorem zad {w:World} {n:Nat} {cs:Array Value} {T:TypeId} (h:w.heap[n]?=some (.cells cs T (0,0))) (i:Nat):w.frozen? ⟨n,i,none⟩=false:=by simp[World.frozen?,h]
end Sw
end Go.Proofs.YtgdpbnfgcabneaaGreatDoor

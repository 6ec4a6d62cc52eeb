/- Part of the proof. -/
import Derived.Test.YtgdpbnfgcabneaaGreatDoorShelf
import Derived.Test.YtgdpbnfgcabneaaGreatDoorQJoin
set_option maxRecDepth 100000
set_option maxHeartbeats 40000000
namespace Go.Proofs.YtgdpbnfgcabneaaGreatDoor
namespace Gl
abbrev Bs:=List UInt8
inductive Pl where
 | star
 | any
 | br (t:Bs)
 | lit (c:UInt8)
def zcb:Pl→Bool
 | .star=>true
 | _=>false
def bang (u:Bs):Nat:=if u.head?=some 33 then 1 else 0
def zdg (u:Bs):Option Nat:=((u.drop (bang u+1)).findIdx? (· == 93)).map (·+(bang u+1))
def pc:Bs→Nat
 | []=>0
 | c :: u=>if c=91 then (match zdg u with | some k=>k+2 | none=>1) else if c=92 then (if u=[] then 1 else 2) else 1
def place:Bs→Pl
 | []=>.star
 | c :: u=>if c=42 then .star else if c=63 then .any else if c=91 then (match zdg u with | some k=>.br (u.take k) | none=>.lit 91)
  else if c=92 then .lit (u.head?.getD 92) else .lit c
def zho:Nat→Bs→List Pl
 | 0,_=>[]
 | n+1,t=>if t=[] then [] else place t :: zho n (t.drop (pc t))
def places (t:Bs):List Pl:=zho t.length t
def listed:Bs→UInt8→Bool
 | [],_=>false
 | [a],c=>a == c
 | [a,b],c=>a == c || b == c
 | a :: b :: d :: r,c=>if b=45 then decide (a≤c) && decide (c≤d) || listed r c else a == c || listed (b :: d :: r) c
def within (t:Bs) (c:UInt8):Bool:=if t.head?=some 33 then !listed t.tail c else listed t c
def stands:Pl→UInt8→Bool
 | .star,_=>true
 | .any,_=>true
 | .br t,c=>within t c
 | .lit d,c=>d == c
def zlm (f:Bs→Bool):Bs→Bool
 | []=>f []
 | c :: s=>f (c :: s) || zlm f s
def first (f:Bs→Bool) (x:Pl):Bs→Bool
 | []=>false
 | c :: s=>stands x c && f s
def mt:List Pl→Bs→Bool
 | []=>fun s=>s.isEmpty
 | x :: l=>fun s=>if zcb x then zlm (mt l) s else first (mt l) x s
def zei (p s:Bs):Bool:=mt (places p) s
theorem zex (c:UInt8) (u:Bs):pc (c :: u)=if c=91 then (match zdg u with | some k=>k+2 | none=>1) else if c=92 then (if u=[] then 1 else 2) else 1:=rfl
theorem zdv (c:UInt8) (u:Bs):place (c :: u)=if c=42 then .star else if c=63 then .any else if c=91 then (match zdg u with | some k=>.br (u.take k) | none=>.lit 91)
  else if c=92 then .lit (u.head?.getD 92) else .lit c:=rfl
theorem zvb {t:Bs} (h:t≠[]):1≤pc t:=by
 cases t with
 | nil=>exact absurd rfl h
 | cons c u =>
  rw[zex]
  split
  ·cases zdg u with
   | none=>exact Nat.le_refl _
   | some k=>exact Nat.le_add_left 1 (k+1)
  ·split
   ·split<;>omega
   ·omega
theorem endOf_lt {u:Bs} {k:Nat} (h:zdg u=some k):k<u.length:=by
 unfold zdg at h
 cases hf:(u.drop (bang u+1)).findIdx? (· == 93) with
 | none=>rw[hf] at h;cases h
 | some j =>
  rw[hf] at h
  simp only [Option.map_some,Option.some.injEq] at h
  have:=(List.findIdx?_eq_some_iff_getElem.1 hf).1
  rw[List.length_drop] at this
  omega
theorem pc_le (t:Bs):pc t≤t.length:=by
 cases t with
 | nil=>simp[pc]
 | cons c u =>
  rw[zex]
  split
  ·split
   ·rename_i h;have:=endOf_lt h;simp;omega
   ·simp
  ·split
   ·split
    ·simp
    ·rename_i h;cases u with
     | nil=>exact absurd rfl h
     | cons=>simp
   ·simp
theorem zlt:∀ (n m:Nat) (t:Bs),t.length≤n→t.length≤m→zho n t=zho m t
 | 0,0,_,_,_=>rfl
 | 0,m+1,t,h,_=>by
  have:t=[]:=List.length_eq_zero_iff.1 (by omega)
  subst this;simp[zho]
 | n+1,0,t,_,h=>by
  have:t=[]:=List.length_eq_zero_iff.1 (by omega)
  subst this;simp[zho]
 | n+1,m+1,t,h1,h2=>by
  unfold zho
  split
  ·rfl
  ·rename_i h
   have hp:=zvb h
   have hl:0<t.length:=List.length_pos_iff.2 h
   rw[zlt n m (t.drop (pc t)) (by rw[List.length_drop];omega) (by rw[List.length_drop];omega)]
theorem zgb:places []=[]:=rfl
theorem places_cons {t:Bs} (h:t≠[]):places t=place t :: places (t.drop (pc t)):=by
 have hl:0<t.length:=List.length_pos_iff.2 h
 have hp:=zvb h
 unfold places
 obtain⟨n,hn⟩:∃ n,t.length=n+1:=⟨t.length - 1,by omega⟩
 rw[hn,zho,if_neg h]
 congr 1
 exact zlt _ _ _ (by rw[List.length_drop];omega) (Nat.le_refl _)
theorem zfq {t:Bs} (h:t≠[]):zcb (place t)=true↔t.head?=some 42:=by
 cases t with
 | nil=>exact absurd rfl h
 | cons c u =>
  rw[zdv]
  by_cases h1:c=42
  ·simp[h1,zcb]
  ·rw[if_neg h1]
   have:(c :: u).head?≠some 42:=by simpa using h1
   simp only [this,iff_false]
   split
   ·simp[zcb]
   ·split
    ·split<;>simp[zcb]
    ·split<;>simp[zcb]
theorem pc_star {t:Bs} (h:t.head?=some 42):pc t=1:=by
 cases t with
 | nil=>cases h
 | cons c u =>
  simp only [List.head?_cons,Option.some.injEq] at h
  subst h
  simp[pc]
theorem mt_nil (l:List Pl):mt l []=l.all zcb:=by
 induction l with
 | nil=>rfl
 | cons x l ih =>
  unfold mt
  cases hx:zcb x with
  | true=>simp[zlm,ih,hx]
  | false=>simp[first,hx]
theorem zvd:∀ (n:Nat) (t:Bs),t.length≤n→(places t).all zcb=t.all (· == 42)
 | 0,t,h=>by
  have:t=[]:=List.length_eq_zero_iff.1 (by omega)
  subst this;rfl
 | n+1,t,h=>by
  by_cases ht:t=[]
  ·subst ht;rfl
  ·rw[places_cons ht,List.all_cons]
   by_cases hs:t.head?=some 42
   ·rw[(zfq ht).2 hs,pc_star hs]
    cases t with
    | nil=>exact absurd rfl ht
    | cons c u =>
     simp only [List.head?_cons,Option.some.injEq] at hs
     subst hs
     rw[List.drop_one,List.tail_cons,zvd n u (by simp at h;omega)]
     simp
   ·have:zcb (place t)=false:=by
     cases hb:zcb (place t) with
     | false=>rfl
     | true=>exact absurd ((zfq ht).1 hb) hs
    rw[this]
    cases t with
    | nil=>exact absurd rfl ht
    | cons c u =>
     have hc:(c == 42)=false:=by simpa using hs
     simp[hc]
theorem zpp (f:Bs→Bool):∀ (s:Bs),zlm f s=true↔∃ k,k≤s.length∧f (s.drop k)=true
 | []=>by
  constructor
  ·intro h;exact⟨0,Nat.le_refl _,h⟩
  ·rintro ⟨k,hk,h⟩
   simpa[zlm] using h
 | c :: s=>by
  unfold zlm
  rw[Bool.or_eq_true,zpp f s]
  constructor
  ·rintro (h | ⟨k,hk,h⟩)
   ·exact⟨0,Nat.zero_le _,h⟩
   ·exact⟨k+1,by simp;omega,by simpa using h⟩
  ·rintro ⟨k,hk,h⟩
   cases k with
   | zero=>exact .inl h
   | succ k=>exact .inr ⟨k,by simp at hk;omega,by simpa using h⟩
theorem zff {x:Pl} {l:List Pl} {s:Bs} (h:zcb x=true):mt (x :: l) s=true↔∃ k,k≤s.length∧mt l (s.drop k)=true:=by
 show (if zcb x then zlm (mt l) s else first (mt l) x s)=true↔_
 rw[if_pos h,zpp]
theorem zhu {x:Pl} {l:List Pl} {s:Bs} (h:zcb x=false):mt (x :: l) s=first (mt l) x s:=by
 show (if zcb x then zlm (mt l) s else first (mt l) x s)=_
 rw[h];rfl
theorem zww:∀ (q l:List Pl) (s:Bs),q.all (fun x=>!zcb x)=true→mt (q++l) s=true→q.length≤s.length∧mt l (s.drop q.length)=true
 | [],l,s,_,h=>⟨Nat.zero_le _,by simpa using h⟩
 | x :: q,l,s,hq,h=>by
  simp only [List.all_cons,Bool.and_eq_true,Bool.not_eq_true'] at hq
  rw[List.cons_append,zhu hq.1] at h
  cases s with
  | nil=>cases h
  | cons c s =>
   simp only [first,Bool.and_eq_true] at h
   have ⟨h1,h2⟩:=zww q l s hq.2 h.2
   exact⟨by simp;omega,by simpa using h2⟩
structure Inv (p s:Bs) (i a st fr:Nat):Prop where
 hi:i≤p.length
 ha:a≤s.length
 hst:st≤i
 hfr:fr≤a
 mid:0<st→∃ q,q.all (fun x=>!zcb x)=true∧places (p.drop st)=q++places (p.drop i)∧a=fr+q.length
 ans:zei p s=true↔(mt (places (p.drop i)) (s.drop a)=true∨(0<st∧∃ f,fr<f∧f≤s.length∧mt (places (p.drop st)) (s.drop f)=true))
theorem inv_start (p s:Bs):Inv p s 0 0 0 0 :=
 ⟨Nat.zero_le _,Nat.zero_le _,Nat.le_refl _,Nat.le_refl _,fun h=>absurd h (by omega),by simp[zei]⟩
theorem drop_ne {p:Bs} {i:Nat} (h:i<p.length):p.drop i≠[]:=by
 intro e
 have:=congrArg List.length e
 rw[List.length_drop] at this
 simp at this;omega
theorem inv_star {p s:Bs} {i a st fr:Nat} (h:Inv p s i a st fr) (hlt:i<p.length) (hs:p[i]?=some 42):Inv p s (i+1) a (i+1) a:=by
 have hne:=drop_ne hlt
 have hh:(p.drop i).head?=some 42:=by rw[List.head?_drop];exact hs
 have hx:=(zfq hne).2 hh
 have hp:places (p.drop i)=place (p.drop i) :: places (p.drop (i+1)):=by
  rw[places_cons hne,pc_star hh,List.drop_drop]
 refine⟨hlt,h.ha,Nat.le_refl _,Nat.le_refl _,fun _=>⟨[],rfl,rfl,rfl⟩,?_⟩
 rw[h.ans,hp,zff hx]
 constructor
 ·rintro (⟨k,hk,hm⟩ | ⟨h0,f,hf,hfl,hm⟩)
  ·rw[List.drop_drop] at hm
   rw[List.length_drop] at hk
   have:=h.ha
   rcases Nat.eq_zero_or_pos k with rfl | hk0
   ·exact .inl hm
   ·exact .inr ⟨by omega,a+k,by omega,by omega,hm⟩
  ·obtain⟨q,hq,he,hae⟩:=h.mid h0
   rw[he,hp] at hm
   obtain⟨hl,hm⟩:=zww q _ _ hq hm
   rw[List.length_drop] at hl
   rw[zff hx] at hm
   obtain⟨k,hk,hm⟩:=hm
   rw[List.drop_drop,List.drop_drop] at hm
   rw[List.length_drop,List.length_drop] at hk
   exact .inr ⟨by omega,f+q.length+k,by omega,by omega,by rw[show f+q.length+k=f+(q.length+k) by omega];simpa[Nat.add_assoc] using hm⟩
 ·rintro (hm | ⟨_,f,hf,hfl,hm⟩)
  ·exact .inl ⟨0,Nat.zero_le _,by simpa using hm⟩
  ·refine .inl ⟨f - a,?_,?_⟩
   ·rw[List.length_drop];omega
   ·rw[List.drop_drop,show a+(f - a)=f by omega];exact hm
theorem zcf {s:Bs} {a:Nat} {c:UInt8} (h:s[a]?=some c):s.drop a=c :: s.drop (a+1):=by
 obtain⟨hlt,he⟩:=List.getElem?_eq_some_iff.1 h
 rw[List.drop_eq_getElem_cons hlt,he]
theorem zwz {p s:Bs} {i a:Nat} {c:UInt8} (hlt:i<p.length) (hs:p[i]?≠some 42) (hc:s[a]?=some c) :
  mt (places (p.drop i)) (s.drop a)=(stands (place (p.drop i)) c && mt (places (p.drop (i+pc (p.drop i)))) (s.drop (a+1))):=by
 have hne:=drop_ne hlt
 have hx:zcb (place (p.drop i))=false:=by
  cases hb:zcb (place (p.drop i)) with
  | false=>rfl
  | true =>
   have:=(zfq hne).1 hb
   rw[List.head?_drop] at this
   exact absurd this hs
 rw[places_cons hne,zhu hx,zcf hc,List.drop_drop]
 rfl
theorem inv_fit {p s:Bs} {i a st fr:Nat} {c:UInt8} (h:Inv p s i a st fr) (hlt:i<p.length) (hs:p[i]?≠some 42) (hc:s[a]?=some c)
  (hf:stands (place (p.drop i)) c=true):Inv p s (i+pc (p.drop i)) (a+1) st fr:=by
 have hne:=drop_ne hlt
 have hal:=(List.getElem?_eq_some_iff.1 hc).1
 have hx:zcb (place (p.drop i))=false:=by
  cases hb:zcb (place (p.drop i)) with
  | false=>rfl
  | true =>
   have:=(zfq hne).1 hb
   rw[List.head?_drop] at this
   exact absurd this hs
 have hpl:=pc_le (p.drop i)
 rw[List.length_drop] at hpl
 have:=h.hst
 have:=h.hfr
 refine⟨by omega,by omega,by omega,by omega,fun h0=>?_,?_⟩
 ·obtain⟨q,hq,he,hae⟩:=h.mid h0
  refine⟨q++[place (p.drop i)],by simp[hx];simpa using hq,?_,by simp;omega⟩
  rw[he,places_cons hne,List.drop_drop];simp
 ·rw[h.ans,zwz hlt hs hc,hf,Bool.true_and]
theorem inv_back {p s:Bs} {i a st fr:Nat} {c:UInt8} (h:Inv p s i a st fr) (h0:0<st) (hc:s[a]?=some c)
  (hf:i<p.length→p[i]?≠some 42∧stands (place (p.drop i)) c=false):Inv p s st (fr+1) st (fr+1):=by
 have hal:=(List.getElem?_eq_some_iff.1 hc).1
 have hi:=h.hi
 have hst:=h.hst
 have hfr:=h.hfr
 have hno:mt (places (p.drop i)) (s.drop a)=false:=by
  by_cases hlt:i<p.length
  ·rw[zwz hlt (hf hlt).1 hc,(hf hlt).2];rfl
  ·rw[List.drop_of_length_le (by omega),zgb,zcf hc];rfl
 refine⟨by omega,by omega,Nat.le_refl _,Nat.le_refl _,fun _=>⟨[],rfl,rfl,rfl⟩,?_⟩
 rw[h.ans,hno]
 constructor
 ·rintro (e | ⟨_,f,h1,h2,h3⟩)
  ·cases e
  ·by_cases he:f=fr+1
   ·subst he;exact .inl h3
   ·exact .inr ⟨h0,f,by omega,h2,h3⟩
 ·rintro (e | ⟨_,f,h1,h2,h3⟩)
  ·exact .inr ⟨h0,fr+1,by omega,by omega,e⟩
  ·exact .inr ⟨h0,f,by omega,h2,h3⟩
theorem inv_no {p s:Bs} {i a fr:Nat} {c:UInt8} (h:Inv p s i a 0 fr) (hc:s[a]?=some c)
  (hf:i<p.length→p[i]?≠some 42∧stands (place (p.drop i)) c=false):zei p s=false:=by
 have hi:=h.hi
 have hno:mt (places (p.drop i)) (s.drop a)=false:=by
  by_cases hlt:i<p.length
  ·rw[zwz hlt (hf hlt).1 hc,(hf hlt).2];rfl
  ·rw[List.drop_of_length_le (by omega),zgb,zcf hc];rfl
 cases hm:zei p s with
 | false=>rfl
 | true =>
  rcases h.ans.1 hm with e | ⟨h0,_⟩
  ·rw[hno] at e;cases e
  ·omega
theorem inv_end {p s:Bs} {i a st fr:Nat} (h:Inv p s i a st fr) (he:a=s.length):zei p s=(p.drop i).all (· == 42):=by
 have hfr:=h.hfr
 have key:zei p s=true↔mt (places (p.drop i)) (s.drop a)=true:=by
  rw[h.ans]
  constructor
  ·rintro (e | ⟨h0,f,h1,h2,h3⟩)
   ·exact e
   ·obtain⟨q,hq,hp,ha⟩:=h.mid h0
    rw[hp] at h3
    have:=(zww q _ _ hq h3).1
    rw[List.length_drop] at this
    omega
  ·exact .inl
 rw[he,List.drop_of_length_le (Nat.le_refl _),mt_nil,zvd _ _ (Nat.le_refl _)] at key
 rw[Bool.eq_iff_iff,key]
def left (P n st fr a:Nat):Nat:=(P - st) * ((n+1) * (n+1))+(n - fr) * (n+1)+(n - a)
theorem left_star {P n st fr a i:Nat} (h1:st≤i) (h2:i<P) (h4:a≤n):left P n (i+1) a a<left P n st fr a:=by
 unfold left
 have e:P - st=(P - (i+1))+(i+1 - st):=by omega
 have h5:1 * ((n+1) * (n+1))≤(i+1 - st) * ((n+1) * (n+1)):=Nat.mul_le_mul_right _ (by omega)
 have h6:(n - a) * (n+1)≤n * (n+1):=Nat.mul_le_mul_right _ (by omega)
 have h7:(n+1) * (n+1)=n * (n+1)+(n+1):=by rw[Nat.add_mul];omega
 generalize (n+1) * (n+1)=N at *
 rw[e,Nat.add_mul]
 omega
theorem left_fit {P n st fr a:Nat} (h:a<n):left P n st fr (a+1)<left P n st fr a:=by unfold left;omega
theorem left_back {P n st fr a:Nat} (h1:fr≤a) (h:a<n):left P n st (fr+1) (fr+1)<left P n st fr a:=by
 unfold left
 have e:n - fr=(n - (fr+1))+1:=by omega
 have h6:(n - fr) * (n+1)=(n - (fr+1)) * (n+1)+(n+1):=by rw[e,Nat.add_mul];omega
 omega
def nxt (x:Pl) (s:Bs) (ok:Nat→Bool):Nat→Bool
 | 0=>zcb x && ok 0
 | k+1=>if zcb x then ok (k+1) || nxt x s ok k else ok k && stands x (s[k]?.getD 0)
def rows (s:Bs) (l:List Pl) (ok:Nat→Bool):Nat→Bool:=l.foldl (fun ok x=>nxt x s ok) ok
theorem zrt {x:Pl} {s:Bs} {ok:Nat→Bool} (h:zcb x=true):∀ k,nxt x s ok k=true↔∃ j,j≤k∧ok j=true
 | 0=>by
  simp only [nxt,h,Bool.true_and]
  constructor
  ·intro e;exact⟨0,Nat.le_refl _,e⟩
  ·rintro ⟨j,hj,e⟩
   obtain rfl:j=0:=by omega
   exact e
 | k+1=>by
  simp only [nxt,h,if_true,Bool.or_eq_true,zrt h k]
  constructor
  ·rintro (e | ⟨j,hj,e⟩)
   ·exact⟨k+1,Nat.le_refl _,e⟩
   ·exact⟨j,by omega,e⟩
  ·rintro ⟨j,hj,e⟩
   by_cases hk:j=k+1
   ·subst hk;exact .inl e
   ·exact .inr ⟨j,by omega,e⟩
theorem rows_iff (s:Bs):∀ (l:List Pl) (ok:Nat→Bool),rows s l ok s.length=true↔∃ k,k≤s.length∧ok k=true∧mt l (s.drop k)=true
 | [],ok=>by
  show ok s.length=true↔_
  constructor
  ·intro h;exact⟨s.length,Nat.le_refl _,h,by simp[mt]⟩
  ·rintro ⟨k,hk,h,e⟩
   have:s.length≤k:=by simpa[mt] using e
   obtain rfl:k=s.length:=by omega
   exact h
 | x :: l,ok=>by
  show rows s l (nxt x s ok) s.length=true↔_
  rw[rows_iff s l]
  cases hx:zcb x with
  | true =>
   constructor
   ·rintro ⟨k,hk,h1,h2⟩
    obtain⟨j,hj,h3⟩:=(zrt hx k).1 h1
    refine⟨j,by omega,h3,(zff hx).2 ⟨k - j,?_,?_⟩⟩
    ·rw[List.length_drop];omega
    ·rw[List.drop_drop,show j+(k - j)=k by omega];exact h2
   ·rintro ⟨j,hj,h1,h2⟩
    obtain⟨k,hk,h3⟩:=(zff hx).1 h2
    rw[List.length_drop] at hk
    rw[List.drop_drop] at h3
    exact⟨j+k,by omega,(zrt hx _).2 ⟨j,by omega,h1⟩,h3⟩
  | false =>
   constructor
   ·rintro ⟨k,hk,h1,h2⟩
    cases k with
    | zero=>simp[nxt,hx] at h1
    | succ k =>
     simp only [nxt,hx,Bool.false_eq_true,if_false,Bool.and_eq_true] at h1
     refine⟨k,by omega,h1.1,?_⟩
     have hc:s[k]?=some (s[k]?.getD 0):=by
      rw[List.getElem?_eq_getElem (by omega)];rfl
     rw[zhu hx,zcf hc,first,h1.2,h2];rfl
   ·rintro ⟨k,hk,h1,h2⟩
    rw[zhu hx] at h2
    by_cases hlt:k<s.length
    ·have hc:s[k]?=some (s[k]?.getD 0):=by
      rw[List.getElem?_eq_getElem hlt];rfl
     rw[zcf hc,first,Bool.and_eq_true] at h2
     exact⟨k+1,by omega,by simp[nxt,hx,h1,h2.1],h2.2⟩
    ·rw[List.drop_of_length_le (by omega)] at h2;cases h2
theorem rows_match (p s:Bs):rows s (places p) (fun k=>k == 0) s.length=zei p s:=by
 rw[Bool.eq_iff_iff,rows_iff]
 constructor
 ·rintro ⟨k,_,h1,h2⟩
  have:k=0:=by simpa using h1
  subst this;exact h2
 ·intro h;exact⟨0,Nat.zero_le _,rfl,h⟩
def inner (x:Bs):Bs:=(x.drop 1).dropLast
def zih (x:Bs) (c:UInt8):Bool :=
 if x=[63] then true else if x.length≤2 then x.getLast? == some c
 else within (inner x) c
theorem zqz {u:Bs} {k:Nat} (h:zdg u=some k):bang u+1≤k:=by
 unfold zdg at h
 cases hf:(u.drop (bang u+1)).findIdx? (· == 93) with
 | none=>rw[hf] at h;cases h
 | some j =>
  rw[hf] at h
  simp only [Option.map_some,Option.some.injEq] at h
  omega
theorem fits_is {t:Bs} (c:UInt8) (h:t≠[]) (hs:t.head?≠some 42):zih (t.take (pc t)) c=stands (place t) c:=by
 cases t with
 | nil=>exact absurd rfl h
 | cons d u =>
  have hd:¬ d=42:=by simpa using hs
  by_cases h1:d=63
  ·subst h1;rfl
  ·by_cases h2:d=91
   ·subst h2
    cases he:zdg u with
    | none =>
     have e1:pc (91 :: u)=1:=by simp[pc,he]
     have e2:place (91 :: u)=.lit 91:=by simp[place,he]
     rw[e1,e2]
     simp[zih,stands]
    | some k =>
     have hk:=endOf_lt he
     have hg:=zqz he
     have e1:pc (91 :: u)=k+2:=by simp[pc,he]
     have e2:place (91 :: u)=.br (u.take k):=by simp[place,he]
     rw[e1,e2,List.take_succ_cons]
     have e3:inner (91 :: u.take (k+1))=u.take k:=by
      unfold inner
      rw[List.drop_one,List.tail_cons,List.dropLast_eq_take,List.length_take,List.take_take]
      congr 1;omega
     have e4:¬ (91 :: u.take (k+1))=[63]:=by simp
     have e5:¬ (91 :: u.take (k+1)).length≤2:=by simp;omega
     rw[zih,if_neg e4,if_neg e5,e3]
     rfl
   ·by_cases h3:d=92
    ·subst h3
     cases u with
     | nil=>rfl
     | cons e v =>
      have e1:pc (92 :: e :: v)=2:=by simp[pc]
      have e2:place (92 :: e :: v)=.lit e:=by simp[place]
      rw[e1,e2]
      simp[zih,stands]
    ·have e1:pc (d :: u)=1:=by simp[pc,h2,h3]
     have e2:place (d :: u)=.lit d:=by simp[place,hd,h1,h2,h3]
     rw[e1,e2]
     simp[zih,stands,h1]
end Gl
namespace Gm
open Go.RowKit
abbrev Bs:=List UInt8
def by8 (s:ByteArray):Bs:=s.data.toList
theorem zab (s:ByteArray):(by8 s).length=s.size:=(Lib.size_eq s).symm
theorem zbs (s:ByteArray) (n:Nat):by8 (s.extract n s.size)=(by8 s).drop n:=Lib.extract_to_end s n
theorem zgo (s:ByteArray) (n:Nat):by8 (s.extract 0 n)=(by8 s).take n:=Lib.extract_from_zero s n
theorem zcc {s:ByteArray} {k:Nat} (h:k<s.size):(by8 s)[k]?=some s[k]:=Lib.Pa.at_eq s k h
theorem zbi {s:ByteArray} {k:Nat} (h:k<s.size):(by8 s).drop k=s[k] :: (by8 s).drop (k+1):=by
 have hl:k<(by8 s).length:=by rw[zab];exact h
 rw[List.drop_eq_getElem_cons hl]
 rfl
theorem ziu {s:ByteArray} (h:s.size=0):by8 s=[]:=List.length_eq_zero_iff.1 (by rw[zab];exact h)
theorem zar {a b:ByteArray} (h:by8 a=by8 b):a=b:=by
 have:a.data=b.data:=Array.toList_inj.1 h
 cases a;cases b;simp at this;subst this;rfl
theorem zao {a b:Bool} (h:a=b):Ending.returned (.bool a)=.returned (.bool b):=by rw[h]
theorem zhi {a b:Int} (h:a=b):Ending.returned (.int .i64 a)=.returned (.int .i64 b):=by rw[h]
theorem below_drewN {B:Nat} {a w:World} (h:Below B a w) (n:Nat):Below B a (w.drewN n):=⟨h.os,h.tape,h.output,h.size,h.block⟩
theorem eq_true {a b:UInt8} (h:a=b):(((a.toNat:Nat):Int) == ((b.toNat:Nat):Int))=true:=by rw[h];exact beq_self_eq_true _
theorem eq_false {a b:UInt8} (h:¬ a=b):(((a.toNat:Nat):Int) == ((b.toNat:Nat):Int))=false:=by
 rw[beq_eq_false_iff_ne];intro e;exact h (UInt8.toNat_inj.1 (by omega))
theorem zln (a d:UInt8) (r:Bs) (c:UInt8):Gl.listed (a :: 45 :: d :: r) c=(decide (a≤c) && decide (c≤d) || Gl.listed r c):=rfl
theorem zpi (a:UInt8) (r:Bs) (c:UInt8) (h:∀ d r',r≠45 :: d :: r'):Gl.listed (a :: r) c=(a == c || Gl.listed r c):=by
 match r,h with
 | [],_=>simp[Gl.listed]
 | [b],_=>simp[Gl.listed]
 | b :: d :: r,h =>
  have hb:¬ b=45:=fun e=>h d r (by rw[e])
  rw[Gl.listed,if_neg hb]
theorem yes3 {a b d:UInt8} {r:Bool} (h1:a.toNat≤b.toNat) (h2:b.toNat≤d.toNat):(decide (a≤b) && decide (b≤d) || r)=true:=by
 rw[decide_eq_true (UInt8.le_iff_toNat_le.2 h1),decide_eq_true (UInt8.le_iff_toNat_le.2 h2)];rfl
theorem no3a {a b d:UInt8} {r:Bool} (h1:¬ a.toNat≤b.toNat):(decide (a≤b) && decide (b≤d) || r)=r:=by
 rw[decide_eq_false (fun h=>h1 (UInt8.le_iff_toNat_le.1 h))];rfl
theorem no3b {a b d:UInt8} {r:Bool} (h1:¬ b.toNat≤d.toNat):(decide (a≤b) && decide (b≤d) || r)=r:=by
 rw[decide_eq_false (fun h=>h1 (UInt8.le_iff_toNat_le.1 h)),Bool.and_false,Bool.false_or]
theorem yes1 {a b:UInt8} {r:Bool} (h1:a.toNat≤b.toNat) (h2:b.toNat≤a.toNat):(a == b || r)=true:=by
 rw[beq_iff_eq.2 (UInt8.toNat_inj.1 (by omega))];rfl
theorem no1 {a b:UInt8} {r:Bool} (h1:¬ a.toNat=b.toNat):(a == b || r)=r:=by
 rw[beq_eq_false_iff_ne.2 (fun h=>h1 (by rw[h]))];rfl
theorem zpo (w:World) (s:ByteArray) (c:UInt8) (hs:s.size≤1000000) :
  Calls Tryz.prog 279 #[.string s,.int .u8 (c.toNat:Int)] w fun e w'=>e=.returned (.bool (Gl.listed (by8 s) c))∧w=w':=by
 go_enter Tryz.func279,Tryz.ntmps279
 go_wp2
 go_loop [0] (fun v=>∃ t:ByteArray,v=.string t∧t.size≤1000000∧Gl.listed (by8 t) c=Gl.listed (by8 s) c) (fun v=>match v with | .string t=>t.size | _=>0)
 case atStart=>exact⟨s,rfl,hs,rfl⟩
 case round =>
  obtain⟨t,rfl,ht,hl⟩:=hrel
  have HL:=Lib.hid hl
  clear hl hs
  by_cases h0:0<t.size
  ·by_cases h3:∃ _:3≤t.size,t[1]=45
   ·obtain⟨h3,h45⟩:=h3
    have HE:Hid (Gl.listed (by8 t) c=(decide (t[0]≤c) && decide (c≤t[2]) || Gl.listed (by8 (t.extract 3 t.size)) c)):=Lib.hid (by
     have e:by8 t=t[0] :: 45 :: t[2] :: (by8 t).drop 3:=by
      have e0:=zbi (s:=t) (k:=0) (by omega)
      have e1:=zbi (s:=t) (k:=1) (by omega)
      have e2:=zbi (s:=t) (k:=2) (by omega)
      rw[List.drop_zero] at e0
      rw[e0,e1,e2,h45];rfl
     rw[zbs,e,zln];rfl)
    have hb:((t[1].toNat:Int) == 45)=true:=by rw[h45];rfl
    clear h45
    go_wp2
    ·have h1:t[0].toNat≤c.toNat:=by assumption
     have h2:c.toNat≤t[2].toNat:=by assumption
     go_ret
     exact⟨zao (by rw[←HL.out,HE.out,yes3 h1 h2]),rfl⟩
    ·have h2:¬ c.toNat≤t[2].toNat:=by assumption
     go_round
     case rel=>exact⟨_,rfl,by simp;omega,by rw[←HL.out,HE.out,no3b h2]⟩
     case measure=>simp;omega
    ·have h2:¬ t[0].toNat≤c.toNat:=by assumption
     go_round
     case rel=>exact⟨_,rfl,by simp;omega,by rw[←HL.out,HE.out,no3a h2]⟩
     case measure=>simp;omega
   ·have HE:Hid (Gl.listed (by8 t) c=(t[0] == c || Gl.listed (by8 (t.extract 1 t.size)) c)):=Lib.hid (by
     have e0:=zbi (s:=t) (k:=0) (by omega)
     rw[List.drop_zero] at e0
     rw[zbs,e0,zpi]
     ·rfl
     ·intro d r' e
      have hl:3≤t.size:=by
       have:=congrArg List.length e
       rw[List.length_drop,zab] at this;simp at this;omega
      refine h3 ⟨hl,?_⟩
      rw[zbi (by omega)] at e
      simpa using (List.cons.inj e).1)
    have h3':Hid (∀ _:3≤t.size,¬ t[1]=45):=Lib.hid (fun a b=>h3 ⟨a,b⟩)
    clear h3
    by_cases h4:3≤t.size
    ·have hb:((t[1].toNat:Int) == 45)=false:=eq_false (b:=45) (h3'.out h4)
     go_wp2
     ·have h1:t[0].toNat≤c.toNat:=by assumption
      have h2:c.toNat≤t[0].toNat:=by assumption
      go_ret
      exact⟨zao (by rw[←HL.out,HE.out,yes1 h1 h2]),rfl⟩
     ·have h2:¬ c.toNat≤t[0].toNat:=by assumption
      go_round
      case rel=>exact⟨_,rfl,by simp;omega,by rw[←HL.out,HE.out,no1 (by omega)]⟩
      case measure=>simp;omega
     ·have h2:¬ t[0].toNat≤c.toNat:=by assumption
      go_round
      case rel=>exact⟨_,rfl,by simp;omega,by rw[←HL.out,HE.out,no1 (by omega)]⟩
      case measure=>simp;omega
    ·go_wp2
     ·have h1:t[0].toNat≤c.toNat:=by assumption
      have h2:c.toNat≤t[0].toNat:=by assumption
      go_ret
      exact⟨zao (by rw[←HL.out,HE.out,yes1 h1 h2]),rfl⟩
     ·have h2:¬ c.toNat≤t[0].toNat:=by assumption
      go_round
      case rel=>exact⟨_,rfl,by simp;omega,by rw[←HL.out,HE.out,no1 (by omega)]⟩
      case measure=>simp;omega
     ·have h2:¬ t[0].toNat≤c.toNat:=by assumption
      go_round
      case rel=>exact⟨_,rfl,by simp;omega,by rw[←HL.out,HE.out,no1 (by omega)]⟩
      case measure=>simp;omega
  ·go_wp2
   go_ret
   exact⟨zao (by rw[←HL.out,ziu (by omega)];rfl),rfl⟩
theorem zin (w:World) (s:ByteArray) (c:UInt8) (hs:s.size≤1000000) :
  Calls Tryz.prog 307 #[.string s,.int .u8 (c.toNat:Int)] w fun e w'=>e=.returned (.bool (Gl.listed (by8 s) c))∧w=w':=by
 go_enter Tryz.func307,Tryz.ntmps307
 go_wp2
 go_loop [5] (fun v=>∃ k:Nat,v=.int .i64 k∧k≤s.size∧Gl.listed ((by8 s).drop k) c=Gl.listed (by8 s) c) (fun v=>s.size - (intOf v).toNat)
 case atStart=>exact⟨0,rfl,Nat.zero_le _,rfl⟩
 case round =>
  obtain⟨k,rfl,hk,hl⟩:=hrel
  have HL:=Lib.hid hl
  clear hl
  by_cases h0:k<s.size
  ·by_cases h3:∃ _:k+2<s.size,s[k+1]=45
   ·obtain⟨h3,h45⟩:=h3
    have HE:Hid (Gl.listed ((by8 s).drop k) c=(decide (s[k]≤c) && decide (c≤s[k+2]) || Gl.listed ((by8 s).drop (k+3)) c)):=Lib.hid (by
     rw[zbi h0,zbi (show k+1<s.size by omega),zbi h3,h45,zln])
    have hb:((s[k+1].toNat:Int) == 45)=true:=by rw[h45];rfl
    clear h45
    go_wp2
    ·have h1:s[k].toNat≤c.toNat:=by assumption
     have h2:c.toNat≤s[k+2].toNat:=by assumption
     go_ret
     exact⟨zao (by rw[←HL.out,HE.out,yes3 h1 h2]),rfl⟩
    ·have h2:¬ c.toNat≤s[k+2].toNat:=by assumption
     go_round
     case rel=>exact⟨k+3,by go_num,by omega,by rw[←HL.out,HE.out,no3b h2]⟩
     case measure=>simp[intOf];omega
    ·have h2:¬ s[k].toNat≤c.toNat:=by assumption
     go_round
     case rel=>exact⟨k+3,by go_num,by omega,by rw[←HL.out,HE.out,no3a h2]⟩
     case measure=>simp[intOf];omega
   ·have HE:Hid (Gl.listed ((by8 s).drop k) c=(s[k] == c || Gl.listed ((by8 s).drop (k+1)) c)):=Lib.hid (by
     rw[zbi h0,zpi]
     intro d r' e
     have hl:k+2<s.size:=by
      have:=congrArg List.length e
      rw[List.length_drop,zab] at this;simp at this;omega
     refine h3 ⟨hl,?_⟩
     rw[zbi (by omega)] at e
     simpa using (List.cons.inj e).1)
    have h3':Hid (∀ _:k+2<s.size,¬ s[k+1]=45):=Lib.hid (fun a b=>h3 ⟨a,b⟩)
    clear h3
    by_cases hc:s[k]=c
    ·have hcb:=eq_true hc
     have HT:Hid (Gl.listed (by8 s) c=true):=Lib.hid (by rw[←HL.out,HE.out,beq_iff_eq.2 hc];rfl)
     clear hc HE
     by_cases h4:k+2<s.size
     ·have hb:((s[k+1].toNat:Int) == 45)=false:=eq_false (b:=45) (h3'.out h4)
      go_wp2
      go_ret
      exact⟨zao HT.out.symm,rfl⟩
     ·go_wp2
      go_ret
      exact⟨zao HT.out.symm,rfl⟩
    ·have hcb:=eq_false hc
     have HT:Hid (Gl.listed ((by8 s).drop (k+1)) c=Gl.listed (by8 s) c):=Lib.hid (by rw[←HL.out,HE.out,beq_eq_false_iff_ne.2 hc];rfl)
     clear hc HE
     by_cases h4:k+2<s.size
     ·have hb:((s[k+1].toNat:Int) == 45)=false:=eq_false (b:=45) (h3'.out h4)
      go_wp2
      go_round
      case rel=>exact⟨k+1,by go_num,by omega,HT.out⟩
      case measure=>simp[intOf];omega
     ·go_wp2
      go_round
      case rel=>exact⟨k+1,by go_num,by omega,HT.out⟩
      case measure=>simp[intOf];omega
  ·go_wp2
   go_ret
   exact⟨zao (by rw[←HL.out,List.drop_of_length_le (by rw[zab];omega)];rfl),rfl⟩
theorem zqk {s:ByteArray} (h:0<s.size):(by8 s).head?=some s[0]:=by
 rw[List.head?_eq_getElem?];exact zcc h
theorem tail_is (s:ByteArray):(by8 s).tail=by8 (s.extract 1 s.size):=by rw[zbs,List.drop_one]
theorem within_any (w:World) (s:ByteArray) (c:UInt8) (hs:s.size≤1000000) :
  Calls Tryz.prog 258 #[.string s,.int .u8 (c.toNat:Int)] w fun e w'=>e=.returned (.bool (Gl.within (by8 s) c))∧w=w':=by
 by_cases h0:0<s.size
 ·by_cases h1:s[0]=33
  ·have hb:((s[0].toNat:Int) == 33)=true:=by rw[h1];rfl
   have HE:Hid (Gl.within (by8 s) c=!Gl.listed (by8 (s.extract 1 s.size)) c):=Lib.hid (by
    unfold Gl.within;rw[zqk h0,h1,if_pos rfl,tail_is])
   clear h1
   go_enter Tryz.func258,Tryz.ntmps258
   go_wp2_with (go_at_call 307;go_must (refine(zin _ _ c (by simp;omega)).mono ?_);rintro e w' ⟨rfl,rfl⟩)
   go_ret
   exact⟨zao HE.out.symm,rfl⟩
  ·have hb:((s[0].toNat:Int) == 33)=false:=eq_false (b:=33) h1
   have HE:Hid (Gl.within (by8 s) c=Gl.listed (by8 s) c):=Lib.hid (by
    unfold Gl.within;rw[zqk h0,if_neg (by simpa using h1)])
   clear h1
   go_enter Tryz.func258,Tryz.ntmps258
   go_wp2_with (go_at_call 307;go_must (refine(zin _ _ c hs).mono ?_);rintro e w' ⟨rfl,rfl⟩)
   go_ret
   exact⟨zao HE.out.symm,rfl⟩
 ·have HE:Hid (Gl.within (by8 s) c=Gl.listed (by8 s) c):=Lib.hid (by
   unfold Gl.within;rw[ziu (by omega)];rfl)
  go_enter Tryz.func258,Tryz.ntmps258
  go_wp2_with (go_at_call 307;go_must (refine(zin _ _ c hs).mono ?_);rintro e w' ⟨rfl,rfl⟩)
  go_ret
  exact⟨zao HE.out.symm,rfl⟩
def endI (u:Bs):Int:=match Gl.zdg u with | some k=>(k:Int) | none=>-1
theorem bang_is {s:ByteArray} (h:0<s.size):Gl.bang (by8 s)=if s[0]=33 then 1 else 0:=by
 unfold Gl.bang;rw[zqk h]
 by_cases e:s[0]=33<;>simp[e]
theorem endOf_at {u:Bs} {k:Nat} (h1:u[k]?=some 93) (h2:Gl.bang u+1≤k) (h3:∀ j,Gl.bang u+1≤j→j<k→u[j]?≠some 93):Gl.zdg u=some k:=by
 unfold Gl.zdg
 have hl:=(List.getElem?_eq_some_iff.1 h1).1
 rw[show (u.drop (Gl.bang u+1)).findIdx? (· == 93)=some (k - (Gl.bang u+1)) from List.findIdx?_eq_some_iff_getElem.2 ⟨by rw[List.length_drop];omega,?_,?_⟩]
 ·rw[Option.map_some];congr 1;omega
 ·rw[List.getElem_drop,beq_iff_eq]
  have:=(List.getElem?_eq_some_iff.1 h1).2
  rw[←this];congr 1;omega
 ·intro j hj e
  rw[List.getElem_drop,beq_iff_eq] at e
  exact h3 (Gl.bang u+1+j) (by omega) (by omega) (by rw[List.getElem?_eq_getElem (by omega),e])
theorem zpe {u:Bs} (h3:∀ j,Gl.bang u+1≤j→u[j]?≠some 93):Gl.zdg u=none:=by
 unfold Gl.zdg
 rw[List.findIdx?_eq_none_iff.2,Option.map_none]
 intro x hx
 obtain⟨j,hj,e⟩:=List.mem_iff_getElem.1 hx
 rw[beq_eq_false_iff_ne]
 intro e2
 rw[List.getElem_drop] at e
 rw[List.length_drop] at hj
 exact h3 (Gl.bang u+1+j) (by omega) (by rw[List.getElem?_eq_getElem (by omega),e,e2])
theorem zxb (w:World) (s:ByteArray) (hs:s.size≤1000000) :
  Calls Tryz.prog 257 #[.string s] w fun e w'=>e=.returned (.int .i64 (endI (by8 s)))∧w=w':=by
 by_cases h0:0<s.size
 ·have hbi:=bang_is h0
  by_cases h1:s[0]=33
  ·have hb:((s[0].toNat:Int) == 33)=true:=by rw[h1];rfl
   rw[if_pos h1] at hbi
   have HB:=Lib.hid hbi
   clear h1 hbi
   go_enter Tryz.func257,Tryz.ntmps257
   go_wp2
   go_loop [4] (fun v=>∃ k:Nat,v=.int .i64 k∧1≤k∧k≤s.size∧∀ j,1+1≤j→j<k→(by8 s)[j]?≠some 93) (fun v=>s.size - (intOf v).toNat)
   case atStart=>exact⟨1,rfl,Nat.le_refl _,h0,fun j h1 h2=>by omega⟩
   case round =>
    obtain⟨k,rfl,hk0,hk,hno⟩:=hrel
    have HN:=Lib.hid hno
    clear hno
    by_cases hlt:k<s.size
    ·by_cases h93:s[k]=93
     ·have hb3:((s[k].toNat:Int) == 93)=true:=by rw[h93];rfl
      have hg:=Lib.hid (zcc hlt)
      rw[h93] at hg
      clear h93
      by_cases hgt:1<k
      ·have HE:Hid (endI (by8 s)=k):=Lib.hid (by
        unfold endI;rw[endOf_at hg.out (by rw[HB.out];omega) (by rw[HB.out];exact HN.out)])
       go_wp2
       go_ret
       exact⟨zhi HE.out.symm,rfl⟩
      ·have hle:k≤1:=by omega
       go_wp2
       go_round
       case rel=>exact⟨k+1,by go_num,by omega,hlt,fun j h1 h2=>by omega⟩
       case measure=>simp[intOf];omega
     ·have hb3:((s[k].toNat:Int) == 93)=false:=eq_false (b:=93) h93
      have hg:=Lib.hid h93
      clear h93
      go_wp2
      go_round
      case rel=>exact⟨k+1,by go_num,by omega,hlt,fun j h1 h2=>by
       by_cases e:j=k
       ·subst e;rw[zcc hlt];exact fun e=>hg.out (Option.some.inj e)
       ·exact HN.out j h1 (by omega)⟩
      case measure=>simp[intOf];omega
    ·have HE:Hid (endI (by8 s)=-1):=Lib.hid (by
      unfold endI;rw[zpe]
      intro j h1 e
      rw[HB.out] at h1
      have:=(List.getElem?_eq_some_iff.1 e).1
      rw[zab] at this
      exact HN.out j h1 (by omega) e)
     go_wp2
     go_ret
     exact⟨zhi HE.out.symm,rfl⟩
  ·have hb:((s[0].toNat:Int) == 33)=false:=eq_false (b:=33) h1
   rw[if_neg h1] at hbi
   have HB:=Lib.hid hbi
   clear h1 hbi
   go_enter Tryz.func257,Tryz.ntmps257
   go_wp2
   go_loop [4] (fun v=>∃ k:Nat,v=.int .i64 k∧0≤k∧k≤s.size∧∀ j,0+1≤j→j<k→(by8 s)[j]?≠some 93) (fun v=>s.size - (intOf v).toNat)
   case atStart=>exact⟨0,rfl,Nat.le_refl _,Nat.zero_le _,fun j h1 h2=>by omega⟩
   case round =>
    obtain⟨k,rfl,hk0,hk,hno⟩:=hrel
    have HN:=Lib.hid hno
    clear hno
    by_cases hlt:k<s.size
    ·by_cases h93:s[k]=93
     ·have hb3:((s[k].toNat:Int) == 93)=true:=by rw[h93];rfl
      have hg:=Lib.hid (zcc hlt)
      rw[h93] at hg
      clear h93
      by_cases hgt:0<k
      ·have HE:Hid (endI (by8 s)=k):=Lib.hid (by
        unfold endI;rw[endOf_at hg.out (by rw[HB.out];omega) (by rw[HB.out];exact HN.out)])
       go_wp2
       go_ret
       exact⟨zhi HE.out.symm,rfl⟩
      ·have hle:k≤0:=by omega
       go_wp2
       go_round
       case rel=>exact⟨k+1,by go_num,by omega,hlt,fun j h1 h2=>by omega⟩
       case measure=>simp[intOf];omega
     ·have hb3:((s[k].toNat:Int) == 93)=false:=eq_false (b:=93) h93
      have hg:=Lib.hid h93
      clear h93
      go_wp2
      go_round
      case rel=>exact⟨k+1,by go_num,by omega,hlt,fun j h1 h2=>by
       by_cases e:j=k
       ·subst e;rw[zcc hlt];exact fun e=>hg.out (Option.some.inj e)
       ·exact HN.out j h1 (by omega)⟩
      case measure=>simp[intOf];omega
    ·have HE:Hid (endI (by8 s)=-1):=Lib.hid (by
      unfold endI;rw[zpe]
      intro j h1 e
      rw[HB.out] at h1
      have:=(List.getElem?_eq_some_iff.1 e).1
      rw[zab] at this
      exact HN.out j h1 (by omega) e)
     go_wp2
     go_ret
     exact⟨zhi HE.out.symm,rfl⟩
 ·have HE:Hid (endI (by8 s)=-1):=Lib.hid (by rw[ziu (by omega)];rfl)
  go_enter Tryz.func257,Tryz.ntmps257
  go_wp2
  go_loop [4] (fun v=>v=.int .i64 0) (fun _=>0)
  case atStart=>exact rfl
  case round =>
   obtain rfl:=hrel
   go_wp2
   go_ret
   exact⟨zhi HE.out.symm,rfl⟩
def LastAt (p:Bs) (v:Int):Prop:=(v=-1∧∀ j:Nat,p[j]?≠some 93)∨∃ i:Nat,v=i∧p[i]?=some 93∧∀ j:Nat,i<j→p[j]?≠some 93
theorem zqj (w:World) (p:ByteArray) (hs:p.size≤1000000) :
  Calls Tryz.prog 213 #[.string p,.int .u8 93] w fun e w'=>∃ v:Int,e=.returned (.int .i64 v)∧w=w'∧-1≤v∧v<1000000∧LastAt (by8 p) v:=by
 refine(Tryz.strings_LastIndexByte p 93 (by omega) w).mono ?_
 rintro e w' ⟨rfl,rfl⟩
 have hget:∀ (j:Nat) (hj:j<p.size),(by8 p)[j]?=some (p.data[j]!):=fun j hj=>by
  rw[zcc hj]
  congr 1
  show p.data[j]=p.data[j]!
  rw[getElem!_pos p.data j hj]
 have hno:∀ (j:Nat),p.size≤j→(by8 p)[j]?=none:=fun j hj=>by rw[List.getElem?_eq_none_iff,zab];exact hj
 rcases Lib.lastIndexByte_spec p 93 with ⟨h1,h2⟩ | ⟨i,hi,h1,h2,h3⟩
 ·refine⟨_,rfl,rfl,by omega,by omega,.inl ⟨h1,fun j=>?_⟩⟩
  by_cases hj:j<p.size
  ·rw[hget j hj]
   intro e
   have:=h2 j hj
   rw[Option.some.inj e] at this
   exact this rfl
  ·rw[hno j (by omega)];exact fun e=>by cases e
 ·refine⟨_,rfl,rfl,by omega,by omega,.inr ⟨i,h1,?_,fun j hij=>?_⟩⟩
  ·rw[hget i hi]
   congr 1
   exact UInt8.toNat_inj.1 (by have:(93:UInt8).toNat=93:=rfl;omega)
  ·by_cases hj:j<p.size
   ·rw[hget j hj]
    intro e
    have:=h3 j hij hj
    rw[Option.some.inj e] at this
    exact this rfl
   ·rw[hno j (by omega)];exact fun e=>by cases e
theorem endOf_iff (u:Bs):(Gl.zdg u).isSome=true↔∃ j,Gl.bang u+1≤j∧u[j]?=some 93:=by
 constructor
 ·intro h
  cases he:Gl.zdg u with
  | none=>rw[he] at h;cases h
  | some k =>
   unfold Gl.zdg at he
   cases hf:(u.drop (Gl.bang u+1)).findIdx? (· == 93) with
   | none=>rw[hf] at he;cases he
   | some n =>
    obtain⟨hl,h1,_⟩:=List.findIdx?_eq_some_iff_getElem.1 hf
    rw[List.length_drop] at hl
    rw[List.getElem_drop,beq_iff_eq] at h1
    exact⟨Gl.bang u+1+n,by omega,by rw[List.getElem?_eq_getElem (by omega),h1]⟩
 ·rintro ⟨j,hj,hx⟩
  cases he:Gl.zdg u with
  | some k=>rfl
  | none =>
   exfalso
   unfold Gl.zdg at he
   rw[Option.map_eq_none_iff,List.findIdx?_eq_none_iff] at he
   have hl:=(List.getElem?_eq_some_iff.1 hx).1
   have:=he 93 (List.mem_iff_getElem.2 ⟨j - (Gl.bang u+1),by rw[List.length_drop];omega,by
    rw[List.getElem_drop]
    have:=(List.getElem?_eq_some_iff.1 hx).2
    rw[←this];congr 1;omega⟩)
   simp at this
theorem last_end {p:Bs} {v:Int} (h:LastAt p v) (i:Nat):(Gl.zdg (p.drop (i+1))).isSome=true↔((i+1+Gl.bang (p.drop (i+1)):Nat):Int)<v:=by
 rw[endOf_iff]
 constructor
 ·rintro ⟨j,hj,hx⟩
  rw[List.getElem?_drop] at hx
  rcases h with ⟨_,hn⟩ | ⟨k,rfl,_,hn⟩
  ·exact absurd hx (hn _)
  ·by_cases hk:k<i+1+j
   ·exact absurd hx (hn _ hk)
   ·omega
 ·intro hlt
  rcases h with ⟨rfl,_⟩ | ⟨k,rfl,hk,_⟩
  ·omega
  ·refine⟨k - (i+1),by omega,?_⟩
   rw[List.getElem?_drop,show i+1+(k - (i+1))=k by omega];exact hk
theorem find_index:∀ (l:Bs) (n:Nat),l.findIdx? (· == 93)=some n→Lib.indexByte l 93=n:=by
 intro l n h
 obtain⟨hl,h1,h2⟩:=List.findIdx?_eq_some_iff_getElem.1 h
 have hge:=Lib.indexByte_ge l 93
 have hn:l[n]?=some 93:=by rw[List.getElem?_eq_getElem hl];rw[beq_iff_eq] at h1;rw[h1]
 by_cases he:Lib.indexByte l 93=-1
 ·exact absurd hn (Lib.indexByte_none he n)
 ·obtain⟨o,ho⟩:=Int.eq_ofNat_of_zero_le (show 0≤Lib.indexByte l 93 by omega)
  obtain⟨h3,h4⟩:=Lib.indexByte_some ho
  by_cases hlt:o<n
  ·have:=h2 o hlt
   obtain⟨hol,e⟩:=List.getElem?_eq_some_iff.1 h3
   rw[e] at this;simp at this
  ·by_cases hgt:n<o
   ·exact absurd hn (h4 n hgt)
   ·rw[ho,show o=n by omega]
theorem zuq {u:Bs} {k:Nat} (h:Gl.zdg u=some k):Lib.indexByte (u.drop (Gl.bang u+1)) 93=((k - (Gl.bang u+1):Nat):Int):=by
 unfold Gl.zdg at h
 cases hf:(u.drop (Gl.bang u+1)).findIdx? (· == 93) with
 | none=>rw[hf] at h;cases h
 | some n =>
  rw[hf,Option.map_some] at h
  have:=Option.some.inj h
  rw[find_index _ _ hf];congr 1;omega
theorem zgh (w:World) (s:ByteArray) (b:Bool) (hb:Hid (decide (Gl.bang (by8 s)=1)=b)) :
  Calls Tryz.prog 165 #[.string s,.string ⟨#[33]⟩] w fun e w'=>e=.returned (.bool b)∧w=w':=by
 refine(Tryz.strings_HasPrefix s ⟨#[33]⟩ w).mono ?_
 rintro e w' ⟨rfl,rfl⟩
 refine⟨?_,rfl⟩
 rw[←hb.out]
 refine zao ?_
 show List.isPrefixOf [33] (by8 s)=_
 unfold Gl.bang
 cases by8 s with
 | nil=>rfl
 | cons c u =>
  by_cases h:c=33
  ·subst h;rfl
  ·show ((33:UInt8) == c && _)=_
   rw[beq_eq_false_iff_ne.2 (Ne.symm h)];simp[h]
theorem znp (w:World) (s:ByteArray) (v:Int) (hv:Hid (Lib.indexByte (by8 s) 93=v)) :
  Calls Tryz.prog 266 #[.string s,.int .u8 93] w fun e w'=>e=.returned (.int .i64 v)∧w=w':=by
 refine(Tryz.strings_IndexByte s 93 w).mono ?_
 rintro e w' ⟨rfl,rfl⟩
 exact⟨by rw[←hv.out];rfl,rfl⟩
theorem ziy {p:ByteArray} {a b c:Nat} (h:b=c):Ending.returned (.string (p.extract a b))=.returned (.string (p.extract a c)):=by rw[h]
theorem piece_any (w:World) (p:ByteArray) (i:Nat) (v:Int) (hi:i≤p.size) (hs:p.size≤1000000) (hv:Hid (LastAt (by8 p) v)) :
  Calls Tryz.prog 214 #[.string p,.int .i64 i,.int .i64 v] w fun e w'=>e=.returned (.string (p.extract i (i+Gl.pc ((by8 p).drop i))))∧w=w':=by
 by_cases hlt:i<p.size
 ·have hne:((i:Int) == (p.size:Int))=false:=by rw[beq_eq_false_iff_ne];omega
  have hcons:=zbi hlt
  by_cases h91:p[i]=91
  ·have hb:((p[i].toNat:Int) == 91)=true:=by rw[h91];rfl
   have hpc:Hid (Gl.pc ((by8 p).drop i)=match Gl.zdg ((by8 p).drop (i+1)) with | some k=>k+2 | none=>1):=Lib.hid (by
    rw[hcons,h91,Gl.zex,if_pos rfl]<;>(cases Gl.zdg ((by8 p).drop (i+1))<;>rfl))
   have hle:=last_end hv.out i
   have hbu:Gl.bang (by8 (p.extract (i+1) p.size))=Gl.bang ((by8 p).drop (i+1)):=by rw[zbs]
   clear h91 hcons
   have hb01:Gl.bang ((by8 p).drop (i+1))=0∨Gl.bang ((by8 p).drop (i+1))=1:=by unfold Gl.bang;split<;>simp
   rcases hb01 with hb01 | hb01
   ·have HB:Hid (decide (Gl.bang (by8 (p.extract (i+1) p.size))=1)=false):=Lib.hid (by rw[hbu,hb01];rfl)
    have hbang:=Lib.hid hb01
    clear hbu hb01
    cases he:Gl.zdg ((by8 p).drop (i+1)) with
    | none =>
     have h2:¬ (((i+1:Nat):Int)<v):=by
      intro h
      rw[he,hbang.out] at hle
      have:=hle.2 (by omega)
      cases this
     have HP:Hid (Gl.pc ((by8 p).drop i)=1):=Lib.hid (by rw[hpc.out,he])
     have h3:v≤(i:Int)+1:=by omega
     clear hle h2
     go_enter Tryz.func214,Tryz.ntmps214
     go_wp2_with (go_at_call 165;go_must (refine(zgh _ _ _ HB).mono ?_);rintro e w' ⟨rfl,rfl⟩)
     go_ret
     exact⟨ziy (by rw[HP.out]),rfl⟩
    | some k =>
     have hkg:=Gl.zqz he
     rw[hbang.out] at hkg
     have h2:(((i+1:Nat):Int)<v):=by
      rw[he,hbang.out] at hle
      exact hle.1 rfl
     obtain⟨n,rfl⟩:∃ n,k=n+1:=⟨k - 1,by omega⟩
     have HP:Hid (Gl.pc ((by8 p).drop i)=n+3):=Lib.hid (by rw[hpc.out,he])
     have hsz:i+(n+3)≤p.size:=by
      have:=Gl.pc_le ((by8 p).drop i)
      rw[HP.out,List.length_drop,zab] at this
      omega
     have hIx:Lib.indexByte (by8 (p.extract (i+2) p.size)) 93=(n:Int):=by
      have:=zuq he
      rw[hbang.out,List.drop_drop] at this
      rw[zbs,show i+2=i+1+(0+1) by omega,this];congr 1
     have HI:=Lib.hid hIx
     clear hle hIx
     go_enter Tryz.func214,Tryz.ntmps214
     go_wp2_with (first
      | (go_at_call 165;go_must (refine(zgh _ _ _ HB).mono ?_);rintro e w' ⟨rfl,rfl⟩)
      | (go_at_call 266;go_must (refine(znp _ _ _ HI).mono ?_);rintro e w' ⟨rfl,rfl⟩))
     go_ret
     exact⟨ziy (by rw[HP.out];omega),rfl⟩
   ·have HB:Hid (decide (Gl.bang (by8 (p.extract (i+1) p.size))=1)=true):=Lib.hid (by rw[hbu,hb01];rfl)
    have hbang:=Lib.hid hb01
    clear hbu hb01
    cases he:Gl.zdg ((by8 p).drop (i+1)) with
    | none =>
     have h2:¬ (((i+2:Nat):Int)<v):=by
      intro h
      rw[he,hbang.out] at hle
      have:=hle.2 (by omega)
      cases this
     have HP:Hid (Gl.pc ((by8 p).drop i)=1):=Lib.hid (by rw[hpc.out,he])
     have h3:v≤(i:Int)+2:=by omega
     clear hle h2
     go_enter Tryz.func214,Tryz.ntmps214
     go_wp2_with (go_at_call 165;go_must (refine(zgh _ _ _ HB).mono ?_);rintro e w' ⟨rfl,rfl⟩)
     go_ret
     exact⟨ziy (by rw[HP.out]),rfl⟩
    | some k =>
     have hkg:=Gl.zqz he
     rw[hbang.out] at hkg
     have h2:(((i+2:Nat):Int)<v):=by
      rw[he,hbang.out] at hle
      exact hle.1 rfl
     obtain⟨n,rfl⟩:∃ n,k=n+2:=⟨k - 2,by omega⟩
     have HP:Hid (Gl.pc ((by8 p).drop i)=n+4):=Lib.hid (by rw[hpc.out,he])
     have hsz:i+(n+4)≤p.size:=by
      have:=Gl.pc_le ((by8 p).drop i)
      rw[HP.out,List.length_drop,zab] at this
      omega
     have hIx:Lib.indexByte (by8 (p.extract (i+3) p.size)) 93=(n:Int):=by
      have:=zuq he
      rw[hbang.out,List.drop_drop] at this
      rw[zbs,show i+3=i+1+(1+1) by omega,this];congr 1
     have HI:=Lib.hid hIx
     clear hle hIx
     go_enter Tryz.func214,Tryz.ntmps214
     go_wp2_with (first
      | (go_at_call 165;go_must (refine(zgh _ _ _ HB).mono ?_);rintro e w' ⟨rfl,rfl⟩)
      | (go_at_call 266;go_must (refine(znp _ _ _ HI).mono ?_);rintro e w' ⟨rfl,rfl⟩))
     go_ret
     exact⟨ziy (by rw[HP.out];omega),rfl⟩
  ·have hb:((p[i].toNat:Int) == 91)=false:=eq_false (b:=91) h91
   by_cases h92:p[i]=92
   ·have hb2:((p[i].toNat:Int) == 92)=true:=by rw[h92];rfl
    by_cases h1:i+1<p.size
    ·have HP:Hid (Gl.pc ((by8 p).drop i)=2):=Lib.hid (by
      rw[hcons,h92,Gl.zex,if_neg (by decide),if_pos rfl,zbi h1];rfl)
     clear hcons h91 h92
     go_enter Tryz.func214,Tryz.ntmps214
     go_wp2
     go_ret
     exact⟨ziy (by rw[HP.out];omega),rfl⟩
    ·have HP:Hid (Gl.pc ((by8 p).drop i)=1):=Lib.hid (by
      rw[hcons,h92,Gl.zex,if_neg (by decide),if_pos rfl,List.drop_of_length_le (by rw[zab];omega)];rfl)
     clear hcons h91 h92
     go_enter Tryz.func214,Tryz.ntmps214
     go_wp2
     go_ret
     exact⟨ziy (by rw[HP.out];omega),rfl⟩
   ·have hb2:((p[i].toNat:Int) == 92)=false:=eq_false (b:=92) h92
    have HP:Hid (Gl.pc ((by8 p).drop i)=1):=Lib.hid (by
     rw[hcons,Gl.zex,if_neg h91,if_neg h92])
    clear hcons h91 h92
    go_enter Tryz.func214,Tryz.ntmps214
    go_wp2
    go_ret
    exact⟨ziy (by rw[HP.out]),rfl⟩
 ·obtain rfl:i=p.size:=by omega
  have hb:((p.size:Int) == (p.size:Int))=true:=beq_self_eq_true _
  have HE:Hid (p.extract p.size (p.size+Gl.pc ((by8 p).drop p.size))=⟨#[]⟩):=Lib.hid (by
   rw[List.drop_of_length_le (by rw[zab];exact Nat.le_refl _)]
   refine zar ?_
   show by8 (p.extract p.size p.size)=[]
   rw[zbs,List.drop_of_length_le (by rw[zab];exact Nat.le_refl _)])
  go_enter Tryz.func214,Tryz.ntmps214
  go_wp2
  go_ret
  exact⟨by rw[HE.out];rfl,rfl⟩
theorem hasBang2 (u:Bs):Lib.hasPrefix u [33]=decide (u.head?=some 33):=by
 show List.isPrefixOf [33] u=_
 cases u with
 | nil=>rfl
 | cons c u =>
  by_cases h:c=33
  ·subst h;rfl
  ·show ((33:UInt8) == c && _)=_
   rw[beq_eq_false_iff_ne.2 (Ne.symm h)];simp[h]
theorem zol (w:World) (s r:ByteArray) (b:Bool) (hb:Hid (decide ((by8 s).head?=some 33)=b)) (hr:Hid (by8 r=if b then (by8 s).tail else by8 s)) :
  Calls Tryz.prog 278 #[.string s,.string ⟨#[33]⟩] w fun e w'=>e=.returned (.tuple #[.string r,.bool b])∧w=w':=by
 refine(Tryz.strings_CutPrefix s ⟨#[33]⟩ w).mono ?_
 rintro e w' ⟨rfl,rfl⟩
 refine⟨?_,rfl⟩
 have h1:Lib.hasPrefix s.data.toList [33]=b:=by rw[←hb.out];exact hasBang2 _
 have h2:Lib.trimPrefix s.data.toList [33]=by8 r:=by
  unfold Lib.trimPrefix
  rw[hr.out,h1]
  cases b
  ·rfl
  ·show (by8 s).drop 1=_
   rw[List.drop_one];rfl
 show Ending.returned (Value.tuple #[.string ⟨(Lib.trimPrefix s.data.toList [33]).toArray⟩,.bool (Lib.hasPrefix s.data.toList [33])])=_
 rw[h1,h2]
 rfl
theorem inner_is (x:ByteArray):by8 (x.extract 1 (x.size - 1))=Gl.inner (by8 x):=by
 unfold Gl.inner
 rw[List.dropLast_eq_take,List.length_drop,zab]
 show (x.extract 1 (x.size - 1)).data.toList=_
 rw[ByteArray.data_extract,Array.toList_extract]
 rfl
theorem fits_any (w:World) (x:ByteArray) (c:UInt8) (hx:0<x.size) (hs:x.size≤1000000) :
  Calls Tryz.prog 215 #[.string x,.int .u8 (c.toNat:Int)] w fun e w'=>e=.returned (.bool (Gl.zih (by8 x) c))∧w=w':=by
 by_cases h63:by8 x=[63]
 ·have hb:(x.toList == [63])=true:=by rw[Lib.toList_data];exact beq_iff_eq.2 h63
  have HE:Hid (Gl.zih (by8 x) c=true):=Lib.hid (by rw[h63];rfl)
  clear h63
  go_enter Tryz.func215,Tryz.ntmps215
  go_wp2
  go_ret
  exact⟨zao HE.out.symm,rfl⟩
 ·have hb:(x.toList == [63])=false:=by rw[Lib.toList_data];exact beq_eq_false_iff_ne.2 h63
  by_cases h2:x.size≤2
  ·have hlast:(by8 x).getLast?=some x[x.size - 1]:=by
    rw[List.getLast?_eq_getElem?,zab];exact zcc (by omega)
   have HE:Hid (Gl.zih (by8 x) c=decide (x[x.size - 1]=c)):=Lib.hid (by
    unfold Gl.zih
    rw[if_neg h63,if_pos (by rw[zab];exact h2),hlast]
    by_cases e:x[x.size - 1]=c<;>simp[e])
   obtain⟨m,hm⟩:∃ m,x.size=m+1:=⟨x.size - 1,by omega⟩
   have hts:(x.size:Int) - 1=m:=by omega
   have hm1:x.size - 1=m:=by omega
   have hmx:m<x.size:=by omega
   by_cases hc:x[m]=c
   ·have hcb:=eq_true hc
    have HT:Hid (Gl.zih (by8 x) c=true):=Lib.hid (by rw[HE.out];simp only [hm1,hc,decide_true])
    clear hlast h63 hc HE hm hm1
    go_enter Tryz.func215,Tryz.ntmps215
    go_wp2
    go_ret
    exact⟨zao HT.out.symm,rfl⟩
   ·have hcb:=eq_false hc
    have HT:Hid (Gl.zih (by8 x) c=false):=Lib.hid (by rw[HE.out];simp only [hm1,hc,decide_false])
    clear hlast h63 hc HE hm hm1
    go_enter Tryz.func215,Tryz.ntmps215
    go_wp2
    go_ret
    exact⟨zao HT.out.symm,rfl⟩
  ·have HE:Hid (Gl.zih (by8 x) c=Gl.within (by8 (x.extract 1 (x.size - 1))) c):=Lib.hid (by
    unfold Gl.zih
    rw[if_neg h63,if_neg (by rw[zab];exact h2),inner_is])
   obtain⟨m,hm⟩:∃ m,x.size=m+1:=⟨x.size - 1,by omega⟩
   have hts:(x.size:Int) - 1=m:=by omega
   have hm1:x.size - 1=m:=by omega
   rw[hm1] at HE
   have hm2:2≤m:=by omega
   have hm3:m≤x.size:=by omega
   clear h63 hm hm1 h2
   generalize hy:x.extract 1 m=y at HE
   have hys:y.size≤1000000:=by rw[←hy,ByteArray.size_extract];omega
   have HY:=Lib.hid hy
   clear hy
   by_cases h33:(by8 y).head?=some 33
   ·obtain⟨r,hr⟩:∃ r:ByteArray,by8 r=(by8 y).tail:=⟨⟨(by8 y).tail.toArray⟩,rfl⟩
    have hrs:r.size≤1000000:=by rw[←zab,hr,List.length_tail,zab];omega
    have HF:Hid (Gl.zih (by8 x) c=!Gl.listed (by8 r) c):=Lib.hid (by rw[HE.out];unfold Gl.within;rw[if_pos h33,hr])
    have HB:Hid (decide ((by8 y).head?=some 33)=true):=Lib.hid (decide_eq_true h33)
    have HR:Hid (by8 r=if true then (by8 y).tail else by8 y):=Lib.hid hr
    clear h33 hr HE
    go_enter Tryz.func215,Tryz.ntmps215
    go_wp2_with (first
     | (go_at_call 278;go_must (rw[HY.out];refine(zol _ y r _ HB HR).mono ?_);rintro e w' ⟨rfl,rfl⟩)
     | (go_at_call 279;go_must (refine(zpo _ r c hrs).mono ?_);rintro e w' ⟨rfl,rfl⟩))
    go_ret
    exact⟨zao (by rw[HF.out]),rfl⟩
   ·have HF:Hid (Gl.zih (by8 x) c=Gl.listed (by8 y) c):=Lib.hid (by rw[HE.out];unfold Gl.within;rw[if_neg h33])
    have HB:Hid (decide ((by8 y).head?=some 33)=false):=Lib.hid (decide_eq_false h33)
    have HR:Hid (by8 y=if false then (by8 y).tail else by8 y):=Lib.hid rfl
    clear h33 HE
    go_enter Tryz.func215,Tryz.ntmps215
    go_wp2_with (first
     | (go_at_call 278;go_must (rw[HY.out];refine(zol _ y y _ HB HR).mono ?_);rintro e w' ⟨rfl,rfl⟩)
     | (go_at_call 279;go_must (refine(zpo _ y c hys).mono ?_);rintro e w' ⟨rfl,rfl⟩))
    go_ret
    exact⟨zao (by rw[HF.out]),rfl⟩
theorem trim_any (w:World) (s:ByteArray) (b:Bool) (hb:Hid ((by8 s).all (· == 42)=b)) :
  Calls Tryz.prog 156 #[.string s,.string ⟨#[42]⟩] w fun e w'=>∃ r:ByteArray,e=.returned (.string r)∧w=w'∧(r.toList == [])=b∧r.toList.isEmpty=b:=by
 refine(Tryz.strings_TrimLeft_one s 42 (by decide) w).mono ?_
 rintro e w' ⟨rfl,rfl⟩
 have key:∀ l:List UInt8,(Lib.trimLeftB l 42).isEmpty=l.all (· == 42):=by
  intro l
  unfold Lib.trimLeftB
  induction l with
  | nil=>rfl
  | cons c l ih =>
   rw[List.dropWhile_cons,List.all_cons]
   cases h:(c == 42) with
   | true=>simpa using ih
   | false=>rfl
 have h1:(⟨(Lib.trimLeftB s.data.toList 42).toArray⟩:ByteArray).toList.isEmpty=b:=by
  rw[Lib.toList_data,←hb.out];exact key _
 refine⟨_,rfl,rfl,?_,h1⟩
 rw[←h1]
 cases (⟨(Lib.trimLeftB s.data.toList 42).toArray⟩:ByteArray).toList<;>rfl
theorem extract_is (p:ByteArray) (i n:Nat):by8 (p.extract i (i+n))=((by8 p).drop i).take n:=by
 show (p.extract i (i+n)).data.toList=_
 rw[ByteArray.data_extract,Array.toList_extract,List.extract_eq_take_drop,Nat.add_sub_cancel_left]
 rfl
theorem size_is (p:ByteArray) (i:Nat) (h:i≤p.size):(p.extract i (i+Gl.pc ((by8 p).drop i))).size=Gl.pc ((by8 p).drop i):=by
 have:=Gl.pc_le ((by8 p).drop i)
 rw[List.length_drop,zab] at this
 rw[ByteArray.size_extract];omega
theorem zup {P n st fr a i:Nat} (h1:st≤i) (h2:i<P) (h4:a≤n):Gl.left P n (intOf (.int .i64 ((i:Int)+1))).toNat (intOf (.int .i64 (a:Int))).toNat (intOf (.int .i64 (a:Int))).toNat<Gl.left P n (intOf (.int .i64 (st:Int))).toNat (intOf (.int .i64 (fr:Int))).toNat (intOf (.int .i64 (a:Int))).toNat :=
 Gl.left_star h1 h2 h4
theorem zvi {P n st fr a:Nat} (h:a<n):Gl.left P n (intOf (.int .i64 (st:Int))).toNat (intOf (.int .i64 (fr:Int))).toNat (intOf (.int .i64 ((a:Int)+1))).toNat<Gl.left P n (intOf (.int .i64 (st:Int))).toNat (intOf (.int .i64 (fr:Int))).toNat (intOf (.int .i64 (a:Int))).toNat :=
 Gl.left_fit h
theorem zlo {P n st fr a:Nat} (h1:fr≤a) (h:a<n):Gl.left P n (intOf (.int .i64 (st:Int))).toNat (intOf (.int .i64 ((fr:Int)+1))).toNat (intOf (.int .i64 ((fr:Int)+1))).toNat<Gl.left P n (intOf (.int .i64 (st:Int))).toNat (intOf (.int .i64 (fr:Int))).toNat (intOf (.int .i64 (a:Int))).toNat :=
 Gl.left_back h1 h
theorem Match_any (w:World) (p s:ByteArray) (hp:p.size≤1000000) (hs:s.size≤1000000) :
  Calls Tryz.prog 128 #[.string p,.string s] w fun e w'=>e=.returned (.bool (Gl.zei (by8 p) (by8 s)))∧w=w':=by
 go_enter Tryz.func128,Tryz.ntmps128
 go_wp2_with fail
 refine(zqj _ p hp).mono ?_
 rintro e w' ⟨v,rfl,rfl,hv1,hv2,hlast⟩
 have HL:=Lib.hid hlast
 clear hlast
 go_wp2_with fail
 go_loop [6,7,8,9] (fun i a st fr=>∃ ni na ns nf:Nat,i=.int .i64 ni∧a=.int .i64 na∧st=.int .i64 ns∧fr=.int .i64 nf∧Gl.Inv (by8 p) (by8 s) ni na ns nf) (fun _ a st fr=>Gl.left p.size s.size (intOf st).toNat (intOf fr).toNat (intOf a).toNat)
 case atStart=>exact⟨0,0,0,0,rfl,rfl,rfl,rfl,Gl.inv_start _ _⟩
 case round =>
  obtain⟨ni,na,ns,nf,rfl,rfl,rfl,rfl,hinv⟩:=hrel
  have hi:=hinv.hi
  have ha:=hinv.ha
  have hst:=hinv.hst
  have hfr:=hinv.hfr
  rw[zab] at hi ha
  have HI:=Lib.hid hinv
  clear hinv
  by_cases hat:na<s.size
  ·have hpiece:=Lib.hid (piece_any w p ni v hi hp HL)
   have hsz:=size_is p ni hi
   have hex:=extract_is p ni (Gl.pc ((by8 p).drop ni))
   have hgs:=zcc hat
   generalize p.extract ni (ni+Gl.pc ((by8 p).drop ni))=x at hpiece hsz hex
   have HS:=Lib.hid hsz
   have HE:=Lib.hid hex
   have HG:=Lib.hid hgs
   clear hsz hex hgs
   by_cases hlt:ni<p.size
   ·have hcons:=zbi hlt
    have hgp:=zcc hlt
    by_cases h42:p[ni]=42
    ·have hx:(x.toList == [42])=true:=by
      rw[Lib.toList_data,beq_iff_eq]
      show by8 x=[42]
      rw[HE.out,hcons,h42,Gl.pc_star rfl];rfl
     rw[h42] at hgp
     have HN:=Lib.hid (Gl.inv_star HI.out (by rw[zab];exact hlt) hgp)
     clear hcons hgp h42
     go_wp2_with (go_at_call 214;go_must (refine hpiece.out.mono ?_);rintro e w' ⟨rfl,rfl⟩)
     go_round
     case rel=>exact⟨ni+1,na,ni+1,na,by go_num,rfl,by go_num,rfl,HN.out⟩
     case measure=>exact zup hst hlt ha
    ·have hne:(by8 p).drop ni≠[]:=by rw[hcons];simp
     have hh:((by8 p).drop ni).head?≠some 42:=by rw[hcons];simpa using h42
     have hno:(by8 p)[ni]?≠some 42:=by rw[hgp];exact fun e=>h42 (Option.some.inj e)
     have hpos:=Gl.zvb hne
     have hx:(x.toList == [42])=false:=by
      rw[Lib.toList_data,beq_eq_false_iff_ne]
      show by8 x≠[42]
      rw[HE.out,hcons]
      intro e
      have:=congrArg List.head? e
      rw[List.head?_take,if_neg (by rw[←hcons];omega)] at this
      simp at this
      exact h42 this
     have hx0:0<x.size:=by rw[HS.out];exact hpos
     have hxs:x.size≤1000000:=by
      have:=Gl.pc_le ((by8 p).drop ni)
      rw[List.length_drop,zab] at this
      rw[HS.out];omega
     have hxe:x.toList.isEmpty=false:=by
      rw[Lib.toList_data]
      show (by8 x).isEmpty=false
      cases hb:by8 x with
      | nil=>have:=zab x;rw[hb] at this;simp at this;omega
      | cons=>rfl
     have hf:Gl.zih (by8 x) s[na]=Gl.stands (Gl.place ((by8 p).drop ni)) s[na]:=by
      rw[HE.out];exact Gl.fits_is _ hne hh
     have hfit:=fits_any w x s[na] hx0 hxs
     rw[hf] at hfit
     have HNO:=Lib.hid hno
     have HSUM:Hid (ni+Gl.pc ((by8 p).drop ni)=ni+x.size):=Lib.hid (by rw[HS.out])
     cases hb:Gl.stands (Gl.place ((by8 p).drop ni)) s[na] with
     | true =>
      rw[hb] at hfit
      have HF:=Lib.hid hfit
      have HN:=Lib.hid (Gl.inv_fit HI.out (by rw[zab];exact hlt) HNO.out HG.out hb)
      have hle:=HN.out.hi
      rw[HSUM.out,zab] at hle
      clear hcons hgp h42 hne hh hno hpos hf hfit hb
      go_wp2_with (first
       | (go_at_call 214;go_must (refine hpiece.out.mono ?_);rintro e w' ⟨rfl,rfl⟩)
       | (go_at_call 215;go_must (refine HF.out.mono ?_);rintro e w' ⟨rfl,rfl⟩))
      go_round
      case rel=>exact⟨ni+x.size,na+1,ns,nf,by go_num,by go_num,rfl,rfl,by have:=HN.out;rwa[HSUM.out] at this⟩
      case measure=>exact zvi hat
     | false =>
      rw[hb] at hfit
      have HF:=Lib.hid hfit
      have HQ:Hid (ni<(by8 p).length→(by8 p)[ni]?≠some 42∧Gl.stands (Gl.place ((by8 p).drop ni)) s[na]=false):=Lib.hid (fun _=>⟨HNO.out,hb⟩)
      clear hcons hgp h42 hne hh hno hpos hf hfit hb
      by_cases h0:0<ns
      ·have HN:=Lib.hid (Gl.inv_back HI.out h0 HG.out HQ.out)
       go_wp2_with (first
        | (go_at_call 214;go_must (refine hpiece.out.mono ?_);rintro e w' ⟨rfl,rfl⟩)
        | (go_at_call 215;go_must (refine HF.out.mono ?_);rintro e w' ⟨rfl,rfl⟩))
       go_round
       case rel=>exact⟨ns,nf+1,ns,nf+1,rfl,by go_num,rfl,by go_num,HN.out⟩
       case measure=>exact zlo hfr hat
      ·obtain rfl:ns=0:=by omega
       have HN:=Lib.hid (Gl.inv_no HI.out HG.out HQ.out)
       go_wp2_with (first
        | (go_at_call 214;go_must (refine hpiece.out.mono ?_);rintro e w' ⟨rfl,rfl⟩)
        | (go_at_call 215;go_must (refine HF.out.mono ?_);rintro e w' ⟨rfl,rfl⟩))
       go_ret
       exact⟨zao HN.out.symm,rfl⟩
   ·have HQ:Hid (ni<(by8 p).length→(by8 p)[ni]?≠some 42∧Gl.stands (Gl.place ((by8 p).drop ni)) s[na]=false):=Lib.hid (fun h=>by rw[zab] at h;exact absurd h hlt)
    have hx0:by8 x=[]:=by
     rw[HE.out,List.drop_of_length_le (by rw[zab];omega)];simp
    have hx:(x.toList == [42])=false:=by rw[Lib.toList_data];show (by8 x == [42])=false;rw[hx0];rfl
    have hxe:x.toList.isEmpty=true:=by rw[Lib.toList_data];show (by8 x).isEmpty=true;rw[hx0];rfl
    clear hx0
    by_cases h0:0<ns
    ·have HN:=Lib.hid (Gl.inv_back HI.out h0 HG.out HQ.out)
     go_wp2_with (go_at_call 214;go_must (refine hpiece.out.mono ?_);rintro e w' ⟨rfl,rfl⟩)
     go_round
     case rel=>exact⟨ns,nf+1,ns,nf+1,rfl,by go_num,rfl,by go_num,HN.out⟩
     case measure=>exact zlo hfr hat
    ·obtain rfl:ns=0:=by omega
     have HN:=Lib.hid (Gl.inv_no HI.out HG.out HQ.out)
     go_wp2_with (go_at_call 214;go_must (refine hpiece.out.mono ?_);rintro e w' ⟨rfl,rfl⟩)
     go_ret
     exact⟨zao HN.out.symm,rfl⟩
  ·obtain rfl:na=s.size:=by omega
   have HN:=Lib.hid (Gl.inv_end HI.out (zab s).symm)
   have HT:Hid ((by8 (p.extract ni p.size)).all (· == 42)=Gl.zei (by8 p) (by8 s)):=Lib.hid (by rw[zbs,HN.out])
   go_wp2_with fail
   refine(trim_any _ _ _ HT).mono ?_
   rintro e w' ⟨r,rfl,rfl,hr1,hr2⟩
   go_wp2
   go_ret
   exact⟨rfl,rfl⟩
def hid (x:Bs):Bool:=decide (x.head?=some 46)
def zif (a b:Bs):Bool:=!(hid b && !hid a) && Gl.zei a b
def zbo:List Bs→List Bs→Bool
 | a :: l,b :: r=>zif a b && zbo l r
 | _,_=>true
def zef (p s:Bs):Bool:=zaq s && decide ((Pt.pieces p).length=(Pt.pieces s).length) && zbo (Pt.pieces p) (Pt.pieces s)
theorem zhj:∀ (l:Bs),((Pt.pieces l).length:Int)=Lib.countByte l 47+1
 | []=>rfl
 | c :: l=>by
  have ih:=zhj l
  have hne:=Pt.zfz l
  unfold Lib.countByte at ih ⊢
  by_cases h:c=47
  ·subst h
   rw[List.count_cons_self]
   show ((([]:Bs) :: Pt.pieces l).length:Int)=_
   rw[List.length_cons];omega
  ·rw[List.count_cons_of_ne h]
   cases hp:Pt.pieces l with
   | nil=>exact absurd hp hne
   | cons x xs =>
    rw[hp] at ih
    show ((if c=47 then [] :: Pt.pieces l else match Pt.pieces l with | []=>[[c]] | x :: xs=>(c :: x) :: xs).length:Int)=_
    rw[if_neg h,hp]
    exact ih
def zuw (s a b:Bs) (t:Bool):Prop:=(t=true∧Pt.pieces s=a :: Pt.pieces b∧b.length<s.length∧a.length≤s.length)∨(t=false∧Pt.pieces s=[a]∧b=[]∧a.length≤s.length)
theorem cutS_any (w:World) (s:ByteArray) (hs:s.size≤1000000) :
  Calls Tryz.prog 212 #[.string s,.string ⟨#[47]⟩] w fun e w'=>∃ (a b:ByteArray) (t:Bool),e=.returned (.tuple #[.string a,.string b,.bool t])∧zuw (by8 s) (by8 a) (by8 b) t∧Below w.heap.size w w':=by
 have hge:=Lib.indexByte_ge s.data.toList 47
 by_cases h:Lib.indexByte s.data.toList 47=-1
 ·have HC:Hid (zuw (by8 s) (by8 s) (by8 ⟨#[]⟩) false):=Lib.hid (.inr ⟨rfl,Pt.zgk _ (fun hm=>by
   obtain⟨k,hk⟩:=List.mem_iff_getElem?.1 hm
   exact Lib.indexByte_none h k hk),rfl,Nat.le_refl _⟩)
  have HH:=Lib.hid h
  clear h hge
  go_enter Tryz.func212,Tryz.ntmps212
  go_wp2_with (go_at_call 276;go_must (refine(zle _ s).mono ?_);rw[HH.out];rintro e w' ⟨rfl,rfl⟩)
  go_ret3
  exact⟨s,⟨#[]⟩,false,rfl,HC.out,Below.refl _ _⟩
 ·obtain⟨o,ho⟩:=Int.eq_ofNat_of_zero_le (show 0≤Lib.indexByte s.data.toList 47 by omega)
  have HH:=Lib.hid ho
  have hso:(by8 s)[o]?=some 47:=(Lib.indexByte_some ho).1
  have hol:o<s.size:=by rw[←zab];exact(List.getElem?_eq_some_iff.1 hso).1
  have hoi:(o:Int)<(s.size:Int):=by omega
  have ho0:(0:Int)≤(o:Int):=Int.natCast_nonneg _
  have HC:Hid (zuw (by8 s) (by8 (s.extract 0 o)) (by8 (s.extract (o+1) s.size)) true):=Lib.hid (by
   refine .inl ⟨rfl,?_,?_,?_⟩
   ·rw[zgo,zbs,←Pt.zer]
    ·congr 1
     have:=zbi hol
     rw[zcc hol] at hso
     rw[←Option.some.inj hso,←this,List.take_append_drop]
    ·intro hm
     obtain⟨k,hk⟩:=List.mem_iff_getElem?.1 hm
     have hko:k<o:=by
      have:=(List.getElem?_eq_some_iff.1 hk).1
      rw[List.length_take] at this;omega
     rw[List.getElem?_take_of_lt hko] at hk
     exact(Lib.indexByte_some ho).2 k hko hk
   ·rw[zab,zab,ByteArray.size_extract];omega
   ·rw[zab,zab,ByteArray.size_extract];omega)
  have hwr:IntKind.i64.wrap ((o:Int)+1)=(o:Int)+1:=by rw[IntWalk.i64_in _ (by omega)]
  have ho1:(0:Int)≤(o:Int)+1:=by omega
  have ho2:(o:Int)+1≤(s.size:Int):=by omega
  have ho3:((o:Int)+1).toNat=o+1:=by omega
  clear h hge ho hso
  go_enter Tryz.func212,Tryz.ntmps212
  go_wp2_with (go_at_call 276;go_must (refine(zle _ s).mono ?_);rw[HH.out];rintro e w' ⟨rfl,rfl⟩)
  go_quiet (fail)
  go_wp2
  go_ret3
  exact⟨_,_,_,rfl,HC.out,below_drewN (Below.refl _ _) _⟩
theorem zro (w:World) (s:ByteArray) (hs:s.size≤1000000) :
  Calls Tryz.prog 126 #[.string s,.string ⟨#[47]⟩] w fun e w'=>∃ (a b:ByteArray) (t:Bool),e=.returned (.tuple #[.string a,.string b,.bool t])∧zuw (by8 s) (by8 a) (by8 b) t∧Below w.heap.size w w':=by
 go_enter Tryz.func126,Tryz.ntmps126
 go_wp2_with fail
 refine(cutS_any _ s hs).mono ?_
 rintro e w' ⟨a,b,t,rfl,hc,hB⟩
 go_wp2
 go_ret3
 exact⟨a,b,t,rfl,hc,hB⟩
theorem zft (w:World) (s:ByteArray) (b:Bool) (hb:Hid (hid (by8 s)=b)) :
  Calls Tryz.prog 127 #[.string s] w fun e w'=>e=.returned (.bool b)∧w=w':=by
 have hpre:∀ u:Bs,List.isPrefixOf [46] u=hid u:=by
  intro u
  unfold hid
  cases u with
  | nil=>rfl
  | cons c u =>
   by_cases h:c=46
   ·subst h;rfl
   ·show ((46:UInt8) == c && _)=_
    rw[beq_eq_false_iff_ne.2 (Ne.symm h)];simp[h]
 have HP:Hid (Lib.hasPrefix s.data.toList [46]=b):=Lib.hid (by rw[←hb.out];exact hpre _)
 clear hpre
 go_enter Tryz.func127,Tryz.ntmps127
 go_wp2_with (go_at_call 165;go_must (refine(Tryz.strings_HasPrefix s ⟨#[46]⟩ _).mono ?_);rintro e w' ⟨rfl,rfl⟩)
 go_ret
 exact⟨zao HP.out,rfl⟩
def cnt (s:ByteArray):Int:=(Lib.countByte (by8 s) 47:Int)
theorem zsx (w:World) (s:ByteArray) :
  Calls Tryz.prog 125 #[.string s,.string ⟨#[47]⟩] w fun e w'=>e=.returned (.int .i64 (cnt s))∧w=w':=by
 refine(Tryz.strings_Count_one s 47 w).mono ?_
 rintro e w' ⟨rfl,rfl⟩
 exact⟨rfl,rfl⟩
def PRel (B:Nat) (w:World) (p s:Bs) (pv sv mv:Value) (wr:World):Prop :=
 ∃ (P S:ByteArray) (m:Bool),pv=.string P∧sv=.string S∧mv=.bool m∧P.size≤1000000∧S.size≤1000000∧Below B w wr ∧
  ((m=true∧(Pt.pieces (by8 P)).length=(Pt.pieces (by8 S)).length∧zbo (Pt.pieces (by8 P)) (Pt.pieces (by8 S))=zbo (Pt.pieces p) (Pt.pieces s))∨(m=false∧zbo (Pt.pieces p) (Pt.pieces s)=true))
def leftP (sv mv:Value):Nat:=match mv,sv with
 | .bool true,.string S=>S.size+1
 | _,_=>0
theorem znd {p s:Bs} (h:zaq s=false):zef p s=false:=by unfold zef;rw[h];rfl
theorem zuk {p s:Bs} (h:¬ (Pt.pieces p).length=(Pt.pieces s).length):zef p s=false:=by unfold zef;rw[decide_eq_false h,Bool.and_false];rfl
theorem zuy {p s:Bs} (h:zaq s=true) (h2:(Pt.pieces p).length=(Pt.pieces s).length):zef p s=zbo (Pt.pieces p) (Pt.pieces s):=by unfold zef;rw[h,decide_eq_true h2];rfl
theorem cut_both {P S a1 b1 a2 b2:Bs} {t1 t2:Bool} (h1:zuw P a1 b1 t1) (h2:zuw S a2 b2 t2) (hl:(Pt.pieces P).length=(Pt.pieces S).length) :
  (t2=true∧(Pt.pieces b1).length=(Pt.pieces b2).length∧zbo (Pt.pieces P) (Pt.pieces S)=(zif a1 a2 && zbo (Pt.pieces b1) (Pt.pieces b2))∧b2.length<S.length)∨(t2=false∧zbo (Pt.pieces P) (Pt.pieces S)=zif a1 a2):=by
 rcases h1 with ⟨rfl,e1,_,_⟩ | ⟨rfl,e1,rfl,_⟩
 ·rcases h2 with ⟨rfl,e2,hlt,_⟩ | ⟨rfl,e2,rfl,_⟩
  ·rw[e1,e2] at hl ⊢
   exact .inl ⟨rfl,by simpa using hl,rfl,hlt⟩
  ·rw[e1,e2,List.length_cons,List.length_cons,List.length_nil] at hl
   have:=List.length_pos_iff.2 (Pt.zfz b1)
   omega
 ·rcases h2 with ⟨rfl,e2,_,_⟩ | ⟨rfl,e2,rfl,_⟩
  ·rw[e1,e2,List.length_cons,List.length_cons,List.length_nil] at hl
   have:=List.length_pos_iff.2 (Pt.zfz b2)
   omega
  ·rw[e1,e2]
   exact .inr ⟨rfl,by simp[zbo]⟩
theorem cut_sizes {P S a1 b1 a2 b2:Bs} {t1 t2:Bool} (h1:zuw P a1 b1 t1) (h2:zuw S a2 b2 t2):a1.length≤P.length∧a2.length≤S.length∧b1.length≤P.length∧b2.length≤S.length:=by
 rcases h1 with ⟨_,_,h3,h4⟩ | ⟨_,_,rfl,h4⟩<;>rcases h2 with ⟨_,_,h5,h6⟩ | ⟨_,_,rfl,h6⟩
 all_goals (refine⟨?_,?_,?_,?_⟩)
 all_goals first | assumption | exact Nat.zero_le _ | omega
theorem zrj {P S a1 b1 a2 b2:Bs} {t2:Bool} (h:(t2=true∧(Pt.pieces b1).length=(Pt.pieces b2).length∧zbo (Pt.pieces P) (Pt.pieces S)=(zif a1 a2 && zbo (Pt.pieces b1) (Pt.pieces b2))∧b2.length<S.length)∨(t2=false∧zbo (Pt.pieces P) (Pt.pieces S)=zif a1 a2))
  (hb:zif a1 a2=false):zbo (Pt.pieces P) (Pt.pieces S)=false:=by
 rcases h with ⟨_,_,e,_⟩ | ⟨_,e⟩
 ·rw[e,hb];rfl
 ·rw[e,hb]
theorem zpn {P S a1 b1 a2 b2:Bs} {t2 r:Bool} (h:(t2=true∧(Pt.pieces b1).length=(Pt.pieces b2).length∧zbo (Pt.pieces P) (Pt.pieces S)=(zif a1 a2 && zbo (Pt.pieces b1) (Pt.pieces b2))∧b2.length<S.length)∨(t2=false∧zbo (Pt.pieces P) (Pt.pieces S)=zif a1 a2))
  (hb:zif a1 a2=true) (hr:zbo (Pt.pieces P) (Pt.pieces S)=r):(t2=true∧(Pt.pieces b1).length=(Pt.pieces b2).length∧zbo (Pt.pieces b1) (Pt.pieces b2)=r)∨(t2=false∧r=true):=by
 rcases h with ⟨h1,h2,e,_⟩ | ⟨h1,e⟩
 ·exact .inl ⟨h1,h2,by rw[←hr,e,hb];rfl⟩
 ·exact .inr ⟨h1,by rw[←hr,e,hb]⟩
theorem zsm {P a1 b1 a2:Bs} {S S2:ByteArray} {t2:Bool} (h:(t2=true∧(Pt.pieces b1).length=(Pt.pieces (by8 S2)).length∧zbo (Pt.pieces P) (Pt.pieces (by8 S))=(zif a1 a2 && zbo (Pt.pieces b1) (Pt.pieces (by8 S2)))∧(by8 S2).length<(by8 S).length)∨(t2=false∧zbo (Pt.pieces P) (Pt.pieces (by8 S))=zif a1 a2)) :
  leftP (.string S2) (.bool t2)<leftP (.string S) (.bool true):=by
 rcases h with ⟨rfl,_,_,h4⟩ | ⟨rfl,_⟩
 ·rw[zab,zab] at h4
  show S2.size+1<S.size+1;omega
 ·show 0<S.size+1;omega
theorem Path_any (w:World) (p s:ByteArray) (hp:p.size≤1000000) (hs:s.size≤1000000) :
  Calls Tryz.prog 66 #[.string p,.string s] w fun e w'=>e=.returned (.bool (zef (by8 p) (by8 s)))∧Below w.heap.size w w':=by
 have hcl:=zok w s (by omega)
 cases hc:zaq (bs s) with
 | false =>
  rw[hc] at hcl
  have HCL:=Lib.hid hcl
  have HE:=Lib.hid (znd (p:=by8 p) (s:=by8 s) hc)
  clear hc hcl
  go_enter Tryz.func66,Tryz.ntmps66
  go_wp2_with (go_at_call 47;go_must (refine HCL.out.mono ?_);rintro e w' ⟨rfl,hB⟩)
  go_ret
  exact⟨zao HE.out.symm,hB⟩
 | true =>
  rw[hc] at hcl
  have HCL:=Lib.hid hcl
  have hcp:((Pt.pieces (by8 p)).length:Int)=cnt p+1:=zhj (by8 p)
  have hcs:((Pt.pieces (by8 s)).length:Int)=cnt s+1:=zhj (by8 s)
  by_cases hl:(Pt.pieces (by8 p)).length=(Pt.pieces (by8 s)).length
  ·have hbe:(cnt p == cnt s)=true:=by rw[beq_iff_eq];omega
   have hbn:(cnt p != cnt s)=false:=by rw[bne,hbe];rfl
   have HE:=Lib.hid (zuy (p:=by8 p) (s:=by8 s) hc hl)
   have HL:=Lib.hid hl
   clear hc hcl hcp hcs hl
   go_enter Tryz.func66,Tryz.ntmps66
   go_wp2_with (first
    | (go_at_call 47;go_must (refine HCL.out.mono ?_);rintro e w1 ⟨rfl,hB⟩)
    | (go_at_call 125;go_must (refine(zsx _ _).mono ?_);rintro e w' ⟨rfl,rfl⟩))
   go_loopw [0,1,5] (fun pv sv mv wr=>PRel w.heap.size w (by8 p) (by8 s) pv sv mv wr) (fun _ sv mv _=>leftP sv mv)
   case atStart=>exact⟨p,s,true,rfl,rfl,rfl,hp,hs,hB,.inl ⟨rfl,HL.out,rfl⟩⟩
   case round =>
    obtain⟨P,S,m,rfl,rfl,rfl,hP,hS,hBr,hcase⟩:=hrel
    rcases hcase with ⟨rfl,hlen,hpart⟩ | ⟨rfl,hpart⟩
    ·have HLEN:=Lib.hid hlen
     have HPART:=Lib.hid hpart
     clear hlen hpart
     go_wp2_with fail
     refine(zro _ P hP).mono ?_
     rintro e w2 ⟨x,P2,t1,rfl,c1,B2⟩
     have C1:=Lib.hid c1
     clear c1
     go_wp2_with fail
     refine(zro _ S hS).mono ?_
     rintro e w3 ⟨y,S2,t2,rfl,c2,B3⟩
     have C2:=Lib.hid c2
     have hB3:=(hBr.trans (B2.mono hBr.size)).trans (B3.mono (Nat.le_trans hBr.size B2.size))
     have hboth:=Lib.hid (cut_both C1.out C2.out HLEN.out)
     have hsz:=Lib.hid (cut_sizes C1.out C2.out)
     clear c2 B2 B3
     have hxs:x.size≤1000000:=by have:=hsz.out.1;rw[zab,zab] at this;omega
     have hys:y.size≤1000000:=by have:=hsz.out.2.1;rw[zab,zab] at this;omega
     have hP2:P2.size≤1000000:=by have:=hsz.out.2.2.1;rw[zab,zab] at this;omega
     have hS2:S2.size≤1000000:=by have:=hsz.out.2.2.2;rw[zab,zab] at this;omega
     obtain⟨h1,H1⟩:∃ b,Hid (hid (by8 y)=b):=⟨_,Lib.hid rfl⟩
     obtain⟨h2,H2⟩:∃ b,Hid (hid (by8 x)=b):=⟨_,Lib.hid rfl⟩
     obtain⟨h3,H3⟩:∃ b,Hid (Gl.zei (by8 x) (by8 y)=b):=⟨_,Lib.hid rfl⟩
     have HPB:Hid (zif (by8 x) (by8 y)=(!(h1 && !h2) && h3)):=Lib.hid (by unfold zif;rw[H1.out,H2.out,H3.out])
     have hm:=Match_any w3 x y hxs hys
     rw[H3.out] at hm
     have HMT:=Lib.hid hm
     clear hm
     cases h1 with
     | true =>
      cases h2 with
      | false =>
       have HF:Hid (zbo (Pt.pieces (by8 p)) (Pt.pieces (by8 s))=false):=Lib.hid (by rw[←HPART.out];exact zrj hboth.out HPB.out)
       go_wp2_with fail
       refine(zft _ _ _ H1).mono ?_
       rintro e w' ⟨rfl,rfl⟩
       go_wp2_with fail
       refine(zft _ _ _ H2).mono ?_
       rintro e w' ⟨rfl,rfl⟩
       go_wp2_with fail
       go_ret
       exact⟨zao (HE.out.trans HF.out).symm,hB3⟩
      | true =>
       go_wp2_with fail
       refine(zft _ _ _ H1).mono ?_
       rintro e w' ⟨rfl,rfl⟩
       go_wp2_with fail
       refine(zft _ _ _ H2).mono ?_
       rintro e w' ⟨rfl,rfl⟩
       go_wp2_with fail
       refine HMT.out.mono ?_
       rintro e w' ⟨rfl,rfl⟩
       cases h3 with
       | false =>
        have HF:Hid (zbo (Pt.pieces (by8 p)) (Pt.pieces (by8 s))=false):=Lib.hid (by rw[←HPART.out];exact zrj hboth.out HPB.out)
        go_wp2_with fail
        go_ret
        exact⟨zao (HE.out.trans HF.out).symm,hB3⟩
       | true =>
        go_wp2_with fail
        go_roundw
        case rel=>exact⟨P2,S2,t2,rfl,rfl,rfl,hP2,hS2,hB3,zpn hboth.out HPB.out HPART.out⟩
        case measure=>exact zsm hboth.out
     | false =>
      go_wp2_with fail
      refine(zft _ _ _ H1).mono ?_
      rintro e w' ⟨rfl,rfl⟩
      go_wp2_with fail
      refine HMT.out.mono ?_
      rintro e w' ⟨rfl,rfl⟩
      cases h3 with
      | false =>
       have HF:Hid (zbo (Pt.pieces (by8 p)) (Pt.pieces (by8 s))=false):=Lib.hid (by rw[←HPART.out];exact zrj hboth.out HPB.out)
       go_wp2_with fail
       go_ret
       exact⟨zao (HE.out.trans HF.out).symm,hB3⟩
      | true =>
       go_wp2_with fail
       go_roundw
       case rel=>exact⟨P2,S2,t2,rfl,rfl,rfl,hP2,hS2,hB3,zpn hboth.out HPB.out HPART.out⟩
       case measure=>exact zsm hboth.out
    ·have HPART:=Lib.hid hpart
     clear hpart
     go_wp2
     go_ret
     exact⟨zao (HE.out.trans HPART.out).symm,hBr⟩
  ·have hbe:(cnt p == cnt s)=false:=by rw[beq_eq_false_iff_ne];omega
   have hbn:(cnt p != cnt s)=true:=by rw[bne,hbe];rfl
   have HE:=Lib.hid (zuk (p:=by8 p) (s:=by8 s) hl)
   clear hc hcl hcp hcs hl
   go_enter Tryz.func66,Tryz.ntmps66
   go_wp2_with (first
    | (go_at_call 47;go_must (refine HCL.out.mono ?_);rintro e w1 ⟨rfl,hB⟩)
    | (go_at_call 125;go_must (refine(zsx _ _).mono ?_);rintro e w' ⟨rfl,rfl⟩))
   go_ret
   exact⟨zao HE.out.symm,hB⟩
end Gm
end Go.Proofs.YtgdpbnfgcabneaaGreatDoor

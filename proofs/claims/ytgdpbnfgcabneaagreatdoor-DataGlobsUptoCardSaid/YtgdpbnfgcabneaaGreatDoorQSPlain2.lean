/- Part of the proof. -/
import Derived.Test.YtgdpbnfgcabneaaGreatDoorQSAdd
set_option maxRecDepth 100000
set_option maxHeartbeats 40000000
namespace Go.Proofs.YtgdpbnfgcabneaaGreatDoor
namespace Sw
open Go.RowKit
def AllGood (P:List (List UInt8)):Prop:=∀ x∈P,Pt.Good x
theorem AllGood.nil:AllGood []:=fun _ h=>(List.not_mem_nil h).elim
theorem AllGood.cut {P Q:List (List UInt8)} (h:AllGood (P++Q)):AllGood P:=fun x hx=>h x (List.mem_append_left _ hx)
theorem AllGood.take {P:List (List UInt8)} (h:AllGood P) (k:Nat):AllGood (P.take k):=fun x hx=>h x (List.mem_of_mem_take hx)
theorem zce {p:List UInt8}:zaq p=true↔∃ P,AllGood P∧p=Pt.text P:=by
 unfold zaq
 rw[decide_eq_true_eq]
 constructor
 ·intro h
  obtain⟨o,_,ho,hp⟩:=Pt.ztv h
  exact⟨o,ho,hp⟩
 ·rintro ⟨P,hP,rfl⟩
  exact Pt.join_text hP
theorem zqq {P Q:List (List UInt8)} (hP:AllGood P) (hQ:AllGood Q) (h:Pt.text P=Pt.text Q):P=Q:=by
 rw[←Pt.zbt hP,←Pt.zbt hQ,h]
theorem zmg:Pt.text []=[46]:=rfl
theorem zhf {P:List (List UInt8)} (hP:AllGood P):Pt.text P=[46]↔P=[]:=by
 constructor
 ·intro h;exact zqq hP AllGood.nil h
 ·rintro rfl;rfl
theorem zeu {P:List (List UInt8)} {x:List UInt8} (h:AllGood (P++[x])):dirL (Pt.text (P++[x]))=Pt.text P:=by
 rw[ztc h,List.dropLast_concat]
def Within (L:List F) (P:List (List UInt8)):Prop:=P=[]∨∃ g∈L,g.p=Pt.text P∧g.d=true
def Closed (L:List F):Prop:=∀ f∈L,∃ P x,AllGood (P++[x])∧f.p=Pt.text (P++[x])∧Within L P
theorem Closed.nil:Closed []:=fun _ h=>(List.not_mem_nil h).elim
theorem zgp {P:List (List UInt8)} (h:P≠[]):∃ Q x,P=Q++[x]:=by
 rcases List.eq_nil_or_concat P with rfl | ⟨Q,x,rfl⟩
 ·exact absurd rfl h
 ·exact⟨Q,x,by simp⟩
theorem zlg {P:List (List UInt8)} (hP:AllGood P) (hne:P≠[]):Pt.text P=Pt.inter P:=by
 unfold Pt.text
 rw[if_neg (fun e=>hne ((Pt.zcq hP).1 e))]
theorem zsh {P:List (List UInt8)} (hg:AllGood P):P.length≤(Pt.text P).length:=by
 rcases Classical.em (P=[]) with rfl | hne
 ·simp
 ·rw[zlg hg hne]
  clear hne
  have key:∀ (P:List (List UInt8)),AllGood P→P.length≤(Pt.inter P).length:=by
   intro P
   induction P with
   | nil=>intro _;simp
   | cons a r ih =>
    intro hg
    have ha:0<a.length:=List.length_pos_iff.2 (hg a (by simp)).1
    cases r with
    | nil=>exact ha
    | cons b r =>
     have:=ih (fun y hy=>hg y (List.mem_cons_of_mem _ hy))
     simp[Pt.inter] at this ⊢;omega
  exact key P hg
theorem inL_iff {P Q:List (List UInt8)} (hP:AllGood P) (hQ:AllGood Q):inL (Pt.text P) (Pt.text Q)=true↔Q <+: P:=by
 rw[inL_text hP hQ,List.isPrefixOf_iff_prefix]
open Go.Maps Go.Sort
end Sw
namespace Sw
open Go.RowKit
def rDir (q:List UInt8):List UInt8:=Pt.text (Pt.parts q).dropLast
theorem rDir_text {P:List (List UInt8)} (h:AllGood P):rDir (Pt.text P)=dirL (Pt.text P):=by
 unfold rDir
 rw[Pt.zbt h,ztc h]
theorem zty:∀ (l m:List (List UInt8)),l.Nodup→(∀ x∈l,x∈m)→l.length≤m.length
 | [],_,_,_=>Nat.zero_le _
 | x :: l,m,h,hs=>by
  obtain⟨h1,h2⟩:=List.nodup_cons.1 h
  have hx:=hs x (by simp)
  have:=zty l (m.erase x) h2 fun y hy=>(List.mem_erase_of_ne (fun e=>h1 (by rw[←e];exact hy))).2 (hs y (List.mem_cons_of_mem _ hy))
  rw[List.length_erase_of_mem hx] at this
  have hm:0<m.length:=List.length_pos_of_mem hx
  simp;omega
end Sw
end Go.Proofs.YtgdpbnfgcabneaaGreatDoor

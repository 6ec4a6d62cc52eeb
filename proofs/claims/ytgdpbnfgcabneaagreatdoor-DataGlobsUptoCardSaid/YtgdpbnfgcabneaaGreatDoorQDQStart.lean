/- Part of the proof. -/
import Derived.Test.YtgdpbnfgcabneaaGreatDoorQDZWords
import Derived.Test.YtgdpbnfgcabneaaGreatDoorQJoin
set_option maxRecDepth 100000
set_option maxHeartbeats 40000000
namespace Go.Proofs.YtgdpbnfgcabneaaGreatDoor
namespace Dq
open Go.RowKit Go.Maps Ww Tw Kw Jw Xb Xw Dz
abbrev DT:TypeId:=69
abbrev RT:TypeId:=145
abbrev ST:TypeId:=9
abbrev FiT:TypeId:=85
def inV (n:Int):Value:=.int .i64 n
def inD (n:Int):DataW Unit:=.lit (.int .i64 n)
def inElem:Value→Option (DataW Unit×List MemPlace)
 | .int .i64 n=>some (inD n,[])
 | _=>none
theorem inElem_inv (v:Value) (z:DataW Unit×List MemPlace) (h:inElem v=some z):∃ n,v=inV n∧z=(inD n,[]):=by
 unfold inElem at h
 split at h
 ·cases h;exact⟨_,rfl,rfl⟩
 ·cases h
def IK:Kind Int:=⟨142,3,inV,inD,inElem,0,fun _=>rfl,inElem_inv,fun a b h=>by unfold inD at h;simpa using h,Tryz.underlying142,fun w=>by kernel_rfl⟩
def rC (db tb:Nat) (au gv:Value) (ib kb:Nat):Array Value:=#[.pointer (some ⟨db,0,none⟩),.pointer (some ⟨tb,0,none⟩),au,gv,.map (some ib),.map (some kb)]
def dC (dir:ByteArray) (tb:Nat) (tv pv cv gl:Value):Array Value:=#[.string dir,.pointer (some ⟨tb,0,none⟩),tv,pv,cv,gl]
theorem zde {w:World} {b g i:Nat} {o:Obj} (h:w.heap[b]?=some o) (hn:b≠g) (v:Value):(w.setCell ⟨g,i,none⟩ v).heap[b]?=some o:=(Below.heap_setCell _ _ _ _ hn).trans h
theorem zml (w:World):Calls Tryz.prog 246 #[.int .i64 0] w fun e w'=>e=.returned (.tuple #[])∧w'=w:=by
 go_enter Tryz.func246,Tryz.ntmps246
 go_wp2_with fail
 go_end0
 exact⟨rfl,rfl⟩
section
variable {rb db tb ib kb:Nat} {au gv:Value} {w:World}
theorem words_q (hr:w.heap[rb]?=some (.cells (rC db tb au gv ib kb) RT (0,0))) (s:Bs) (Y:List Nat) (P:ByteArray→World→Prop) (HE:BegC w (.pointer (some ⟨tb,0,none⟩)) au gv s Y P) (hY:∀ i∈Y,i<w.heap.size) (hz:∀ r W,P r W→r.size≤100000000) :
  Calls Tryz.prog 176 #[.pointer (some ⟨rb,0,none⟩),.string (str s)] w fun e w'=>∃ r W v,e=.returned v∧Kept Y w w'∧P r W∧Kept [w.heap.size+2] W w'∧w'.ownsRow w.heap.size ST 1 v (zbg r).length (zbb (zbg r)):=by
 have HT:=Lib.hid (Words_z w (.pointer (some ⟨tb,0,none⟩)) au gv s Y P HE hY hz)
 have c1:w.cell? ⟨rb,1,none⟩=some (.pointer (some ⟨tb,0,none⟩)):=zaa hr rfl
 have c2:w.cell? ⟨rb,2,none⟩=some au:=zaa hr rfl
 have c3:w.cell? ⟨rb,3,none⟩=some gv:=zaa hr rfl
 have hlt:=(Array.getElem?_eq_some_iff.1 hr).1
 clear HE hY hz
 go_enter Tryz.func176,Tryz.ntmps176
 go_wp2_with fail
 refine HT.out.mono ?_
 rintro e w1 ⟨r,W,v,rfl,hk1,hP,hk2,ho⟩
 have H1:=Lib.hid (And.intro hk1 (And.intro hP (And.intro hk2 ho)))
 clear hk1 hk2 hP HT ho
 go_wp2_with fail
 refine(zml w1).mono ?_
 rintro e w2 ⟨rfl,rfl⟩
 go_wp2_with fail
 go_ret
 obtain⟨hk1,hP,hk2,ho⟩:=H1.out
 exact⟨r,W,v,rfl,hk1,hP,hk2,ho⟩
theorem zoj (hr:w.heap[rb]?=some (.cells (rC db tb au gv ib kb) RT (0,0))) (s:Bs) (h0:(36:UInt8)∉s) (hs:s.length≤1000) :
  Calls Tryz.prog 176 #[.pointer (some ⟨rb,0,none⟩),.string (str s)] w fun e w'=>∃ v,e=.returned v∧Below w.heap.size w w'∧w'.ownsRow w.heap.size ST 1 v (zbg (str s)).length (zbb (zbg (str s))):=by
 refine(words_q hr s [] (fun r _=>r=str s) (beg_plain w _ _ _ s h0 hs) (by simp) (fun r _ h=>by rw[h];show s.toArray.size≤_;rw[List.size_toArray];omega)).mono ?_
 rintro e w' ⟨r,W,v,rfl,hk,rfl,_,ho⟩
 exact⟨v,rfl,hk.to_below (Nat.le_refl _) (by simp),ho⟩
theorem zoi (w:World) (b:Nat) (hb:b=w.heap.size) (dir x:ByteArray) (p:List UInt8) (hs:dir.size≤1000000∧x.size≤1000000) (h:Hid (Pt.join [bs dir,bs x]=some p)) :
  Calls Tryz.prog 48 #[.slice (some ⟨b,0,none⟩) 2 2] (w.alloc (.cells #[.string dir,.string x] ST)) fun e w'=>e=.returned (.tuple #[.string (str p),.int .i64 0])∧Below w.heap.size w w':=by
 subst hb
 have hl:w.heap.size<(w.alloc (.cells #[.string dir,.string x] ST)).heap.size:=by simp
 have hc:∀ j,j<[dir,x].length→(w.alloc (.cells #[.string dir,.string x] ST)).cell? ⟨w.heap.size,0+j,none⟩=some (.string ([dir,x][j]?.getD ByteArray.empty)):=fun j hj=>by
  rw[World.cell?_alloc_at _ _ _ _ (by simp)]
  match j,hj with
  | 0,_=>rfl
  | 1,_=>rfl
 have hv:Strs (w.alloc (.cells #[.string dir,.string x] ST)) (.slice (some ⟨w.heap.size,0,none⟩) 2 2) [dir,x]:=Or.inr ⟨w.heap.size,0,2,rfl,hl,hc⟩
 have ht:tot [dir,x]≤140737488355327:=by show (dir.size+1+(x.size+1+0):Nat)≤_;omega
 refine(zqx _ _ [dir,x] p hv (by show (2:Nat)≤1000000;decide) ht h).mono ?_
 rintro e w' ⟨rfl,B⟩
 exact⟨rfl,((Below.refl _ w).alloc (Nat.le_refl _) _).trans (B.mono (by simp))⟩
theorem file_yes (hr:w.heap[rb]?=some (.cells (rC db tb au gv ib kb) RT (0,0))) {dir:ByteArray} {tv pv cv gl:Value} (hd:w.heap[db]?=some (.cells (dC dir tb tv pv cv gl) DT (0,0))) (x:ByteArray) (p:List UInt8) (hs:dir.size≤1000000∧x.size≤1000000) (h:Hid (Pt.join [bs dir,bs x]=some p)) :
  Calls Tryz.prog 305 #[.pointer (some ⟨rb,0,none⟩),.string x] w fun e w'=>e=.returned (.agg #[.string (str p),.string x])∧Below w.heap.size w w':=by
 have c0:w.cell? ⟨rb,0,none⟩=some (.pointer (some ⟨db,0,none⟩)):=zaa hr rfl
 have d0:w.cell? ⟨db,0,none⟩=some (.string dir):=zaa hd rfl
 have hlt:=(Array.getElem?_eq_some_iff.1 hr).1
 have hlt2:=(Array.getElem?_eq_some_iff.1 hd).1
 have HJ:=Lib.hid fun W b hb=>zoi W b hb dir x p hs h
 have hz:(Tryz.prog.info? FiT).map (·.size)=some 2:=by kernel_rfl
 have hu:Tryz.prog.underlying FiT=some (.struct (Tryz.prog.fieldsOf FiT)):=by kernel_rfl
 have HB0:=Lib.hid ((Below.refl w.heap.size w).alloc (Nat.le_refl _) (.cells #[.string ⟨#[]⟩,.string ⟨#[]⟩] FiT))
 have H0:=Lib.hid (heap_alloc_last w (.cells #[.string ⟨#[]⟩,.string ⟨#[]⟩] FiT))
 have k0:=(((Below.refl w.heap.size w).alloc (Nat.le_refl _) (.cells #[.string ⟨#[]⟩,.string ⟨#[]⟩] FiT)).cell (p:=⟨rb,0,none⟩) hlt).trans c0
 have l0:=(((Below.refl w.heap.size w).alloc (Nat.le_refl _) (.cells #[.string ⟨#[]⟩,.string ⟨#[]⟩] FiT)).cell (p:=⟨db,0,none⟩) hlt2).trans d0
 clear hr hd h hs c0 d0
 go_enter Tryz.func305,Tryz.ntmps305
 go_upto_region 1 with (fail)
 have hs0:(w.alloc (.cells #[.string ⟨#[]⟩,.string ⟨#[]⟩] FiT)).heap.size=w.heap.size+1:=by simp
 generalize w.alloc (.cells #[.string ⟨#[]⟩,.string ⟨#[]⟩] FiT)=w0 at *
 have hlt0:rb<w0.heap.size:=by omega
 have hlt3:db<w0.heap.size:=by omega
 go_wp2_with fail
 refine(HJ.out w0 _ hs0.symm).mono ?_
 rintro e w1 ⟨rfl,B1⟩
 clear k0 l0
 have HB:=Lib.hid (HB0.out.trans (B1.mono (by omega)))
 have H1:=Lib.hid ((B1.block w.heap.size (by omega)).trans H0.out)
 clear B1
 go_wp2_with fail
 refine(zml w1).mono ?_
 rintro e w2 ⟨rfl,rfl⟩
 go_wp2_with (refine wpList_store_row rfl FiT _ _ rfl w.heap.size #[.string (str p),.string x] rfl rfl FiT #[.string ⟨#[]⟩,.string ⟨#[]⟩] H1.out hz rfl (by simp[Value.oneCell']) ?_)
 (try simp only [Exit.inBlock,Exit.then])
 refine bodyPost_ret (zgj Tryz.results305 _ _ w.heap.size FiT #[.string (str p),.string x] (0,0) _ rfl (setRow_heap _ _ _ _ _ _ H1.out) hu rfl hz) rfl ?_
 exact⟨rfl,below_setRow HB.out (Nat.le_refl _) _⟩
end
theorem cloneA_nil (w:World):Calls Tryz.prog 60 #[.map none] w fun e w'=>e=.returned (.map none)∧w'=w:=by
 have hq:∀ w:World,(binOp .eql 57 (.map none) (.map none)).run Tryz.prog w=.ok (.bool true) w:=fun w=>by kernel_rfl
 go_enter Tryz.func60,Tryz.ntmps60
 go_wp2_with fail
 go_ret
 exact⟨rfl,rfl⟩
abbrev StP:TypeId:=30
def gV (sx dx:Nat):Value:=.func (.func 59) #[] #[.pointer (some ⟨sx,0,none⟩),.pointer (some ⟨dx,0,none⟩)]
def EnvPost (w:World) (tb:Nat) (sv:Value) (dir:ByteArray) (e:Ending) (w':World):Prop :=
 ∃ sx dx,e=.returned (.agg #[.pointer (some ⟨tb,0,none⟩),.map none,gV sx dx])∧w'.heap[sx]?=some (.cells #[sv] StP (0,0))∧w'.heap[dx]?=some (.cells #[.string dir] ST (0,0))∧w.heap.size≤sx∧w.heap.size≤dx∧Below w.heap.size w w'
theorem env_any {w:World} {db tb:Nat} {dir:ByteArray} {tv pv cv gl:Value} (hd:w.heap[db]?=some (.cells (dC dir tb tv pv cv gl) DT (0,0))) (sp:Option Addr) :
  Calls Tryz.prog 15 #[.pointer (some ⟨db,0,none⟩),.pointer sp,.map none] w (EnvPost w tb (.pointer sp) dir):=by
 have d0:w.cell? ⟨db,0,none⟩=some (.string dir):=zaa hd rfl
 have d1:w.cell? ⟨db,1,none⟩=some (.pointer (some ⟨tb,0,none⟩)):=zaa hd rfl
 have hlt:=(Array.getElem?_eq_some_iff.1 hd).1
 have hmf:∀ (fn:Fn) (first cap:Array Value) (w:World),(Instr.makeFunc fn first cap).run Tryz.prog w=.ok (.func fn first cap) w:=fun _ _ _ _=>rfl
 clear hd
 go_enter Tryz.func15,Tryz.ntmps15
 go_wp2_with fail
 have B0:Below w.heap.size w (((w.alloc (.cells #[.pointer sp] StP)).alloc (.cells #[.pointer none,.map none,.nilFunc] EnvT)).alloc (.cells #[.string dir] ST)):=(((Below.refl _ w).alloc (Nat.le_refl _) _).alloc (by simp) _).alloc (by simp;omega) _
 have e0:(((w.alloc (.cells #[.pointer sp] StP)).alloc (.cells #[.pointer none,.map none,.nilFunc] EnvT)).alloc (.cells #[.string dir] ST)).heap[w.heap.size]?=some (.cells #[.pointer sp] StP (0,0)):=zaf (zaf (zah _ _) _) _
 have e1:(((w.alloc (.cells #[.pointer sp] StP)).alloc (.cells #[.pointer none,.map none,.nilFunc] EnvT)).alloc (.cells #[.string dir] ST)).heap[w.heap.size+1]?=some (.cells #[.pointer none,.map none,.nilFunc] EnvT (0,0)):=zaf (by have:=zah (w.alloc (.cells #[.pointer sp] StP)) (.cells #[.pointer none,.map none,.nilFunc] EnvT);rwa[World.size_alloc] at this) _
 have e2:(((w.alloc (.cells #[.pointer sp] StP)).alloc (.cells #[.pointer none,.map none,.nilFunc] EnvT)).alloc (.cells #[.string dir] ST)).heap[w.heap.size+1+1]?=some (.cells #[.string dir] ST (0,0)):=by have:=zah ((w.alloc (.cells #[.pointer sp] StP)).alloc (.cells #[.pointer none,.map none,.nilFunc] EnvT)) (.cells #[.string dir] ST);rwa[World.size_alloc,World.size_alloc] at this
 have d2:=(B0.cell (p:=⟨db,1,none⟩) hlt).trans d1
 clear d0 d1
 generalize (((w.alloc (.cells #[.pointer sp] StP)).alloc (.cells #[.pointer none,.map none,.nilFunc] EnvT)).alloc (.cells #[.string dir] ST))=w0 at *
 have c0:=zaa (i:=0) e1 rfl
 have c1:=zaa (i:=1) e1 rfl
 have c2:=zaa (i:=2) e1 rfl
 have f0:=zad e1 0
 have f1:=zad e1 1
 have f2:=zad e1 2
 have hl0:=(Array.getElem?_eq_some_iff.1 e1).1
 have hlt0:db<w0.heap.size:=Nat.lt_of_lt_of_le hlt B0.size
 have E0:=Lib.hid e0
 have E1:=Lib.hid e1
 have E2:=Lib.hid e2
 have HB:=Lib.hid B0
 clear e0 e1 e2 B0 hlt
 go_region_with (go_at_call 60;refine(cloneA_nil _).mono ?_;rintro e w1 ⟨rfl,rfl⟩)
 all_goals (
  have h1:=heap_set (i:=0) E1.out (.pointer (some ⟨tb,0,none⟩))
  have h2:=heap_set (i:=1) h1 (.map none)
  have h3:=heap_set (i:=2) h2 (gV w.heap.size (w.heap.size+1+1))
  have hn0:w.heap.size≠w.heap.size+1:=by omega
  have hn2:w.heap.size+1+1≠w.heap.size+1:=by omega
  have s0:=zde (i:=2) (zde (i:=1) (zde (i:=0) E0.out hn0 (.pointer (some ⟨tb,0,none⟩))) hn0 (.map none)) hn0 (gV w.heap.size (w.heap.size+1+1))
  have s2:=zde (i:=2) (zde (i:=1) (zde (i:=0) E2.out hn2 (.pointer (some ⟨tb,0,none⟩))) hn2 (.map none)) hn2 (gV w.heap.size (w.heap.size+1+1))
  have hB3:=(((HB.out.setCell (p:=⟨w.heap.size+1,0,none⟩) (by simp) (.pointer (some ⟨tb,0,none⟩))).setCell (p:=⟨w.heap.size+1,1,none⟩) (by simp) (.map none)).setCell (p:=⟨w.heap.size+1,2,none⟩) (by simp) (gV w.heap.size (w.heap.size+1+1))).drew
  have H3:=Lib.hid h3
  have S0:=Lib.hid s0
  have S2:=Lib.hid s2
  have HB3:=Lib.hid hB3
  clear h1 h2 h3 s0 s2 hB3 c0 c1 c2 f0 f1 f2
  have hu:Tryz.prog.underlying EnvT=some (.struct (Tryz.prog.fieldsOf EnvT)):=by kernel_rfl
  have hz:(Tryz.prog.info? EnvT).map (·.size)=some 3:=by kernel_rfl
  go_wp2_with fail
  (try simp only [Exit.inBlock,Exit.then])
  refine bodyPost_ret (zgj Tryz.results15 _ _ (w.heap.size+1) EnvT _ (0,0) _ rfl H3.out hu rfl hz) rfl ?_
  exact⟨w.heap.size,w.heap.size+1+1,rfl,S0.out,S2.out,Nat.le_refl _,by omega,HB3.out⟩)
abbrev RpT:TypeId:=138
abbrev FuT:TypeId:=55
def qV (rx fx:Nat):Value:=.func (.func 98) #[] #[.pointer (some ⟨rx,0,none⟩),.pointer (some ⟨fx,0,none⟩)]
structure Beg (w W:World) (rb db tb sx dx rx fx ib kb:Nat) (sv:Value) (dir:ByteArray):Prop where
 r:W.heap[rb]?=some (.cells (rC db tb (.map none) (qV rx fx) ib kb) RT (0,0))
 d:W.heap[db]?=some (.cells (dC dir tb (.slice none 0 0) (.slice none 0 0) (.slice none 0 0) (.slice none 0 0)) DT (0,0))
 crx:W.heap[rx]?=some (.cells #[.pointer (some ⟨rb,0,none⟩)] RpT (0,0))
 cfx:W.heap[fx]?=some (.cells #[gV sx dx] FuT (0,0))
 csx:W.heap[sx]?=some (.cells #[sv] StP (0,0))
 cdx:W.heap[dx]?=some (.cells #[.string dir] ST (0,0))
 i:Kw.MapAt IK W ib []
 k:Kw.MapAt UK W kb []
 new:w.heap.size≤rb∧w.heap.size≤sx∧w.heap.size≤dx∧w.heap.size≤rx∧w.heap.size≤fx∧w.heap.size≤ib∧w.heap.size≤kb
 ne:ib≠kb
 b:Below w.heap.size w W
theorem Beg.below {w W W':World} {rb db tb sx dx rx fx ib kb:Nat} {sv:Value} {dir:ByteArray} (h:Beg w W rb db tb sx dx rx fx ib kb sv dir) (hB:Below W.heap.size W W'):Beg w W' rb db tb sx dx rx fx ib kb sv dir:=by
 have hk:∀ {b:Nat} {o:Obj},W.heap[b]?=some o→W'.heap[b]?=some o:=fun {b o} e=>(hB.block _ (Array.getElem?_eq_some_iff.1 e).1).trans e
 exact⟨hk h.r,hk h.d,hk h.crx,hk h.cfx,hk h.csx,hk h.cdx,h.i.below hB,h.k.below hB,h.new,h.ne,h.b.trans (hB.mono h.b.size)⟩
theorem beg_mk {w w1:World} {db tb sx dx:Nat} {dir:ByteArray} {sp:Option Addr} (hD:w1.heap[db]?=some (.cells (dC dir tb (.slice none 0 0) (.slice none 0 0) (.slice none 0 0) (.slice none 0 0)) DT (0,0)))
  (h1:w1.heap[sx]?=some (.cells #[.pointer sp] StP (0,0))) (h2:w1.heap[dx]?=some (.cells #[.string dir] ST (0,0))) (h3:w.heap.size≤sx) (h4:w.heap.size≤dx) (B1:Below w.heap.size w w1) :
  Beg w (((((w1.alloc (.map #[] 0)).alloc (.map #[] 0)).alloc (.cells (rC db tb (.map none) (qV (w1.heap.size+1+1+1) (w1.heap.size+1+1+1+1)) w1.heap.size (w1.heap.size+1)) RT)).alloc (.cells #[.pointer (some ⟨w1.heap.size+1+1,0,none⟩)] RpT)).alloc (.cells #[gV sx dx] FuT))
   (w1.heap.size+1+1) db tb sx dx (w1.heap.size+1+1+1) (w1.heap.size+1+1+1+1) w1.heap.size (w1.heap.size+1) (.pointer sp) dir:=by
 have hs:=B1.size
 have m1:=Kw.MapAt.new (K:=IK) w1
 have m2:=Kw.MapAt.new (K:=UK) (w1.alloc (.map #[] 0))
 have r1:=zah ((w1.alloc (.map #[] 0)).alloc (.map #[] 0)) (.cells (rC db tb (.map none) (qV (w1.heap.size+1+1+1) (w1.heap.size+1+1+1+1)) w1.heap.size (w1.heap.size+1)) RT)
 have r2:=zah (((w1.alloc (.map #[] 0)).alloc (.map #[] 0)).alloc (.cells (rC db tb (.map none) (qV (w1.heap.size+1+1+1) (w1.heap.size+1+1+1+1)) w1.heap.size (w1.heap.size+1)) RT)) (.cells #[.pointer (some ⟨w1.heap.size+1+1,0,none⟩)] RpT)
 have r3:=zah ((((w1.alloc (.map #[] 0)).alloc (.map #[] 0)).alloc (.cells (rC db tb (.map none) (qV (w1.heap.size+1+1+1) (w1.heap.size+1+1+1+1)) w1.heap.size (w1.heap.size+1)) RT)).alloc (.cells #[.pointer (some ⟨w1.heap.size+1+1,0,none⟩)] RpT)) (.cells #[gV sx dx] FuT)
 simp only [World.size_alloc] at m2 r1 r2 r3
 refine⟨zaf (zaf r1 _) _,zaf (zaf (zaf (zaf (zaf hD _) _) _) _) _,zaf r2 _,r3,zaf (zaf (zaf (zaf (zaf h1 _) _) _) _) _,zaf (zaf (zaf (zaf (zaf h2 _) _) _) _) _,(((m1.alloc _).alloc _).alloc _).alloc _,((m2.alloc _).alloc _).alloc _,⟨by omega,h3,h4,by omega,by omega,by omega,by omega⟩,by omega,?_⟩
 exact((((B1.alloc B1.size _).alloc (by simp;omega) _).alloc (by simp;omega) _).alloc (by simp;omega) _).alloc (by simp;omega) _
theorem start_any {w:World} {db tb:Nat} {dir:ByteArray} (hd:w.heap[db]?=some (.cells (dC dir tb (.slice none 0 0) (.slice none 0 0) (.slice none 0 0) (.slice none 0 0)) DT (0,0))) (sp:Option Addr) :
  Calls Tryz.prog 51 #[.pointer sp,.pointer (some ⟨db,0,none⟩)] w fun e w'=>∃ rb sx dx rx fx ib kb,e=.returned (.pointer (some ⟨rb,0,none⟩))∧Beg w w' rb db tb sx dx rx fx ib kb (.pointer sp) dir:=by
 have hmf:∀ (fn:Fn) (first cap:Array Value) (w:World),(Instr.makeFunc fn first cap).run Tryz.prog w=.ok (.func fn first cap) w:=fun _ _ _ _=>rfl
 have hmm:=@run_makeMap Tryz.prog
 go_enter Tryz.func51,Tryz.ntmps51
 go_wp2_with fail
 refine(env_any hd sp).mono ?_
 rintro e w1 ⟨sx,dx,rfl,h1,h2,h3,h4,B1⟩
 have HD:=Lib.hid ((B1.block _ (Array.getElem?_eq_some_iff.1 hd).1).trans hd)
 have H1:=Lib.hid h1
 have H2:=Lib.hid h2
 have HB1:=Lib.hid B1
 have H34:=Lib.hid (And.intro h3 h4)
 clear hd h1 h2 B1 h3 h4
 unfold gV
 go_wp2_with fail
 go_ret
 refine⟨w1.heap.size+1+1,sx,dx,w1.heap.size+1+1+1,w1.heap.size+1+1+1+1,w1.heap.size,w1.heap.size+1,rfl,?_⟩
 exact beg_mk HD.out H1.out H2.out H34.out.1 H34.out.2 HB1.out
end Dq
end Go.Proofs.YtgdpbnfgcabneaaGreatDoor

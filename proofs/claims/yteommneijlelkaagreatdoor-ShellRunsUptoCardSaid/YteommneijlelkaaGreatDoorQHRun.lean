/-
  Package shell as plain functions: what one command does, what a line does. No program here.
  What holds of a run of the shell: its files stay such as a store's, its texts stay short.
  A whole run of the shell: what it keeps, how it grows, what it comes to when it is stopped.
-/
import Derived.Test.YteommneijlelkaaGreatDoorQSPlain2
import Derived.Test.YteommneijlelkaaGreatDoorQSAdd
import Derived.Test.YteommneijlelkaaGreatDoorQPTake
namespace Go.Proofs.YteommneijlelkaaGreatDoor.Hp
open Go.Proofs.YteommneijlelkaaGreatDoor
abbrev Bs := List UInt8
abbrev St := Sw.St

/-- Where a run stands: the files, the directory, what has ended it, a command's input and output. -/
structure K where
  s : St
  d : Bs
  code : Int
  inp : Bs
  outp : Bs

def joinP (d p : Bs) : Option Bs := Pt.join [d, p]
/-- Behind a call that changes the files: its error, as a status. -/
def K.took (k : K) (q : St × Int) : K × Nat :=
  (⟨q.1, k.d, if q.2 = 5 ∨ q.2 = 12 then q.2 else k.code, k.inp, k.outp⟩, if q.2 = 0 then 0 else 1)
def readP (k : K) (p : Bs) : Bs × Int := Sw.readA (Sw.getR k.s.L p)
/-- The redirections; none: one of them failed. -/
def openA : K → List Pp.G → Bs → K × Option Bs
  | k, [], dst => (k, some dst)
  | k, g :: r, dst =>
    match joinP k.d g.p with
    | none => (k, none)
    | some p =>
      if g.k = 6 then
        (if (readP k p).2 = 0 then openA ⟨k.s, k.d, k.code, (readP k p).1, k.outp⟩ r dst else (k, none))
      else if (k.took (Sw.writeA k.s p [] (decide (g.k = 5)))).2 = 0 then openA (k.took (Sw.writeA k.s p [] (decide (g.k = 5)))).1 r p
      else ((k.took (Sw.writeA k.s p [] (decide (g.k = 5)))).1, none)
/-- cat, of the files that are left, with the status so far. -/
def catA : K → List Bs → Nat → K × Nat
  | k, [], st => (k, st)
  | k, a :: r, st =>
    if k.code ≠ 0 then (k, st) else
    match joinP k.d a with
    | none => catA k r 1
    | some p =>
      if (readP k p).2 = 0 then
        catA ⟨k.s, k.d, if 1048576 < (k.outp ++ (readP k p).1).length then 12 else k.code, k.inp, k.outp ++ (readP k p).1⟩ r st
      else catA k r 1
def cat (k : K) (l : List Bs) : K × Nat := catA (if l = [] then ⟨k.s, k.d, k.code, k.inp, k.inp⟩ else k) l 0
/-- The two paths of cp and mv. -/
def twoA (k : K) (l : List Bs) : Option (Bs × Bs) :=
  match l with
  | [a, b] =>
    match joinP k.d a, joinP k.d b with
    | some f, some t =>
      if ((Sw.getR k.s.L t).map (·.d)).getD false = true then (joinP k.d (b ++ 47 :: baseL f)).map (f, ·) else some (f, t)
    | _, _ => none
  | _ => none
def cpA (k : K) (l : List Bs) : K × Nat :=
  match twoA k l with
  | none => (k, 1)
  | some (f, t) => if f = t then (k, 1) else if (readP k f).2 = 0 then k.took (Sw.writeA k.s t (readP k f).1 false) else (k, 1)
def mvA (k : K) (l : List Bs) : K × Nat :=
  match twoA k l with
  | none => (k, 1)
  | some (f, t) => k.took (Sw.moveA k.s f t)
/-- An element that is flags. -/
def flagB (x : Bs) : Bool := match x with
  | 45 :: _ :: _ => true
  | _ => false
def flagsOf (l : List Bs) : Bs := (l.takeWhile flagB).flatMap fun x => x.drop 1
def restOf (l : List Bs) : List Bs := l.dropWhile flagB
/-- rm, touch and mkdir, at one path. -/
inductive Act where
  | rm (all force : Bool)
  | touch
  | mkdir (all : Bool)
def oneA (a : Act) (k : K) (p : Bs) : K × Nat :=
  match a with
  | .rm all force => if (Sw.removeA k.s p all).2 = 3 ∧ force = true then (k, 0) else k.took (Sw.removeA k.s p all)
  | .touch => k.took (Sw.touchA k.s p)
  | .mkdir all => k.took (Sw.mkdirA k.s p all)
def eachA (a : Act) : K → List Bs → Nat → K × Nat
  | k, [], st => (k, st)
  | k, x :: r, st =>
    if k.code ≠ 0 then (k, st) else
    match joinP k.d x with
    | none => eachA a k r 1
    | some p => eachA a (oneA a k p).1 r (if (oneA a k p).2 = 0 then st else 1)
def rmA (k : K) (l : List Bs) : K × Nat :=
  if (flagsOf l).all (fun c => c == 114 || c == 102) = false then (k, 1)
  else if restOf l = [] ∧ (flagsOf l).contains 102 = false then (k, 1)
  else eachA (.rm ((flagsOf l).contains 114) ((flagsOf l).contains 102)) k (restOf l) 0
def mkdirC (k : K) (l : List Bs) : K × Nat :=
  if (flagsOf l).all (fun c => c == 112) = false then (k, 1)
  else if restOf l = [] then (k, 1)
  else eachA (.mkdir (decide (flagsOf l ≠ []))) k (restOf l) 0
def touchC (k : K) (l : List Bs) : K × Nat := if l = [] then (k, 1) else eachA .touch k l 0
def truth (b : Bool) : Nat := if b = true then 0 else 1
def testA (k : K) (l : List Bs) : Nat :=
  match l with
  | [a] => truth (!a.isEmpty)
  | [a, o, b] => if o = [61] then truth (a == b) else if o = [33, 61] then truth (!(a == b)) else 2
  | [o, a] =>
    if o = [45, 101] ∨ o = [45, 102] ∨ o = [45, 100] then
      match (joinP k.d a).bind fun p => Sw.getR k.s.L p with
      | none => 1
      | some f => truth (o == [45, 101] || (o == [45, 100] && f.d || o == [45, 102] && !f.d))
    else 2
  | _ => 2
def cdA (k : K) (l : List Bs) : K × Nat :=
  match l with
  | [a] =>
    match joinP k.d a with
    | none => (k, 1)
    | some p => if ((Sw.getR k.s.L p).map (·.d)).getD false = true then (⟨k.s, p, k.code, k.inp, k.outp⟩, 0) else (k, 1)
  | _ => (k, 1)
def spaced : List Bs → Bs
  | [] => []
  | [x] => x
  | x :: y :: r => x ++ 32 :: spaced (y :: r)
def echoA (k : K) (l : List Bs) : K × Nat :=
  match l with
  | [45, 110] :: r => (⟨k.s, k.d, k.code, k.inp, spaced r⟩, 0)
  | l => (⟨k.s, k.d, k.code, k.inp, spaced l ++ [10]⟩, 0)
/-- A command, by its first word. -/
inductive Name where
  | true_ | false_ | echo | cat | cp | mv | rm | touch | mkdir | test | cd
def nameA (w : Bs) : Option Name :=
  if w = [116, 114, 117, 101] then some .true_ else if w = [102, 97, 108, 115, 101] then some .false_ else if w = [101, 99, 104, 111] then some .echo
  else if w = [99, 97, 116] then some .cat else if w = [99, 112] then some .cp else if w = [109, 118] then some .mv else if w = [114, 109] then some .rm
  else if w = [116, 111, 117, 99, 104] then some .touch else if w = [109, 107, 100, 105, 114] then some .mkdir else if w = [116, 101, 115, 116] then some .test
  else if w = [99, 100] then some .cd else none
def doA (k : K) (w : Bs) (l : List Bs) : K × Nat :=
  match nameA w with
  | none => (k, 127)
  | some .true_ => (k, 0)
  | some .false_ => (k, 1)
  | some .echo => echoA k l
  | some .cat => cat k l
  | some .cp => cpA k l
  | some .mv => mvA k l
  | some .rm => rmA k l
  | some .touch => touchC k l
  | some .mkdir => mkdirC k l
  | some .test => (k, testA k l)
  | some .cd => cdA k l
/-- A run: where it stands, what was told, the status, how many ran. -/
structure R where
  s : St
  d : Bs
  code : Int
  out : Bs
  status : Nat
  ran : Nat
/-- Behind the command: its output goes where it goes. -/
def tellA (k : K) (st : Nat) (out : Bs) (dst : Bs) : K × Bs × Nat :=
  if k.code ≠ 0 then (k, out, 1)
  else if dst = [] then (⟨k.s, k.d, if 1048576 < (out ++ k.outp).length then 12 else k.code, k.inp, k.outp⟩, out ++ k.outp, st)
  else if k.outp = [] then (k, out, st)
  else ((k.took (Sw.writeA k.s dst k.outp true)).1, out, if (k.took (Sw.writeA k.s dst k.outp true)).2 ≠ 0 ∧ st = 0 then 1 else st)
def wholeA (s : St) (d : Bs) (code : Int) (out : Bs) (c : Pp.C) : K × Bs × Nat :=
  match openA ⟨s, d, code, [], []⟩ c.to [] with
  | (k, none) => (k, out, 1)
  | (k, some dst) => tellA (doA k (c.ws.headD []) c.ws.tail).1 (doA k (c.ws.headD []) c.ws.tail).2 out dst
/-- One command more. -/
def stepR (r : R) (c : Pp.C) : R :=
  ⟨(wholeA r.s r.d r.code r.out c).1.s, (wholeA r.s r.d r.code r.out c).1.d, (wholeA r.s r.d r.code r.out c).1.code, (wholeA r.s r.d r.code r.out c).2.1, (wholeA r.s r.d r.code r.out c).2.2, r.ran + 1⟩
def runA : R → List Pp.C → Int → R
  | r, [], _ => if r.code ≠ 0 then ⟨r.s, r.d, r.code, r.out, 1, r.ran⟩ else r
  | r, c :: l, most =>
    if r.code ≠ 0 then ⟨r.s, r.d, r.code, r.out, 1, r.ran⟩
    else if (c.on = 2 ∧ r.status ≠ 0) ∨ (c.on = 3 ∧ r.status = 0) then runA r l most
    else if (r.ran : Int) = most then ⟨r.s, r.d, 11, r.out, 1, r.ran⟩
    else runA (stepR r c) l most
def lineA (s : St) (d : Bs) (l : List Pp.C) (most : Int) : R := runA ⟨s, d, 0, [], 0, 0⟩ l most
end Go.Proofs.YteommneijlelkaaGreatDoor.Hp
namespace Go.Proofs.YteommneijlelkaaGreatDoor.Hp
open Go.Proofs.YteommneijlelkaaGreatDoor

/-! How long a path is. -/
def costL (l : List Bs) : Nat := (l.map fun x => x.length + 1).sum
theorem costL_pieces : ∀ (l : Bs), costL (Pt.pieces l) = l.length + 1
  | [] => rfl
  | c :: r => by
    have ih := costL_pieces r
    unfold Pt.pieces
    split
    · show (0 + 1) + costL (Pt.pieces r) = _
      rw [ih, List.length_cons]; omega
    · split
      · rename_i h; exact absurd h (Pt.pieces_ne r)
      · rename_i x xs h
        rw [h] at ih
        have e1 : costL (x :: xs) = (x.length + 1) + costL xs := rfl
        have e2 : costL ((c :: x) :: xs) = (x.length + 1 + 1) + costL xs := rfl
        rw [e2, List.length_cons]; omega
theorem stepB_len {p x q : Bs} (h : Pt.stepB p x = some q) : q.length ≤ p.length + (x.length + 1) := by
  unfold Pt.stepB at h
  split at h
  · cases h; omega
  · split at h
    · split at h
      · cases h
      · cases h
        rw [List.length_take]; omega
    · cases h
      rw [List.length_append]
      split
      · omega
      · simp; omega
theorem walkB_len : ∀ (l : List Bs) (p q : Bs), Pt.walkB p l = some q → q.length ≤ p.length + costL l
  | [], p, q, h => by cases h; simp [costL]
  | x :: r, p, q, h => by
    unfold Pt.walkB at h
    cases hs : Pt.stepB p x with
    | none => rw [hs] at h; cases h
    | some o =>
      rw [hs] at h
      have h1 := stepB_len hs
      have h2 := walkB_len r o q h
      have e : costL (x :: r) = (x.length + 1) + costL r := rfl
      omega
theorem goB_len : ∀ (l : List Bs) (p q : Bs), Pt.goB p l = some q → q.length ≤ p.length + costL l
  | [], p, q, h => by cases h; simp [costL]
  | s :: r, p, q, h => by
    unfold Pt.goB at h
    cases hw : Pt.walkB p (Pt.pieces s) with
    | none => rw [hw] at h; cases h
    | some o =>
      rw [hw] at h
      have h1 := walkB_len _ _ _ hw
      rw [costL_pieces] at h1
      have h2 := goB_len r o q h
      have e : costL (s :: r) = (s.length + 1) + costL r := rfl
      omega
theorem joinP_len {d p q : Bs} (h : joinP d p = some q) : q.length ≤ d.length + p.length + 2 := by
  unfold joinP at h
  rw [Pt.join_eq] at h
  cases hg : Pt.goB [] [d, p] with
  | none => rw [hg] at h; cases h
  | some o =>
    have h1 := goB_len _ _ _ hg
    have e : costL [d, p] = (d.length + 1) + ((p.length + 1) + 0) := rfl
    rw [hg] at h
    simp only [Option.map_some, Option.some.injEq] at h
    subst h
    split
    · simp
    · rw [e] at h1; simp at h1; omega

/-! What a run keeps. -/
/-- What holds of every place of a run whose directory is at most m bytes. -/
structure Ok (k : K) (m : Nat) : Prop where
  fine : Sw.Fine k.s
  closed : Sw.Closed k.s.L
  dir : k.d.length ≤ m
  inp : k.inp.length ≤ 1048576
  outp : k.outp.length ≤ 2097152
theorem Ok.more {k : K} {m n : Nat} (h : Ok k m) (hn : m ≤ n) : Ok k n := ⟨h.fine, h.closed, Nat.le_trans h.dir hn, h.inp, h.outp⟩
theorem Ok.took {k : K} {m : Nat} (h : Ok k m) {q : St × Int} (hf : Sw.Fine q.1) (hc : Sw.Closed q.1.L) : Ok (k.took q).1 m := ⟨hf, hc, h.dir, h.inp, h.outp⟩
theorem getR_mem {L : List Sw.F} {p : Bs} {f : Sw.F} (h : Sw.getR L p = some f) : f = Sw.rootF ∨ f ∈ L := by
  unfold Sw.getR at h
  split at h
  · cases h; exact .inl rfl
  · exact .inr (List.mem_of_find?_eq_some h)
theorem read_len {k : K} {m : Nat} (h : Ok k m) (p : Bs) : (readP k p).1.length ≤ 1048576 := by
  unfold readP Sw.readA
  cases hg : Sw.getR k.s.L p with
  | none => simp
  | some f =>
    dsimp only
    split
    · simp
    · rcases getR_mem hg with rfl | hf
      · simp [Sw.rootF]
      · exact h.fine.text f hf
theorem Ok.wrote {k : K} {m : Nat} (h : Ok k m) {p t : Bs} (hp : p.length ≤ 100000) (more : Bool) : Ok (k.took (Sw.writeA k.s p t more)).1 m :=
  h.took (h.fine.write hp more) (Sw.write_closed h.closed h.fine.sorted p t more)

theorem open_ok : ∀ (l : List Pp.G) (k : K) (m : Nat) (dst : Bs), Ok k m → (∀ g ∈ l, m + g.p.length + 2 ≤ 100000) → Ok (openA k l dst).1 m ∧ (openA k l dst).1.d = k.d ∧ (openA k l dst).1.outp = k.outp ∧
    (∀ t, (openA k l dst).2 = some t → t = dst ∨ t.length ≤ 100000)
  | [], k, m, dst, h, _ => ⟨h, rfl, rfl, fun t ht => by cases ht; exact .inl rfl⟩
  | g :: r, k, m, dst, h, hl => by
    have hg := hl g (by simp)
    have hr : ∀ x ∈ r, m + x.p.length + 2 ≤ 100000 := fun x hx => hl x (List.mem_cons_of_mem _ hx)
    unfold openA
    cases hj : joinP k.d g.p with
    | none => exact ⟨h, rfl, rfl, fun t ht => by cases ht⟩
    | some p =>
      have hp := joinP_len hj
      have hd := h.dir
      have hp2 : p.length ≤ 100000 := by omega
      simp only
      split
      · split
        · exact open_ok r _ m dst ⟨h.fine, h.closed, h.dir, read_len h p, h.outp⟩ hr
        · exact ⟨h, rfl, rfl, fun t ht => by cases ht⟩
      · split
        · obtain ⟨a, b, c, e⟩ := open_ok r _ m p (h.wrote (p := p) (t := []) hp2 (decide (g.k = 5))) hr
          refine ⟨a, b, c, fun t ht => ?_⟩
          rcases e t ht with e | e
          · right; rw [e]; exact hp2
          · exact .inr e
        · exact ⟨h.wrote hp2 _, rfl, rfl, fun t ht => by cases ht⟩
theorem cat_ok : ∀ (l : List Bs) (k : K) (m st : Nat), Ok k m → (k.code = 0 → k.outp.length ≤ 1048576) → Ok (catA k l st).1 m ∧ (catA k l st).1.d = k.d
  | [], _, _, _, h, _ => ⟨h, rfl⟩
  | a :: r, k, m, st, h, ho => by
    unfold catA
    split
    · exact ⟨h, rfl⟩
    · rename_i hc
      have hc : k.code = 0 := by
        apply Classical.byContradiction
        exact fun e => hc e
      split
      · exact cat_ok r k m 1 h ho
      · rename_i p hj
        split
        · have h1 := read_len h p
          have h2 := ho hc
          refine cat_ok r _ m st ⟨h.fine, h.closed, h.dir, h.inp, ?_⟩ fun hz => ?_
          · show (k.outp ++ (readP k p).1).length ≤ _
            rw [List.length_append]; omega
          · show (k.outp ++ (readP k p).1).length ≤ _
            simp only at hz
            split at hz
            · cases hz
            · omega
        · exact cat_ok r k m 1 h ho
def wtL (l : List Bs) : Nat := (l.map fun x => x.length + 2).sum
theorem wtL_mem {l : List Bs} {x : Bs} (h : x ∈ l) : x.length + 2 ≤ wtL l := by
  induction l with
  | nil => cases h
  | cons y r ih =>
    have e : wtL (y :: r) = (y.length + 2) + wtL r := rfl
    rcases List.mem_cons.1 h with rfl | h
    · omega
    · have := ih h; omega
theorem base_len (f : Bs) : (baseL f).length ≤ f.length := by
  unfold baseL
  rw [List.length_drop]; omega
theorem two_len {k : K} {l : List Bs} {f t : Bs} (h : twoA k l = some (f, t)) : f.length ≤ k.d.length + wtL l ∧ t.length ≤ 2 * k.d.length + wtL l + 3 := by
  unfold twoA at h
  split at h
  · rename_i a b
    have e : wtL [a, b] = (a.length + 2) + ((b.length + 2) + 0) := rfl
    split at h
    · rename_i f' t' hf ht
      have h1 := joinP_len hf
      have h2 := joinP_len ht
      split at h
      · cases hj : joinP k.d (b ++ 47 :: baseL f') with
        | none => rw [hj] at h; cases h
        | some q =>
          rw [hj] at h
          cases h
          have h3 := joinP_len hj
          have h4 := base_len f
          rw [List.length_append, List.length_cons] at h3
          omega
      · cases h
        omega
    · cases h
  · cases h
theorem one_ok {a : Act} {k : K} {m : Nat} (h : Ok k m) {p : Bs} (hp : p.length ≤ 100000) : Ok (oneA a k p).1 m ∧ (oneA a k p).1.d = k.d := by
  cases a with
  | rm all force =>
    unfold oneA
    simp only
    split
    · exact ⟨h, rfl⟩
    · exact ⟨h.took (h.fine.remove p all) (Sw.remove_closed h.closed h.fine.sorted p all), rfl⟩
  | touch => exact ⟨h.took (h.fine.touch hp) (Sw.touch_closed h.closed h.fine.sorted p), rfl⟩
  | mkdir all => exact ⟨h.took (h.fine.mkdir hp all) (Sw.mkdir_closed h.closed h.fine.sorted p all), rfl⟩
theorem each_ok (a : Act) : ∀ (l : List Bs) (k : K) (m st : Nat), Ok k m → (∀ x ∈ l, m + x.length + 2 ≤ 100000) → Ok (eachA a k l st).1 m ∧ (eachA a k l st).1.d = k.d
  | [], _, _, _, h, _ => ⟨h, rfl⟩
  | x :: r, k, m, st, h, hl => by
    have hr : ∀ y ∈ r, m + y.length + 2 ≤ 100000 := fun y hy => hl y (List.mem_cons_of_mem _ hy)
    unfold eachA
    split
    · exact ⟨h, rfl⟩
    · split
      · exact each_ok a r k m 1 h hr
      · rename_i p hj
        have hp := joinP_len hj
        have hx := hl x (by simp)
        have hd := h.dir
        obtain ⟨h1, h2⟩ := one_ok (a := a) h (p := p) (by omega)
        obtain ⟨h3, h4⟩ := each_ok a r (oneA a k p).1 m (if (oneA a k p).2 = 0 then st else 1) h1 hr
        exact ⟨h3, h4.trans h2⟩
theorem rest_sub (l : List Bs) : ∀ x ∈ restOf l, x ∈ l := fun _ hx => (List.dropWhile_sublist _).subset hx
theorem spaced_len : ∀ l : List Bs, (spaced l).length ≤ wtL l
  | [] => Nat.zero_le _
  | [x] => by
    have e : wtL [x] = (x.length + 2) + 0 := rfl
    show x.length ≤ _
    omega
  | x :: y :: r => by
    have := spaced_len (y :: r)
    have e : wtL (x :: y :: r) = (x.length + 2) + wtL (y :: r) := rfl
    show (x ++ 32 :: spaced (y :: r)).length ≤ _
    rw [List.length_append, List.length_cons]; omega
/-- One command. -/
theorem do_ok {k : K} {m : Nat} (h : Ok k m) (w : Bs) (l : List Bs) (hm : 2 * m + wtL l + 3 ≤ 100000) (h0 : k.outp = []) : Ok (doA k w l).1 (m + wtL l) := by
  have hx : ∀ x ∈ l, m + x.length + 2 ≤ 100000 := fun x hx => by have := wtL_mem hx; omega
  have hM := h.more (n := m + wtL l) (by omega)
  have hd := h.dir
  have hs := spaced_len l
  unfold doA
  split
  · exact hM
  · exact hM
  · exact hM
  · unfold echoA
    split
    · rename_i r
      have h1 := spaced_len r
      have e : wtL ([45, 110] :: r) = (2 + 2) + wtL r := rfl
      exact ⟨hM.fine, hM.closed, hM.dir, hM.inp, by show (spaced r).length ≤ _; omega⟩
    · exact ⟨hM.fine, hM.closed, hM.dir, hM.inp, by show (spaced l ++ [10]).length ≤ _; rw [List.length_append]; simp; omega⟩
  · unfold cat
    split
    · exact (cat_ok l ⟨k.s, k.d, k.code, k.inp, k.inp⟩ (m + wtL l) 0 ⟨hM.fine, hM.closed, hM.dir, hM.inp, by have := hM.inp; show k.inp.length ≤ _; omega⟩ fun _ => hM.inp).1
    · exact (cat_ok l k _ 0 hM fun _ => by rw [h0]; simp).1
  · unfold cpA
    split
    · exact hM
    · rename_i f t ht
      have := two_len ht
      split
      · exact hM
      · split
        · exact hM.wrote (by omega) false
        · exact hM
  · unfold mvA
    split
    · exact hM
    · rename_i f t ht
      have := two_len ht
      exact hM.took (h.fine.move (by omega)) (Sw.move_closed h.closed h.fine.sorted f t)
  · unfold rmA
    split
    · exact hM
    · split
      · exact hM
      · exact (each_ok _ _ _ _ 0 h fun x hx' => hx x (rest_sub l x hx')).1.more (by omega)
  · unfold touchC
    split
    · exact hM
    · exact (each_ok _ _ _ _ 0 h hx).1.more (by omega)
  · unfold mkdirC
    split
    · exact hM
    · split
      · exact hM
      · exact (each_ok _ _ _ _ 0 h fun x hx' => hx x (rest_sub l x hx')).1.more (by omega)
  · exact hM
  · unfold cdA
    split
    · rename_i a
      split
      · exact hM
      · rename_i p hj
        have hp := joinP_len hj
        have e : wtL [a] = (a.length + 2) + 0 := rfl
        split
        · exact ⟨h.fine, h.closed, by show p.length ≤ _; omega, h.inp, h.outp⟩
        · exact hM
    · exact hM
end Go.Proofs.YteommneijlelkaaGreatDoor.Hp
namespace Go.Proofs.YteommneijlelkaaGreatDoor.Hp
open Go.Proofs.YteommneijlelkaaGreatDoor

/-- The texts of a command. -/
def gtL (l : List Pp.G) : Nat := (l.map fun g => g.p.length + 2).sum
theorem gtL_mem {l : List Pp.G} {g : Pp.G} (h : g ∈ l) : g.p.length + 2 ≤ gtL l := by
  induction l with
  | nil => cases h
  | cons y r ih =>
    have e : gtL (y :: r) = (y.p.length + 2) + gtL r := rfl
    rcases List.mem_cons.1 h with rfl | h
    · omega
    · have := ih h; omega
def wC (c : Pp.C) : Nat := wtL c.ws + gtL c.to
def wL (l : List Pp.C) : Nat := (l.map wC).sum
theorem wL_cons (c : Pp.C) (l : List Pp.C) : wL (c :: l) = wC c + wL l := rfl

theorem tell_ok {k : K} {m : Nat} (h : Ok k m) (st : Nat) (out dst : Bs) (ht : dst = [] ∨ dst.length ≤ 100000) (ho : out.length ≤ 1048576) :
    Ok (tellA k st out dst).1 m ∧ (tellA k st out dst).1.d = k.d ∧ out <+: (tellA k st out dst).2.1 ∧ (tellA k st out dst).2.1.length ≤ 3145728 ∧ ((tellA k st out dst).1.code = 0 → (tellA k st out dst).2.1.length ≤ 1048576) := by
  have h1 := h.outp
  unfold tellA
  split
  · exact ⟨h, rfl, List.prefix_refl _, by show out.length ≤ _; omega, fun _ => ho⟩
  · split
    · refine ⟨⟨h.fine, h.closed, h.dir, h.inp, h.outp⟩, rfl, List.prefix_append _ _, by show (out ++ k.outp).length ≤ _; rw [List.length_append]; omega, fun hz => ?_⟩
      show (out ++ k.outp).length ≤ _
      simp only at hz
      split at hz
      · cases hz
      · omega
    · rename_i ht0
      have ht2 : dst.length ≤ 100000 := ht.resolve_left ht0
      split
      · exact ⟨h, rfl, List.prefix_refl _, by show out.length ≤ _; omega, fun _ => ho⟩
      · exact ⟨h.wrote ht2 true, rfl, List.prefix_refl _, by show out.length ≤ _; omega, fun _ => ho⟩
theorem whole_ok {s : St} {d : Bs} {code : Int} {out : Bs} {m : Nat} (hf : Sw.Fine s) (hc : Sw.Closed s.L) (hd : d.length ≤ m) (ho : out.length ≤ 1048576) (c : Pp.C) (hm : 2 * m + wC c + 3 ≤ 100000) :
    Ok (wholeA s d code out c).1 (m + wtL c.ws) ∧ out <+: (wholeA s d code out c).2.1 ∧ (wholeA s d code out c).2.1.length ≤ 3145728 ∧ ((wholeA s d code out c).1.code = 0 → (wholeA s d code out c).2.1.length ≤ 1048576) := by
  have hk : Ok ⟨s, d, code, [], []⟩ m := ⟨hf, hc, hd, Nat.zero_le _, Nat.zero_le _⟩
  have hg : ∀ g ∈ c.to, m + g.p.length + 2 ≤ 100000 := fun g hg => by
    have := gtL_mem hg
    unfold wC at hm
    omega
  obtain ⟨h1, h2, h3, h4⟩ := open_ok c.to ⟨s, d, code, [], []⟩ m [] hk hg
  unfold wholeA
  cases hop : openA ⟨s, d, code, [], []⟩ c.to [] with
  | mk k o =>
    rw [hop] at h1 h2 h3 h4
    cases o with
    | none => exact ⟨h1.more (by omega), List.prefix_refl _, by show out.length ≤ _; omega, fun _ => ho⟩
    | some dst =>
      have hw : wtL c.ws.tail ≤ wtL c.ws := by
        cases c.ws with
        | nil => exact Nat.le_refl _
        | cons x r => show wtL r ≤ (x.length + 2) + wtL r; omega
      have hdo := do_ok h1 (c.ws.headD []) c.ws.tail (by unfold wC at hm; omega) h3
      obtain ⟨t1, _, t3, t4, t5⟩ := tell_ok (hdo.more (n := m + wtL c.ws) (by omega)) (doA k (c.ws.headD []) c.ws.tail).2 out dst (by
        rcases h4 dst rfl with e | e
        · exact .inl e
        · exact .inr e) ho
      exact ⟨t1, t3, t4, t5⟩

/-- What holds of a run as far as it has come. -/
structure Going (r : R) (m : Nat) : Prop where
  fine : Sw.Fine r.s
  closed : Sw.Closed r.s.L
  dir : r.d.length ≤ m
  out : r.out.length ≤ 3145728
  small : r.code = 0 → r.out.length ≤ 1048576
theorem run_ok : ∀ (l : List Pp.C) (r : R) (m : Nat) (most : Int), Going r m → 2 * (m + wL l) + 3 ≤ 100000 → Going (runA r l most) (m + wL l) ∧ r.out <+: (runA r l most).out ∧ r.ran ≤ (runA r l most).ran ∧ (runA r l most).ran ≤ r.ran + l.length
  | [], r, m, most, h, _ => by
    unfold runA
    split
    · exact ⟨⟨h.fine, h.closed, h.dir, h.out, h.small⟩, List.prefix_refl _, Nat.le_refl _, Nat.le_refl _⟩
    · exact ⟨h, List.prefix_refl _, Nat.le_refl _, Nat.le_refl _⟩
  | c :: l, r, m, most, h, hm => by
    rw [wL_cons] at hm ⊢
    have hd := h.dir
    have hwc : wtL c.ws ≤ wC c := by unfold wC; omega
    unfold runA
    split
    · exact ⟨⟨h.fine, h.closed, by show r.d.length ≤ _; omega, h.out, h.small⟩, List.prefix_refl _, Nat.le_refl _, Nat.le_add_right _ _⟩
    · rename_i h0
      have h0 : r.code = 0 := by
        apply Classical.byContradiction
        exact fun e => h0 e
      split
      · obtain ⟨a, b, c1, d⟩ := run_ok l r m most h (by omega)
        exact ⟨⟨a.fine, a.closed, by have := a.dir; omega, a.out, a.small⟩, b, c1, by rw [List.length_cons]; omega⟩
      · split
        · exact ⟨⟨h.fine, h.closed, by show r.d.length ≤ _; omega, h.out, fun _ => h.small h0⟩, List.prefix_refl _, Nat.le_refl _, Nat.le_add_right _ _⟩
        · obtain ⟨w1, w2, w3, w4⟩ := whole_ok (s := r.s) (d := r.d) (code := r.code) (out := r.out) (m := m) h.fine h.closed h.dir (h.small h0) c (by omega)
          obtain ⟨a, b, c1, d⟩ := run_ok l (stepR r c) (m + wtL c.ws) most
            ⟨w1.fine, w1.closed, w1.dir, w3, w4⟩ (by omega)
          exact ⟨⟨a.fine, a.closed, by have := a.dir; omega, a.out, a.small⟩, w2.trans b, Nat.le_trans (Nat.le_succ _) c1, by
            have : (stepR r c).ran = r.ran + 1 := rfl
            rw [List.length_cons]; omega⟩

end Go.Proofs.YteommneijlelkaaGreatDoor.Hp

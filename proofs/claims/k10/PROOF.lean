import PyProof.Rows.All
import Wide.All
import OpenK.AllK
import Wide.FinOn
import HandS.ForExc
import HandS.Comp
import HandS.Wide
import HandS.Style
import HandS.IsInst
import HandS.Zip
import HandS.TryMany
import HandS.Lambda
import HandS.TupAny
import HandS.AnyAll
import PyProof.GenCompD
import KE.KNestM
import HandS.Defaults
import HandS.Head0
import HandS.Head1
import HandS.Head2
import HandS.HeadEnd
import HandS.HeadHook1
import HandS.HeadHook2
import HandS.EndBits
import HandS.EndTab
import HandS.TupMul
import HandS.Sort
import PyProof.TupleOfGen
import PyProof.Rows.TupleGenD
import PySem.Challenge.RW_towerback_k10_whole_common_divisors
set_option Elab.async false
set_option linter.all false
set_option maxRecDepth 100000
/-! A layer over HandS: values as data, states as lists of data, each rule a total function on them. -/
namespace DL
open PySem PySem.Spec PyProof.Rows L2

/-! ### data in a heap -/
mutual
inductive Rp (G : Hp) : V → PyData → Prop
  | non : Rp G .non .none
  | bl (b : Bool) : Rp G (.bl b) (.bool b)
  | int (i : Int) : Rp G (.int i) (.int i)
  | str (x : Str) : Rp G (.str x) (.str x)
  | lst {a : Addr} {xs : List V} {ds : List PyData} : G a = some (.lst xs) → RpL G xs ds → Rp G (.ref a) (.list ds)
  | tup {a : Addr} {xs : List V} {ds : List PyData} : G a = some (.tup xs) → RpL G xs ds → Rp G (.ref a) (.tuple ds)
inductive RpL (G : Hp) : List V → List PyData → Prop
  | nil : RpL G [] []
  | cons {v : V} {vs : List V} {d : PyData} {ds : List PyData} : Rp G v d → RpL G vs ds → RpL G (v :: vs) (d :: ds)
end
mutual
theorem Rp.mono {G G' : Hp} (k : ∀ b o, G b = some o → G' b = some o) : ∀ {v : V} {d : PyData}, Rp G v d → Rp G' v d
  | _, _, .non => .non
  | _, _, .bl b => .bl b
  | _, _, .int i => .int i
  | _, _, .str x => .str x
  | _, _, .lst h r => .lst (k _ _ h) (RpL.mono k r)
  | _, _, .tup h r => .tup (k _ _ h) (RpL.mono k r)
theorem RpL.mono {G G' : Hp} (k : ∀ b o, G b = some o → G' b = some o) : ∀ {vs : List V} {ds : List PyData}, RpL G vs ds → RpL G' vs ds
  | _, _, .nil => .nil
  | _, _, .cons h r => .cons (Rp.mono k h) (RpL.mono k r)
end
mutual
theorem Rp.dp {K : PySem.W.Frag} {G : Hp} : ∀ {v : V} {d : PyData}, Rp G v d → Dp K G v d
  | _, _, .non => .non
  | _, _, .bl b => .bl b
  | _, _, .int i => .int i
  | _, _, .str x => .str x
  | _, _, .lst h r => .lst (SqL.of h) (RpL.dp r)
  | _, _, .tup h r => .tup (SqT.of h) (RpL.dp r)
theorem RpL.dp {K : PySem.W.Frag} {G : Hp} : ∀ {vs : List V} {ds : List PyData}, RpL G vs ds → DpAll K G vs ds
  | _, _, .nil => .nil
  | _, _, .cons h r => .cons (Rp.dp h) (RpL.dp r)
end
section
variable {G : Hp} {vs ws : List V} {ds es : List PyData}
theorem RpL.length : ∀ {vs : List V} {ds : List PyData}, RpL G vs ds → vs.length = ds.length
  | _, _, .nil => rfl
  | _, _, .cons _ r => congrArg (· + 1) (RpL.length r)
theorem RpL.get : ∀ {vs : List V} {ds : List PyData} {i : Nat} {d : PyData}, RpL G vs ds → ds[i]? = some d → ∃ v, vs[i]? = some v ∧ Rp G v d
  | _, _, _, _, .nil, e => by simp at e
  | _, _, 0, _, .cons h _, e => by simp at e; subst e; exact ⟨_, rfl, h⟩
  | _, _, i + 1, d, .cons _ r, e => by
    obtain ⟨v, e1, e2⟩ := RpL.get (i := i) (d := d) r (by simpa using e)
    exact ⟨v, by simpa using e1, e2⟩
theorem RpL.app : ∀ {vs : List V} {ds : List PyData}, RpL G vs ds → RpL G ws es → RpL G (vs ++ ws) (ds ++ es)
  | _, _, .nil, s => s
  | _, _, .cons h r, s => .cons h (RpL.app r s)
theorem RpL.take : ∀ {vs : List V} {ds : List PyData} (n : Nat), RpL G vs ds → RpL G (vs.take n) (ds.take n)
  | _, _, 0, _ => .nil
  | _, _, _ + 1, .nil => .nil
  | _, _, n + 1, .cons h r => .cons h (RpL.take n r)
theorem RpL.drop : ∀ {vs : List V} {ds : List PyData} (n : Nat), RpL G vs ds → RpL G (vs.drop n) (ds.drop n)
  | _, _, 0, r => r
  | _, _, _ + 1, .nil => .nil
  | _, _, n + 1, .cons _ r => RpL.drop n r
end

/-! ### states -/
abbrev Cu := Int × Int
inductive Sl where
  | un | dat (d : PyData) | own (ds : List PyData) | cup
abbrev En := List Sl
inductive Rs (α : Type) where
  | stuck | exc (k : Nat) (cu : Cu) | ok (a : α) (cu : Cu)
/-- the kind of what comes out names the way on: so a reckoning does not go into it ahead of its time -/
abbrev RsT {α β : Type} (_ : α → Cu → Rs β) : Type := Rs β
@[inline] def Rs.bind {α β : Type} (r : Rs α) (f : α → Cu → Rs β) : RsT f := match r with
  | .stuck => .stuck
  | .exc k cu => .exc k cu
  | .ok a cu => f a cu
def Rs.ofO {α : Type} (o : Option α) (cu : Cu) : Rs α := match o with
  | some a => .ok a cu
  | none => .stuck
structure Kx where
  T : List (Addr × Str)
  CL : Nat → Addr
structure Wd (K : Kx) (c : Option Addr) (H G : Hp) (cu : Cu) : Prop where
  sub : ∀ b o, G b = some o → H b = some o
  tab : LamX.Tabs K.T H
  nt : ∀ b ps, G b ≠ some (.tbl ps)
  cup : ∀ a, c = some a → H a = some (.lst [.int cu.1, .int cu.2]) ∧ G a = none
/-- what lasts: not a table -/
def NT (o : HO) : Prop := ∀ ps, o ≠ .tbl ps
theorem nt_lst {xs : List V} : NT (.lst xs) := fun ps z => nomatch z
theorem nt_tup {xs : List V} : NT (.tup xs) := fun ps z => nomatch z
/-- nothing lasting stands there -/
def Fre (H : Hp) (p : Addr) : Prop := ∀ o, H p = some o → ¬ NT o
theorem Fre.of {H : Hp} {p : Addr} (h : H p = none) : Fre H p := fun o e => by rw [h] at e; cases e
theorem Fre.ne {H : Hp} {p b : Addr} {o : HO} (f : Fre H p) (e : H b = some o) (n : NT o) : b ≠ p := fun z => f o (by rw [← z]; exact e) n
structure Ext (c : Option Addr) (H G H' G' : Hp) : Prop where
  h : ∀ b o, H b = some o → NT o → c ≠ some b → H' b = some o
  hs : ∀ b o, H b = some o → NT o → ∃ o', H' b = some o' ∧ NT o'
  g : ∀ b o, G b = some o → G' b = some o
  n : ∀ b o, H b = some o → NT o → G b = none → G' b = none
theorem Ext.refl {c : Option Addr} {H G : Hp} : Ext c H G H G := ⟨fun _ _ e _ _ => e, fun _ o e n => ⟨o, e, n⟩, fun _ _ e => e, fun _ _ _ _ e => e⟩
theorem Ext.trans {c : Option Addr} {H G H1 G1 H2 G2 : Hp} (a : Ext c H G H1 G1) (b : Ext c H1 G1 H2 G2) : Ext c H G H2 G2 :=
  ⟨fun x o e n k => b.h x o (a.h x o e n k) n k, fun x o e n => let ⟨o1, e1, n1⟩ := a.hs x o e n; b.hs x o1 e1 n1, fun x o e => b.g x o (a.g x o e), fun x o e n z => let ⟨o1, e1, n1⟩ := a.hs x o e n; b.n x o1 e1 n1 (a.n x o e n z)⟩
theorem Ext.free {c : Option Addr} {H G H' G' : Hp} (a : Ext c H G H' G') {p : Addr} (f : Fre H' p) : Fre H p := fun o e n => by
  obtain ⟨o', e', n'⟩ := a.hs p o e n
  exact f o' e' n'

structure Rep (c : Option Addr) (H0 : Hp) (σ : L2.St) (H G : Hp) (ρ : En) : Prop where
  len : ρ.length = σ.length
  dat : ∀ (i : Nat) (d : PyData), ρ[i]? = some (Sl.dat d) → ∃ v : V, σ[i]? = some (some v) ∧ Rp G v d
  cup : ∀ (i : Nat), ρ[i]? = some Sl.cup → ∃ a, c = some a ∧ σ[i]? = some (some (V.ref a))
  own : ∃ A : Nat → Addr, (∀ (i : Nat) (ds : List PyData), ρ[i]? = some (Sl.own ds) → σ[i]? = some (some (V.ref (A i))) ∧ (∃ xs, H (A i) = some (.lst xs) ∧ RpL G xs ds) ∧ G (A i) = none ∧ Fre H0 (A i) ∧ c ≠ some (A i)) ∧
    ∀ (i j : Nat) (ds es : List PyData), ρ[i]? = some (Sl.own ds) → ρ[j]? = some (Sl.own es) → i ≠ j → A i ≠ A j
structure SRep (K : Kx) (c : Option Addr) (H0 G0 : Hp) (σ : L2.St) (H G : Hp) (ρ : En) (cu : Cu) : Prop where
  wd : Wd K c H G cu
  ext : Ext c H0 G0 H G
  rep : Rep c H0 σ H G ρ
theorem SRep.go {K : Kx} {c : Option Addr} {H0 G0 H G H' G' : Hp} {σ : L2.St} {ρ : En} {cu cu' : Cu} (s : SRep K c H0 G0 σ H G ρ cu) (x : Ext c H G H' G') (w : Wd K c H' G' cu') : SRep K c H0 G0 σ H' G' ρ cu' := by
  refine ⟨w, s.ext.trans x, s.rep.len, fun i d e => ?_, s.rep.cup, ?_⟩
  · obtain ⟨v, e1, e2⟩ := s.rep.dat i d e
    exact ⟨v, e1, e2.mono x.g⟩
  · obtain ⟨A, h1, h2⟩ := s.rep.own
    refine ⟨A, fun i ds e => ?_, h2⟩
    obtain ⟨e1, ⟨xs, e2, e3⟩, e4, e5, e6⟩ := h1 i ds e
    exact ⟨e1, ⟨xs, x.h _ _ e2 nt_lst e6, e3.mono x.g⟩, x.n _ _ e2 nt_lst e4, e5, e6⟩

/-! ### what is left to show behind a reckoning -/
def Post (K : Kx) (E : XK) (c : Option Addr) (H G : Hp) {α : Type} (r : Rs α) (Q : α → Hp → Hp → Cu → Prop) : Prop := match r with
  | .stuck => False
  | .exc k cu' => ∀ H' G', Ext c H G H' G' → Wd K c H' G' cu' → E (.ref (K.CL k)) none H'
  | .ok a cu' => ∀ H' G', Ext c H G H' G' → Wd K c H' G' cu' → Q a H' G' cu'
section
variable {K : Kx} {E : XK} {c : Option Addr} {H G H1 G1 : Hp} {α β : Type}
theorem Post.go {r : Rs α} {Q : α → Hp → Hp → Cu → Prop} (x : Ext c H G H1 G1) (h : Post K E c H G r Q) : Post K E c H1 G1 r Q := by
  cases r with
  | stuck => exact h
  | exc k cu => exact fun H' G' y w => h H' G' (x.trans y) w
  | ok a cu => exact fun H' G' y w => h H' G' (x.trans y) w
theorem Post.bind {r : Rs α} {f : α → Cu → Rs β} {Q : β → Hp → Hp → Cu → Prop} (h : Post K E c H G (r.bind f) Q) :
    Post K E c H G r (fun a H1 G1 cu1 => Post K E c H1 G1 (f a cu1) Q) := by
  cases r with
  | stuck => exact h
  | exc k cu => exact h
  | ok a cu => exact fun H' G' x _ => Post.go x h
theorem Post.imp {r : Rs α} {Q Q' : α → Hp → Hp → Cu → Prop} (h : Post K E c H G r Q) (k : ∀ a H' G' cu', Ext c H G H' G' → Wd K c H' G' cu' → Q a H' G' cu' → Q' a H' G' cu') : Post K E c H G r Q' := by
  cases r with
  | stuck => exact h
  | exc k cu => exact h
  | ok a cu => exact fun H' G' x w => k _ _ _ _ x w (h H' G' x w)
theorem Post.ofO {o : Option α} {cu : Cu} {Q : α → Hp → Hp → Cu → Prop} (h : Post K E c H G (Rs.ofO o cu) Q) : ∃ a, o = some a ∧ ∀ H' G', Ext c H G H' G' → Wd K c H' G' cu → Q a H' G' cu := by
  cases o with
  | none => exact h.elim
  | some a => exact ⟨a, rfl, h⟩
end
/-- what follows a value -/
abbrev QD (Q : VK) : PyData → Hp → Hp → Cu → Prop := fun d H' G' _ => ∀ v, Rp G' v d → Q v H'
/-! ### the judgements -/
abbrev GE := En → Cu → Rs PyData
abbrev GT := En → Cu → Rs Bool
abbrev GA := En → Cu → Rs (List Sl)
inductive ArgRp (c : Option Addr) (G : Hp) : List V → List Sl → Prop
  | nil : ArgRp c G [] []
  | dat {v : V} {vs : List V} {d : PyData} {as : List Sl} : Rp G v d → ArgRp c G vs as → ArgRp c G (v :: vs) (.dat d :: as)
  | cup {a : Addr} {vs : List V} {as : List Sl} : c = some a → ArgRp c G vs as → ArgRp c G (.ref a :: vs) (.cup :: as)
theorem ArgRp.mono {c : Option Addr} {G G' : Hp} (k : ∀ b o, G b = some o → G' b = some o) : ∀ {vs : List V} {as : List Sl}, ArgRp c G vs as → ArgRp c G' vs as
  | _, _, .nil => .nil
  | _, _, .dat h r => .dat (h.mono k) (ArgRp.mono k r)
  | _, _, .cup h r => .cup h (ArgRp.mono k r)
theorem ArgRp.length {c : Option Addr} {G : Hp} : ∀ {vs : List V} {as : List Sl}, ArgRp c G vs as → vs.length = as.length
  | _, _, .nil => rfl
  | _, _, .dat _ r => congrArg (· + 1) r.length
  | _, _, .cup _ r => congrArg (· + 1) r.length
def SemE (K : Kx) (E : XK) (t : TE) (g : GE) : Prop := ∀ c H0 G0 σ H G ρ cu (Q : VK), SRep K c H0 G0 σ H G ρ cu → Post K E c H G (g ρ cu) (QD Q) → t σ H Q
def SemT (K : Kx) (E : XK) (t : TT) (g : GT) : Prop := ∀ c H0 G0 σ H G ρ cu (Q : Bool → Hp → Prop), SRep K c H0 G0 σ H G ρ cu → Post K E c H G (g ρ cu) (fun b H' _ _ => Q b H') → t σ H Q
def SemA (K : Kx) (E : XK) (t : TA) (g : GA) : Prop := ∀ c H0 G0 σ H G ρ cu (Q : List V → Hp → Prop), SRep K c H0 G0 σ H G ρ cu → Post K E c H G (g ρ cu) (fun as H' G' _ => ∀ vs, ArgRp c G' vs as → Q vs H') → t σ H Q
structure PD (X : Cx) (K : Kx) (E : XK) (e : Expr) (t : TE) (g : GE) : Prop where
  pe : PE X e t
  sem : SemE K E t g
structure PTD (X : Cx) (K : Kx) (E : XK) (e : Expr) (t : TT) (g : GT) : Prop where
  pt : PT X e t
  sem : SemT K E t g
structure PWD (X : Cx) (K : Kx) (E : XK) (e : Expr) (t : TT) (g : GT) : Prop where
  pw : PW X e t
  sem : SemT K E t g
structure PAD (X : Cx) (K : Kx) (E : XK) (es : List Expr) (t : TA) (g : GA) : Prop where
  pa : PA X es t
  sem : SemA K E t g
section
variable {X : Cx} {K : Kx} {E : XK} {a b e : Expr} {es : List Expr} {ta tb te : TE} {t : TA} {ga gb ge : GE} {g : GA} {pos : Pos}
/-! ### names, constants -/
def gVar (i : Nat) : GE := fun ρ cu => match ρ[i]? with
  | some (Sl.dat d) => .ok d cu
  | _ => .stuck
theorem pd_var {i : Nat} {x : Str} (h : PE X (.Name x pos) (tVar i)) : PD X K E (.Name x pos) (tVar i) (gVar i) := by
  refine ⟨h, fun c H0 G0 σ H G ρ cu Q s q => ?_⟩
  unfold gVar at q
  split at q
  · rename_i d e
    obtain ⟨v, e1, r⟩ := s.rep.dat i d e
    exact ⟨v, e1, q H G Ext.refl s.wd v r⟩
  · exact q.elim
def gC (d : PyData) : GE := fun _ cu => .ok d cu
theorem sem_c {v : V} {d : PyData} (r : ∀ G, Rp G v d) : SemE K E (tC v) (gC d) := fun c H0 G0 σ H G ρ cu Q s q => q H G Ext.refl s.wd v (r G)
theorem pd_int {i : Int} {j : Nat} : PD X K E (.Constant (.int i) j pos) (tC (.int i)) (gC (.int i)) := ⟨pe_int, sem_c fun _ => .int i⟩
theorem pd_bl {i : Bool} {j : Nat} : PD X K E (.Constant (.bool i) j pos) (tC (.bl i)) (gC (.bool i)) := ⟨pe_bl, sem_c fun _ => .bl i⟩
theorem pd_non {j : Nat} : PD X K E (.Constant .none j pos) (tC .non) (gC .none) := ⟨pe_non, sem_c fun _ => .non⟩
theorem pd_str {x : Str} {j : Nat} : PD X K E (.Constant (.str x) j pos) (tC (.str x)) (gC (.str x)) := ⟨pe_str, sem_c fun _ => .str x⟩
theorem pd_globI {x : Str} {i : Int} {u : Tok} (hg : Gl X x) (hm : X.mg x = some (.int i u)) (hd : (x == ("__debug__" : Str)) = false := by decide) : PD X K E (.Name x pos) (tC (.int i)) (gC (.int i)) :=
  ⟨pe_glob hg hm ⟨u, rfl⟩ hd, sem_c fun _ => .int i⟩
/-! ### operators -/
def OpD (K : Kx) (r : R2) (f : PyData → PyData → Option PyData) : Prop := ∀ c H G cu v w d e z (Q : VK), Wd K c H G cu → Rp G v d → Rp G w e → f d e = some z →
  (∀ v' H' G', Ext c H G H' G' → Wd K c H' G' cu → Rp G' v' z → Q v' H') → r v w H Q
def gBin (f : PyData → PyData → Option PyData) (ga gb : GE) : GE := fun ρ cu => (ga ρ cu).bind fun a cu1 => (gb ρ cu1).bind fun b cu2 => .ofO (f a b) cu2
theorem sem_op {r : R2} {f : PyData → PyData → Option PyData} (hf : OpD K r f) (ha : SemE K E ta ga) (hb : SemE K E tb gb) : SemE K E (tOp r ta tb) (gBin f ga gb) := by
  intro c H0 G0 σ H G ρ cu Q s q
  refine ha c H0 G0 σ H G ρ cu _ s (q.bind.imp fun a H1 G1 cu1 x1 w1 q1 v rv => ?_)
  have s1 := s.go x1 w1
  refine hb c H0 G0 σ H1 G1 ρ cu1 _ s1 (q1.bind.imp fun b H2 G2 cu2 x2 w2 q2 w rw' => ?_)
  obtain ⟨z, e, q3⟩ := q2.ofO
  exact hf c H2 G2 cu2 v w a b z Q w2 (rv.mono x2.g) rw' e fun v' H' G' x w => q3 H' G' x w v'
theorem pd_op {op : Operator} {r : R2} {f : PyData → PyData → Option PyData} (ho : OpR X (binaryOp op) r) (hf : OpD K r f) (ha : PD X K E a ta ga) (hb : PD X K E b tb gb) : PD X K E (.BinOp a op b pos) (tOp r ta tb) (gBin f ga gb) :=
  ⟨pe_op ho ha.pe hb.pe, sem_op hf ha.sem hb.sem⟩
theorem pd_cmp {op : CmpOp} {r : R2} {f : PyData → PyData → Option PyData} (ho : OpR X (compareOp op) r) (hf : OpD K r f) (ha : PD X K E a ta ga) (hb : PD X K E b tb gb) (hm : behindInMarks op b = false) : PD X K E (.Compare a [op] [b] pos) (tOp r ta tb) (gBin f ga gb) :=
  ⟨pe_cmpR ho ha.pe hb.pe hm, sem_op hf ha.sem hb.sem⟩
theorem pd_ix {r : R2} {f : PyData → PyData → Option PyData} (ho : IxR X r) (hf : OpD K r f) (ha : PD X K E a ta ga) (hb : PD X K E b tb gb) (hs : PlainIx b) : PD X K E (.Subscript a b pos) (tOp r ta tb) (gBin f ga gb) :=
  ⟨pe_ix ho ha.pe hb.pe hs, sem_op hf ha.sem hb.sem⟩
/-- two ways of one operator -/
theorem OpD.or {r r' : R2} {f f' : PyData → PyData → Option PyData} (h : OpD K r f) (h' : OpD K r' f') : OpD K (fun x y H Q => r x y H Q ∨ r' x y H Q) (fun d e => (f d e).or (f' d e)) := by
  intro c H G cu v w d e z Q wd r1 r2 hz q
  cases hf : f d e with
  | some y =>
    have hz' : (f d e).or (f' d e) = some z := hz
    rw [hf] at hz'
    exact .inl (h c H G cu v w d e z Q wd r1 r2 (by rw [hf]; exact hz') q)
  | none =>
    have hz' : (f d e).or (f' d e) = some z := hz
    rw [hf] at hz'
    exact .inr (h' c H G cu v w d e z Q wd r1 r2 hz' q)
def fI (C : Int → Int → Bool) (g : Int → Int → Int) : PyData → PyData → Option PyData
  | .int i, .int j => if C i j = true then some (.int (g i j)) else none
  | _, _ => none
def fI0 (g : Int → Int → Int) : PyData → PyData → Option PyData
  | .int i, .int j => some (.int (g i j))
  | _, _ => none
def fB0 (g : Int → Int → Bool) : PyData → PyData → Option PyData
  | .int i, .int j => some (.bool (g i j))
  | _, _ => none
theorem Rp.int_of {G : Hp} {v : V} {i : Int} (r : Rp G v (.int i)) : v = .int i := by cases r; rfl
theorem Rp.bl_of {G : Hp} {v : V} {i : Bool} (r : Rp G v (.bool i)) : v = .bl i := by cases r; rfl
theorem Rp.str_of {G : Hp} {v : V} {i : Str} (r : Rp G v (.str i)) : v = .str i := by cases r; rfl
theorem Rp.lst_of {G : Hp} {v : V} {ds : List PyData} (r : Rp G v (.list ds)) : ∃ a xs, v = .ref a ∧ G a = some (.lst xs) ∧ RpL G xs ds := by cases r with | lst h r => exact ⟨_, _, rfl, h, r⟩
theorem Rp.tup_of {G : Hp} {v : V} {ds : List PyData} (r : Rp G v (.tuple ds)) : ∃ a xs, v = .ref a ∧ G a = some (.tup xs) ∧ RpL G xs ds := by cases r with | tup h r => exact ⟨_, _, rfl, h, r⟩
theorem opD_I0 {g : Int → Int → Int} : OpD K (rI0 fun i j => .int (g i j)) (fI0 g) := by
  intro c H G cu v w d e z Q wd r1 r2 hz q
  unfold fI0 at hz
  split at hz
  · cases hz
    exact ⟨_, _, r1.int_of, r2.int_of, q _ H G Ext.refl wd (.int _)⟩
  · cases hz
theorem opD_B0 {g : Int → Int → Bool} : OpD K (rI0 fun i j => .bl (g i j)) (fB0 g) := by
  intro c H G cu v w d e z Q wd r1 r2 hz q
  unfold fB0 at hz
  split at hz
  · cases hz
    exact ⟨_, _, r1.int_of, r2.int_of, q _ H G Ext.refl wd (.bl _)⟩
  · cases hz
theorem opD_I {C : Int → Int → Prop} {C' : Int → Int → Bool} {g : Int → Int → Int} (hC : ∀ i j, C' i j = true → C i j) : OpD K (rI C fun i j => .int (g i j)) (fI C' g) := by
  intro c H G cu v w d e z Q wd r1 r2 hz q
  unfold fI at hz
  split at hz
  · split at hz
    · rename_i hc
      cases hz
      exact ⟨_, _, r1.int_of, r2.int_of, hC _ _ hc, q _ H G Ext.refl wd (.int _)⟩
    · cases hz
  · cases hz
/-- a new object, not known -/
theorem Wd.newH {c : Option Addr} {H G : Hp} {cu : Cu} (w : Wd K c H G cu) {p : Addr} {o : HO} (hp : H p = none) (no : ∀ ps, o ≠ .tbl ps := by intro ps z; cases z) : Ext c H G (upd H p o) G ∧ Wd K c (upd H p o) G cu ∧ G p = none := by
  have gp : G p = none := by
    cases e : G p with
    | none => rfl
    | some u => have := w.sub _ _ e; rw [hp] at this; cases this
  have hk : ∀ b u, H b = some u → upd H p o b = some u := fun b u e => by rw [upd_ne (ne_of_none e hp)]; exact e
  refine ⟨⟨fun b u e _ _ => hk b u e, fun b u e n => ⟨u, hk b u e, n⟩, fun b u e => e, fun b u e _ n => n⟩, ⟨fun b u e => hk b u (w.sub _ _ e), w.tab.ext hk, w.nt, fun a ha => ?_⟩, gp⟩
  obtain ⟨h1, h2⟩ := w.cup a ha
  exact ⟨hk _ _ h1, h2⟩
/-- a known one -/
theorem Wd.know {c : Option Addr} {H G : Hp} {cu : Cu} (w : Wd K c H G cu) {p : Addr} {o : HO} (hp : H p = some o) (gp : G p = none) (hc : c ≠ some p) (no : ∀ ps, o ≠ .tbl ps := by intro ps z; cases z) : Wd K c H (upd G p o) cu := by
  refine ⟨fun b u e => ?_, w.tab, fun b ps e => ?_, fun a ha => ?_⟩
  · by_cases hb : b = p
    · rw [hb, upd_same] at e; rw [hb, hp]; exact e
    · rw [upd_ne hb] at e; exact w.sub _ _ e
  · by_cases hb : b = p
    · rw [hb, upd_same] at e; exact no ps (Option.some.inj e)
    · rw [upd_ne hb] at e; exact w.nt b ps e
  · obtain ⟨h1, h2⟩ := w.cup a ha
    exact ⟨h1, by rw [upd_ne (fun z => hc (by rw [← z]; exact ha))]; exact h2⟩
/-- a new object, known from now on -/
theorem Wd.new {c : Option Addr} {H G : Hp} {cu : Cu} (w : Wd K c H G cu) {p : Addr} {o : HO} (hp : H p = none) (no : ∀ ps, o ≠ .tbl ps := by intro ps z; cases z) : Ext c H G (upd H p o) (upd G p o) ∧ Wd K c (upd H p o) (upd G p o) cu := by
  obtain ⟨x, w', gp⟩ := w.newH hp no
  refine ⟨⟨x.h, x.hs, fun b u e => by rw [upd_ne (ne_of_none e gp)]; exact e, fun b u e _ n => ?_⟩, w'.know upd_same gp (fun z => ?_) no⟩
  · rw [upd_ne (ne_of_none e hp)]; exact n
  · have := (w.cup p z).1
    rw [hp] at this; cases this
theorem RpL.upd {G : Hp} {xs : List V} {ds : List PyData} {p : Addr} {o : HO} (r : RpL G xs ds) (gp : G p = none) : RpL (upd G p o) xs ds := r.mono fun b u e => by rw [upd_ne (ne_of_none e gp)]; exact e
theorem Wd.gp {c : Option Addr} {H G : Hp} {cu : Cu} (w : Wd K c H G cu) {p : Addr} (hp : H p = none) : G p = none := by
  cases e : G p with
  | none => rfl
  | some u => have := w.sub _ _ e; rw [hp] at this; cases this
/-- a new tuple, a new list -/
theorem new_tup {c : Option Addr} {H G : Hp} {cu : Cu} {p : Addr} {xs : List V} {ds : List PyData} {Q : VK} (w : Wd K c H G cu) (r : RpL G xs ds) (q : ∀ v' H' G', Ext c H G H' G' → Wd K c H' G' cu → Rp G' v' (.tuple ds) → Q v' H') (hp : H p = none) : Q (.ref p) (upd H p (.tup xs)) :=
  q _ _ _ (w.new hp).1 (w.new hp).2 (.tup upd_same (r.upd (w.gp hp)))
theorem new_lst {c : Option Addr} {H G : Hp} {cu : Cu} {p : Addr} {xs : List V} {ds : List PyData} {Q : VK} (w : Wd K c H G cu) (r : RpL G xs ds) (q : ∀ v' H' G', Ext c H G H' G' → Wd K c H' G' cu → Rp G' v' (.list ds) → Q v' H') (hp : H p = none) : Q (.ref p) (upd H p (.lst xs)) :=
  q _ _ _ (w.new hp).1 (w.new hp).2 (.lst upd_same (r.upd (w.gp hp)))
end
end DL

set_option Elab.async false
set_option linter.all false
set_option maxRecDepth 100000
set_option autoImplicit false
namespace DL
open PySem PySem.Spec PyProof.Rows L2
section
variable {X : Cx} {K : Kx} {E : XK} {a b c e : Expr} {es : List Expr} {ta tb tc te : TE} {t : TA} {ga gb gc ge : GE} {g : GA} {pos : Pos}
/-! ### the operators -/
def dAdd : PyData → PyData → Option PyData
  | .int i, .int j => some (.int (i + j))
  | .tuple xs, .tuple ys => if xs.length + ys.length ≤ 16777216 then some (.tuple (xs ++ ys)) else none
  | .list xs, .list ys => if xs.length + ys.length ≤ 16777216 then some (.list (xs ++ ys)) else none
  | _, _ => none
def rAddD (F : PySem.W.Frag) : R2 := fun x y H Q => rI0 (fun i j => .int (i + j)) x y H Q ∨ (rCatA F x y H Q ∨ rCat x y H Q)
theorem op_addD : OpR X (binaryOp .Add) (rAddD X.K) := OpR.or op_add (OpR.or op_catA op_cat)
theorem opD_add : OpD K (rAddD X.K) dAdd := by
  intro c H G cu v w d e z Q wd r1 r2 hz q
  unfold dAdd at hz
  split at hz
  · cases hz
    exact .inl ⟨_, _, r1.int_of, r2.int_of, q _ H G Ext.refl wd (.int _)⟩
  · split at hz
    · rename_i hl
      cases hz
      obtain ⟨a, xs, rfl, ha, ra⟩ := r1.tup_of
      obtain ⟨b, ys, rfl, hb, rb⟩ := r2.tup_of
      refine .inr (.inl ⟨a, b, xs, ys, rfl, rfl, SqT.of (wd.sub _ _ ha), SqT.of (wd.sub _ _ hb), by rw [ra.length, rb.length, sizeLine_eq]; exact hl, ?_⟩)
      refine ⟨fun ex => ?_, fun hx ey => ?_, fun hx hy p hp => new_tup wd (ra.app rb) q hp⟩
      · subst ex
        cases ra
        exact q _ H G Ext.refl wd (.tup hb rb)
      · subst ey
        cases rb
        rw [List.append_nil] at q
        exact q _ H G Ext.refl wd (.tup ha ra)
    · cases hz
  · split at hz
    · rename_i hl
      cases hz
      obtain ⟨a, xs, rfl, ha, ra⟩ := r1.lst_of
      obtain ⟨b, ys, rfl, hb, rb⟩ := r2.lst_of
      exact .inr (.inr ⟨a, b, xs, ys, rfl, rfl, wd.sub _ _ ha, wd.sub _ _ hb, by rw [ra.length, rb.length, sizeLine_eq]; exact hl, fun p hp => new_lst wd (ra.app rb) q hp⟩)
    · cases hz
  · cases hz
theorem opD_sub : OpD K (rI0 fun i j => .int (i - j)) (fI0 fun i j => i - j) := opD_I0
def mulOk (i j : Int) : Bool := decide (i.natAbs < 2 ^ 64) || (decide (j.natAbs < 2 ^ 64) || decide (i.natAbs.log2 + j.natAbs.log2 < 1000000))
theorem RpL.rep {G : Hp} {xs : List V} {ds : List PyData} (r : RpL G xs ds) : ∀ k : Nat, RpL G (List.replicate k xs).flatten (List.replicate k ds).flatten
  | 0 => .nil
  | k + 1 => by rw [List.replicate_succ, List.replicate_succ, List.flatten_cons, List.flatten_cons]; exact r.app (RpL.rep r k)
def dMul : PyData → PyData → Option PyData
  | .int i, .int j => if mulOk i j = true then some (.int (i * j)) else none
  | .list xs, .int k => if k ≤ 1000 ∧ -1000 ≤ k ∧ xs.length ≤ 1000 then some (.list (List.replicate k.toNat xs).flatten) else none
  | _, _ => none
def CMulD (i j : Int) : Prop := mulOk i j = true
theorem op_mulD0 : OpR X (binaryOp .Mult) (rI CMulD fun i j => .int (i * j)) := by
  intro pins s σ H x y v u Q I rx ry h
  obtain ⟨i, j, e1, e2, hc, q⟩ := h
  unfold CMulD mulOk at hc
  rw [Bool.or_eq_true, Bool.or_eq_true, decide_eq_true_eq, decide_eq_true_eq, decide_eq_true_eq] at hc
  rcases hc with hc | hc | hc
  · exact op_mul pins s σ H x y v u Q I rx ry ⟨i, j, e1, e2, .inl (by omega), q⟩
  · exact op_mul pins s σ H x y v u Q I rx ry ⟨i, j, e1, e2, .inr (by omega), q⟩
  · exact op_mulW pins s σ H x y v u Q I rx ry ⟨i, j, e1, e2, hc, q⟩
def rMulD : R2 := fun x y H Q => rI CMulD (fun i j => .int (i * j)) x y H Q ∨ rRep x y H Q
theorem op_mulD : OpR X (binaryOp .Mult) rMulD := OpR.or op_mulD0 op_rep
theorem opD_mul : OpD K rMulD dMul := by
  intro c H G cu v w d e z Q wd r1 r2 hz q
  unfold dMul at hz
  split at hz
  · split at hz
    · rename_i hc
      cases hz
      exact .inl ⟨_, _, r1.int_of, r2.int_of, hc, q _ H G Ext.refl wd (.int _)⟩
    · cases hz
  · split at hz
    · rename_i xs k hc
      cases hz
      obtain ⟨a, vs, rfl, ha, ra⟩ := r1.lst_of
      have hl := ra.length
      refine .inr ⟨a, k, vs, rfl, r2.int_of, wd.sub _ _ ha, by omega, by omega, ?_, fun p hp => new_lst wd (ra.rep _) q hp⟩
      rw [hl, sizeLine_eq]
      have h1 : k.toNat ≤ 1000 := by omega
      calc xs.length * k.toNat ≤ 1000 * 1000 := Nat.mul_le_mul hc.2.2 h1
        _ ≤ 16777216 := by decide
    · cases hz
  · cases hz
def divOk (_ j : Int) : Bool := decide (j ≠ 0) && decide (j.natAbs.log2 < 9000)
def CDivD (i j : Int) : Prop := divOk i j = true
theorem op_divD : OpR X (binaryOp .FloorDiv) (rI CDivD fun i j => .int (i.fdiv j)) := opI fun i j _ _ _ _ _ hc q => by
  have hc : divOk i j = true := hc
  unfold divOk at hc
  rw [Bool.and_eq_true, decide_eq_true_eq, decide_eq_true_eq] at hc
  exact floordiv_int hc.1 q (.inl (PyProof.noPylong_of_log2 hc.2))
theorem opD_div : OpD K (rI CDivD fun i j => .int (i.fdiv j)) (fI divOk fun i j => i.fdiv j) := opD_I fun _ _ h => h
def modOk (_ j : Int) : Bool := decide (j ≠ 0)
theorem opD_mod : OpD K (rI (fun _ j => j ≠ 0) fun i j => .int (i.fmod j)) (fI modOk fun i j => i.fmod j) := opD_I fun _ _ h => of_decide_eq_true h
def powOk (i j : Int) : Bool := decide (0 ≤ j) && (decide (j ≤ 1000000) && decide (i.natAbs < 2 ^ 64))
theorem opD_pow : OpD K (rI CPow fun i j => .int (i ^ j.toNat)) (fI powOk fun i j => i ^ j.toNat) := opD_I fun i j h => by
  unfold powOk at h
  rw [Bool.and_eq_true, Bool.and_eq_true, decide_eq_true_eq, decide_eq_true_eq, decide_eq_true_eq] at h
  exact h
theorem opD_lt : OpD K (rI0 fun i j => .bl (decide (i < j))) (fB0 fun i j => decide (i < j)) := opD_B0
theorem opD_le : OpD K (rI0 fun i j => .bl (decide (i ≤ j))) (fB0 fun i j => decide (i ≤ j)) := opD_B0
theorem opD_gt : OpD K (rI0 fun i j => .bl (decide (j < i))) (fB0 fun i j => decide (j < i)) := opD_B0
theorem opD_ge : OpD K (rI0 fun i j => .bl (decide (j ≤ i))) (fB0 fun i j => decide (j ≤ i)) := opD_B0
/-! ==, != -/
def eqD : PyData → PyData → Option Bool
  | .int i, .int j => some (decide (i = j))
  | .str i, .str j => some (decide (i = j))
  | .bool i, .bool j => some (decide (i = j))
  | d, e => if SeqAt.shaped d = true ∧ SeqAt.shaped e = true then some (PyData.eqv d e) else none
def dEq (d e : PyData) : Option PyData := (eqD d e).map .bool
def dNe (d e : PyData) : Option PyData := (eqD d e).map fun b => .bool (!b)
def rEqX (F : PySem.W.Frag) : R2 := fun x y H Q => rEq x y H Q ∨ rEqD F x y H Q
def rNeX (F : PySem.W.Frag) : R2 := fun x y H Q => rNe x y H Q ∨ rNeD F x y H Q
theorem op_eqX (hu : X.A.units + 64 < cLine) : OpR X (compareOp .Eq) (rEqX X.K) := OpR.or op_eq (op_eqD hu)
theorem op_neX (hu : X.A.units + 64 < cLine) : OpR X (compareOp .NotEq) (rNeX X.K) := OpR.or op_ne (op_neD hu)
theorem eq_core {c : Option Addr} {H G : Hp} {cu : Cu} {v w : V} {d e : PyData} {k : Bool} {F : PySem.W.Frag} (wd : Wd K c H G cu) (r1 : Rp G v d) (r2 : Rp G w e) (hk : eqD d e = some k) :
    (scal v w = true ∧ decide (v = w) = k) ∨ ∃ d' e', Dp F H v d' ∧ Dp F H w e' ∧ SeqAt.shaped d' = true ∧ SeqAt.shaped e' = true ∧ PyData.eqv d' e' = k := by
  unfold eqD at hk
  split at hk
  · cases hk; rw [r1.int_of, r2.int_of]; exact .inl ⟨rfl, by rw [dec_int, Bool.beq_eq_decide_eq]⟩
  · cases hk; rw [r1.str_of, r2.str_of]; exact .inl ⟨rfl, by rw [dec_str, Bool.beq_eq_decide_eq]⟩
  · cases hk; rw [r1.bl_of, r2.bl_of]; exact .inl ⟨rfl, by rw [dec_bl, Bool.beq_eq_decide_eq]⟩
  · split at hk
    · rename_i hs
      cases hk
      exact .inr ⟨_, _, (r1.mono wd.sub).dp, (r2.mono wd.sub).dp, hs.1, hs.2, rfl⟩
    · cases hk
theorem opD_eq : OpD K (rEqX X.K) dEq := by
  intro c H G cu v w d e z Q wd r1 r2 hz q
  unfold dEq at hz
  cases hk : eqD d e with
  | none => rw [hk] at hz; cases hz
  | some k =>
    rw [hk] at hz
    cases hz
    have q' := q (.bl k) H G Ext.refl wd (.bl _)
    rcases eq_core (F := X.K) wd r1 r2 hk with ⟨h1, h2⟩ | ⟨d', e', h1, h2, h3, h4, h5⟩
    · exact .inl ⟨h1, by rw [h2]; exact q'⟩
    · exact .inr ⟨d', e', h1, h2, h3, h4, by rw [h5]; exact q'⟩
theorem opD_ne : OpD K (rNeX X.K) dNe := by
  intro c H G cu v w d e z Q wd r1 r2 hz q
  unfold dNe at hz
  cases hk : eqD d e with
  | none => rw [hk] at hz; cases hz
  | some k =>
    rw [hk] at hz
    cases hz
    have q' := q (.bl !k) H G Ext.refl wd (.bl _)
    rcases eq_core (F := X.K) wd r1 r2 hk with ⟨h1, h2⟩ | ⟨d', e', h1, h2, h3, h4, h5⟩
    · exact .inl ⟨h1, by rw [h2]; exact q'⟩
    · exact .inr ⟨d', e', h1, h2, h3, h4, by rw [h5]; exact q'⟩
/-! is, is not of bools -/
def dIs : PyData → PyData → Option PyData
  | .bool i, .bool j => some (.bool (decide (i = j)))
  | _, _ => none
def dIsNot : PyData → PyData → Option PyData
  | .bool i, .bool j => some (.bool (!decide (i = j)))
  | _, _ => none
theorem opD_is : OpD K rIsB dIs := by
  intro c H G cu v w d e z Q wd r1 r2 hz q
  unfold dIs at hz
  split at hz
  · cases hz; exact ⟨_, _, r1.bl_of, r2.bl_of, q _ H G Ext.refl wd (.bl _)⟩
  · cases hz
theorem opD_isNot : OpD K rNotB dIsNot := by
  intro c H G cu v w d e z Q wd r1 r2 hz q
  unfold dIsNot at hz
  split at hz
  · cases hz; exact ⟨_, _, r1.bl_of, r2.bl_of, q _ H G Ext.refl wd (.bl _)⟩
  · cases hz
/-! xs[i] -/
def dIx : PyData → PyData → Option PyData
  | .tuple xs, .int i => atI xs i
  | .list xs, .int i => atI xs i
  | _, _ => none
theorem atI_rp {G : Hp} {xs : List V} {ds : List PyData} {i : Int} {d : PyData} (r : RpL G xs ds) (h : atI ds i = some d) : ∃ v, atI xs i = some v ∧ Rp G v d := by
  unfold atI at h ⊢
  rw [r.length]
  cases e : ixN ds.length i with
  | none => rw [e] at h; cases h
  | some j =>
    rw [e] at h
    exact r.get h
def rIxD (F : PySem.W.Frag) : R2 := fun x y H Q => rIxT F x y H Q ∨ rIxL F x y H Q
theorem ixR_D : IxR X (rIxD X.K) := IxR.or ix_tup ix_list
theorem opD_ix : OpD K (rIxD X.K) dIx := by
  intro c H G cu v w d e z Q wd r1 r2 hz q
  unfold dIx at hz
  split at hz
  · obtain ⟨a, xs, rfl, ha, ra⟩ := r1.tup_of
    obtain ⟨y, e1, ry⟩ := atI_rp ra hz
    exact .inl ⟨a, xs, _, y, rfl, r2.int_of, SqT.of (wd.sub _ _ ha), e1, q _ H G Ext.refl wd ry⟩
  · obtain ⟨a, xs, rfl, ha, ra⟩ := r1.lst_of
    obtain ⟨y, e1, ry⟩ := atI_rp ra hz
    exact .inr ⟨a, xs, _, y, rfl, r2.int_of, SqL.of (wd.sub _ _ ha), e1, q _ H G Ext.refl wd ry⟩
  · cases hz
/-! slices -/
abbrev GO := En → Cu → Rs (Option Int)
def SemO (K : Kx) (E : XK) (t : TO) (g : GO) : Prop := ∀ c H0 G0 σ H G ρ cu (Q : Option Int → Hp → Prop), SRep K c H0 G0 σ H G ρ cu → Post K E c H G (g ρ cu) (fun o H' _ _ => Q o H') → t σ H Q
structure POD (X : Cx) (K : Kx) (E : XK) (e : Option Expr) (t : TO) (g : GO) : Prop where
  po : PO X e t
  sem : SemO K E t g
def gNoPart : GO := fun _ cu => .ok none cu
theorem pod_none : POD X K E none tNoPart gNoPart := ⟨po_none, fun c H0 G0 σ H G ρ cu Q s q => q H G Ext.refl s.wd⟩
def dInt : PyData → Option Int
  | .int i => some i
  | _ => none
def gPart (g : GE) : GO := fun ρ cu => (g ρ cu).bind fun d cu1 => .ofO ((dInt d).map some) cu1
theorem pod_some (h : PD X K E e te ge) : POD X K E (some e) (tPart te) (gPart ge) := by
  refine ⟨po_some h.pe, fun c H0 G0 σ H G ρ cu Q s q => ?_⟩
  refine h.sem c H0 G0 σ H G ρ cu _ s (q.bind.imp fun d H1 G1 cu1 x1 w1 q1 v rv => ?_)
  obtain ⟨o, e, q2⟩ := q1.ofO
  cases d with
  | int i =>
    cases e
    exact ⟨i, rv.int_of, q2 H1 G1 Ext.refl w1⟩
  | _ => cases e
def cutD (xs : List PyData) (lo hi : Option Int) : List PyData := (xs.drop (HT.sIx xs.length 0 lo)).take (HT.sIx xs.length xs.length hi - HT.sIx xs.length 0 lo)
theorem cut_rp {G : Hp} {xs : List V} {ds : List PyData} {lo hi : Option Int} (r : RpL G xs ds) : RpL G (cutV xs lo hi) (cutD ds lo hi) := by
  unfold cutV cutD
  rw [r.length]
  exact (r.drop _).take _
def dCut : PyData → Option Int → Option Int → Option PyData
  | .tuple xs, lo, hi => some (.tuple (cutD xs lo hi))
  | .list xs, lo, hi => some (.list (cutD xs lo hi))
  | _, _, _ => none
def gSlice (g : GE) (gl gh : GO) : GE := fun ρ cu => (g ρ cu).bind fun d cu1 => (gl ρ cu1).bind fun lo cu2 => (gh ρ cu2).bind fun hi cu3 => .ofO (dCut d lo hi) cu3
def rSlD (F : PySem.W.Frag) : V → Option Int → Option Int → Hp → VK → Prop := fun x lo hi H Q => rSlA F x lo hi H Q ∨ rSlL F x lo hi H Q
theorem pd_slice {lo hi : Option Expr} {tl th : TO} {gl gh : GO} {p2 : Pos} (he : PD X K E e te ge) (hl : POD X K E lo tl gl) (hh : POD X K E hi th gh) : PD X K E (.Subscript e (.Slice lo hi none p2) pos) (tSl (rSlD X.K) te tl th) (gSlice ge gl gh) := by
  refine ⟨pe_slice (SlR.or sl_tupA sl_list) he.pe hl.po hh.po, fun c H0 G0 σ H G ρ cu Q s q => ?_⟩
  refine he.sem c H0 G0 σ H G ρ cu _ s (q.bind.imp fun d H1 G1 cu1 x1 w1 q1 v rv => ?_)
  have s1 := s.go x1 w1
  refine hl.sem c H0 G0 σ H1 G1 ρ cu1 _ s1 (q1.bind.imp fun lo H2 G2 cu2 x2 w2 q2 => ?_)
  have s2 := s1.go x2 w2
  refine hh.sem c H0 G0 σ H2 G2 ρ cu2 _ s2 (q2.bind.imp fun hi H3 G3 cu3 x3 w3 q3 => ?_)
  obtain ⟨z, ez, q4⟩ := q3.ofO
  have rv3 := rv.mono fun b o e => x3.g _ _ (x2.g _ _ e)
  have q4 : ∀ v' H' G', Ext c H3 G3 H' G' → Wd K c H' G' cu3 → Rp G' v' z → Q v' H' := fun v' H' G' x w r => q4 H' G' x w v' r
  cases d with
  | tuple ds =>
    cases ez
    obtain ⟨a, xs, rfl, ha, ra⟩ := rv3.tup_of
    refine .inl ⟨a, xs, rfl, SqT.of (w3.sub _ _ ha), fun hw => ?_, fun _ p hp => new_tup w3 (cut_rp ra) q4 hp⟩
    have e : cutD ds lo hi = ds := by
      unfold cutD
      rw [← ra.length, hw.1, hw.2, List.drop_zero, Nat.sub_zero, ra.length, List.take_length]
    rw [e] at q4
    exact q4 _ H3 G3 Ext.refl w3 (.tup ha ra)
  | list ds =>
    cases ez
    obtain ⟨a, xs, rfl, ha, ra⟩ := rv3.lst_of
    exact .inr ⟨a, xs, rfl, SqL.of (w3.sub _ _ ha), fun p hp => new_lst w3 (cut_rp ra) q4 hp⟩
  | _ => cases ez
/-! one-place operators -/
def dNeg : PyData → Option PyData
  | .int i => some (.int (-i))
  | _ => none
def gUn (f : PyData → Option PyData) (g : GE) : GE := fun ρ cu => (g ρ cu).bind fun d cu1 => .ofO (f d) cu1
theorem pd_neg (ha : PD X K E a ta ga) : PD X K E (.UnaryOp .USub a pos) (tUn (rU fun i => .int (-i)) ta) (gUn dNeg ga) := by
  refine ⟨pe_un un_neg ha.pe, fun c H0 G0 σ H G ρ cu Q s q => ?_⟩
  refine ha.sem c H0 G0 σ H G ρ cu _ s (q.bind.imp fun d H1 G1 cu1 x1 w1 q1 v rv => ?_)
  obtain ⟨z, ez, q2⟩ := q1.ofO
  cases d with
  | int i => cases ez; exact ⟨i, rv.int_of, q2 H1 G1 Ext.refl w1 _ (.int _)⟩
  | _ => cases ez
/-! ### arguments, displays -/
def gaNil : GA := fun _ cu => .ok [] cu
def gaCons (g : GE) (r : GA) : GA := fun ρ cu => (g ρ cu).bind fun d cu1 => (r ρ cu1).bind fun as cu2 => .ok (.dat d :: as) cu2
def gaCup (i : Nat) (r : GA) : GA := fun ρ cu => match ρ[i]? with
  | some .cup => (r ρ cu).bind fun as cu2 => .ok (.cup :: as) cu2
  | _ => .stuck
theorem pad_nil : PAD X K E [] tNil gaNil := ⟨pa_nil, fun c H0 G0 σ H G ρ cu Q s q => q H G Ext.refl s.wd [] .nil⟩
theorem pad_cons (ha : PD X K E e te ge) (hr : PAD X K E es t g) (hs : starEach (e :: es) X.env = (false, eval e X.env) :: starEach es X.env := by rfl) : PAD X K E (e :: es) (tCons te t) (gaCons ge g) := by
  refine ⟨pa_cons ha.pe hr.pa hs, fun c H0 G0 σ H G ρ cu Q s q => ?_⟩
  refine ha.sem c H0 G0 σ H G ρ cu _ s (q.bind.imp fun d H1 G1 cu1 x1 w1 q1 v rv => ?_)
  refine hr.sem c H0 G0 σ H1 G1 ρ cu1 _ (s.go x1 w1) (q1.bind.imp fun as H2 G2 cu2 x2 w2 q2 vs rvs => ?_)
  exact q2 H2 G2 Ext.refl w2 _ (.dat (rv.mono x2.g) rvs)
theorem pad_cup {i : Nat} {x : Str} (h : PE X (.Name x pos) (tVar i)) (hr : PAD X K E es t g) (hs : starEach (.Name x pos :: es) X.env = (false, eval (.Name x pos) X.env) :: starEach es X.env := by rfl) : PAD X K E (.Name x pos :: es) (tCons (tVar i) t) (gaCup i g) := by
  refine ⟨pa_cons h hr.pa hs, fun c H0 G0 σ H G ρ cu Q s q => ?_⟩
  unfold gaCup at q
  split at q
  · rename_i e
    obtain ⟨a, e1, e2⟩ := s.rep.cup i e
    refine ⟨_, e2, hr.sem c H0 G0 σ H G ρ cu _ s (q.bind.imp fun as H2 G2 cu2 x2 w2 q2 vs rvs => ?_)⟩
    exact q2 H2 G2 Ext.refl w2 _ (.cup e1 rvs)
  · exact q.elim
def dats : List Sl → Option (List PyData)
  | [] => some []
  | .dat d :: r => (dats r).map fun ds => d :: ds
  | _ :: _ => none
theorem dats_rp {c : Option Addr} {G : Hp} : ∀ {as : List Sl} {vs : List V} {ds : List PyData}, ArgRp c G vs as → dats as = some ds → RpL G vs ds
  | [], _, _, .nil, e => by cases e; exact .nil
  | .dat d :: r, _, ds, .dat h hr, e => by
    have e' : (dats r).map (fun ds => d :: ds) = some ds := e
    cases e2 : dats r with
    | none => rw [e2] at e'; cases e'
    | some ds' =>
      rw [e2] at e'
      cases e'
      exact .cons h (dats_rp hr e2)
  | .cup :: _, _, _, _, e => by cases e
def gDisp (mk : List PyData → PyData) (g : GA) : GE := fun ρ cu => (g ρ cu).bind fun as cu1 => .ofO ((dats as).bind fun ds => if ds.length ≤ 16777216 then some (mk ds) else none) cu1
theorem disp_of {mk : List PyData → PyData} {as : List Sl} {z : PyData} (h : ((dats as).bind fun ds => if ds.length ≤ 16777216 then some (mk ds) else none) = some z) : ∃ ds, dats as = some ds ∧ ds.length ≤ 16777216 ∧ z = mk ds := by
  cases e : dats as with
  | none => rw [e] at h; cases h
  | some ds =>
    rw [e] at h
    have h' : (if ds.length ≤ 16777216 then some (mk ds) else none) = some z := h
    split at h'
    · rename_i hl; cases h'; exact ⟨ds, rfl, hl, rfl⟩
    · cases h'
theorem pd_tup {x1 : Nat} (h : PAD X K E es t g) : PD X K E (.Tuple es x1 pos) (tTup t) (gDisp .tuple g) := by
  refine ⟨pe_tup h.pa, fun c H0 G0 σ H G ρ cu Q s q => ?_⟩
  refine h.sem c H0 G0 σ H G ρ cu _ s (q.bind.imp fun as H1 G1 cu1 x1 w1 q1 vs rvs => ?_)
  obtain ⟨z, ez, q2⟩ := q1.ofO
  obtain ⟨ds, e1, e2, rfl⟩ := disp_of ez
  have r := dats_rp rvs e1
  exact ⟨by rw [r.length, sizeLine_eq]; exact e2, fun p hp => new_tup w1 r (fun v' H' G' x w rr => q2 H' G' x w v' rr) hp⟩
theorem pd_lst (h : PAD X K E es t g) : PD X K E (.List es pos) (tLst t) (gDisp .list g) := by
  refine ⟨pe_lst h.pa, fun c H0 G0 σ H G ρ cu Q s q => ?_⟩
  refine h.sem c H0 G0 σ H G ρ cu _ s (q.bind.imp fun as H1 G1 cu1 x1 w1 q1 vs rvs => ?_)
  obtain ⟨z, ez, q2⟩ := q1.ofO
  obtain ⟨ds, e1, e2, rfl⟩ := disp_of ez
  have r := dats_rp rvs e1
  exact ⟨by rw [r.length, sizeLine_eq]; exact e2, fun p hp => new_lst w1 r (fun v' H' G' x w rr => q2 H' G' x w v' rr) hp⟩
/-! ### built-ins -/
def CallD (K : Kx) (r : List V → Hp → VK → Prop) (f : List PyData → Option PyData) : Prop := ∀ c H G cu vs ds z (Q : VK), Wd K c H G cu → RpL G vs ds → f ds = some z →
  (∀ v' H' G', Ext c H G H' G' → Wd K c H' G' cu → Rp G' v' z → Q v' H') → r vs H Q
def gCall (f : List PyData → Option PyData) (g : GA) : GE := fun ρ cu => (g ρ cu).bind fun as cu1 => .ofO ((dats as).bind f) cu1
theorem sem_callB {r : List V → Hp → VK → Prop} {f : List PyData → Option PyData} (hf : CallD K r f) (h : SemA K E t g) : SemE K E (tCB r t) (gCall f g) := by
  intro c H0 G0 σ H G ρ cu Q s q
  refine h c H0 G0 σ H G ρ cu _ s (q.bind.imp fun as H1 G1 cu1 x1 w1 q1 vs rvs => ?_)
  obtain ⟨z, ez, q2⟩ := q1.ofO
  cases e : dats as with
  | none => rw [e] at ez; cases ez
  | some ds =>
    rw [e] at ez
    exact hf c H1 G1 cu1 vs ds z Q w1 (dats_rp rvs e) ez fun v' H' G' x w rr => q2 H' G' x w v' rr
theorem pd_callB {id : String} {x : Str} {p : Pos} {r : List V → Hp → VK → Prop} {f : List PyData → Option PyData} (hc : CallR X (.builtin id) r) (hf : CallD K r f) (hg : Gl X x) (hm : X.mg x = none) (hv : bootBuiltins x = some (.builtin id)) (ha : PAD X K E (e :: es) t g)
    (hn : x ≠ "__name__" := by decide) (hdb : (x == ("__debug__" : Str)) = false := by decide)
    (he : starEach (e :: es) X.env = (false, eval e X.env) :: starEach es X.env := by rfl) (hpl : (backTo pos (starEach es X.env)).any (·.1) = false := by rfl) : PD X K E (.Call (.Name x p) (e :: es) [] pos) (tCB r t) (gCall f g) :=
  ⟨pe_callB hc hg hm hv ha.pa hn hdb he hpl, sem_callB hf ha.sem⟩
theorem pd_callTy {T : String} {x : Str} {p : Pos} {r : List V → Hp → VK → Prop} {f : List PyData → Option PyData} (hc : CallR X (.type T) r) (hf : CallD K r f) (hg : Gl X x) (hm : X.mg x = none) (hv : bootBuiltins x = some (.type T)) (ha : PAD X K E (e :: es) t g)
    (hn : x ≠ "__name__" := by decide) (hdb : (x == ("__debug__" : Str)) = false := by decide)
    (he : starEach (e :: es) X.env = (false, eval e X.env) :: starEach es X.env := by rfl) (hpl : (backTo pos (starEach es X.env)).any (·.1) = false := by rfl) : PD X K E (.Call (.Name x p) (e :: es) [] pos) (tCB r t) (gCall f g) :=
  ⟨pe_callTy hc hg hm hv ha.pa hn hdb he hpl, sem_callB hf ha.sem⟩
theorem RpL.one {G : Hp} {vs : List V} {d : PyData} (r : RpL G vs [d]) : ∃ v, vs = [v] ∧ Rp G v d := by cases r with | cons h r => cases r; exact ⟨_, rfl, h⟩
theorem RpL.two {G : Hp} {vs : List V} {d e : PyData} (r : RpL G vs [d, e]) : ∃ v w, vs = [v, w] ∧ Rp G v d ∧ Rp G w e := by
  cases r with
  | cons h r => obtain ⟨w, rfl, h2⟩ := r.one; exact ⟨_, _, rfl, h, h2⟩
def dAbs : List PyData → Option PyData
  | [.int i] => some (.int (if i < 0 then -i else i))
  | _ => none
theorem callD_abs : CallD K (fun xs H Q => ∃ i, xs = [.int i] ∧ Q (.int (if i < 0 then -i else i)) H) dAbs := by
  intro c H G cu vs ds z Q wd r hz q
  unfold dAbs at hz
  split at hz
  · cases hz; obtain ⟨v, rfl, rv⟩ := r.one; rw [rv.int_of]; exact ⟨_, rfl, q _ H G Ext.refl wd (.int _)⟩
  · cases hz
def dLen : List PyData → Option PyData
  | [.tuple xs] => some (.int (xs.length : Int))
  | [.list xs] => some (.int (xs.length : Int))
  | _ => none
theorem callD_len : CallD K (fun xs H Q => ∃ p ys, xs = [.ref p] ∧ (SqL X.K H p ys ∨ SqT X.K H p ys) ∧ Q (.int ys.length) H) dLen := by
  intro c H G cu vs ds z Q wd r hz q
  unfold dLen at hz
  split at hz
  · cases hz
    obtain ⟨v, rfl, rv⟩ := r.one
    obtain ⟨a, xs, rfl, ha, ra⟩ := rv.tup_of
    exact ⟨a, xs, rfl, .inr (SqT.of (wd.sub _ _ ha)), by rw [ra.length]; exact q _ H G Ext.refl wd (.int _)⟩
  · cases hz
    obtain ⟨v, rfl, rv⟩ := r.one
    obtain ⟨a, xs, rfl, ha, ra⟩ := rv.lst_of
    exact ⟨a, xs, rfl, .inl (SqL.of (wd.sub _ _ ha)), by rw [ra.length]; exact q _ H G Ext.refl wd (.int _)⟩
  · cases hz
def dToInt : List PyData → Option PyData
  | [.int i] => some (.int i)
  | [.bool k] => some (.int (if k then 1 else 0))
  | _ => none
theorem callD_int : CallD K (fun xs H Q => (∃ i, xs = [.int i] ∧ Q (.int i) H) ∨ ∃ k, xs = [.bl k] ∧ Q (.int (if k then 1 else 0)) H) dToInt := by
  intro c H G cu vs ds z Q wd r hz q
  unfold dToInt at hz
  split at hz
  · cases hz; obtain ⟨v, rfl, rv⟩ := r.one; rw [rv.int_of]; exact .inl ⟨_, rfl, q _ H G Ext.refl wd (.int _)⟩
  · cases hz; obtain ⟨v, rfl, rv⟩ := r.one; rw [rv.bl_of]; exact .inr ⟨_, rfl, q _ H G Ext.refl wd (.int _)⟩
  · cases hz
def dMin2 : List PyData → Option PyData
  | [.int i, .int j] => some (.int (if j < i then j else i))
  | _ => none
def dMax2 : List PyData → Option PyData
  | [.int i, .int j] => some (.int (if j > i then j else i))
  | _ => none
theorem callD_min2 : CallD K (fun xs H Q => ∃ i j, xs = [.int i, .int j] ∧ Q (.int (if j < i then j else i)) H) dMin2 := by
  intro c H G cu vs ds z Q wd r hz q
  unfold dMin2 at hz
  split at hz
  · cases hz; obtain ⟨v, w, rfl, rv, rw'⟩ := r.two; rw [rv.int_of, rw'.int_of]; exact ⟨_, _, rfl, q _ H G Ext.refl wd (.int _)⟩
  · cases hz
theorem callD_max2 : CallD K (fun xs H Q => ∃ i j, xs = [.int i, .int j] ∧ Q (.int (if j > i then j else i)) H) dMax2 := by
  intro c H G cu vs ds z Q wd r hz q
  unfold dMax2 at hz
  split at hz
  · cases hz; obtain ⟨v, w, rfl, rv, rw'⟩ := r.two; rw [rv.int_of, rw'.int_of]; exact ⟨_, _, rfl, q _ H G Ext.refl wd (.int _)⟩
  · cases hz
def dToTup : List PyData → Option PyData
  | [.list xs] => some (.tuple xs)
  | [.tuple xs] => some (.tuple xs)
  | _ => none
theorem callD_tuple : CallD K (fun xs H Q => ∃ p ys, xs = [.ref p] ∧ ((SqL X.K H p ys ∧ ∀ l, H l = none → Q (.ref l) (upd H l (.tup ys))) ∨ (SqT X.K H p ys ∧ Q (.ref p) H))) dToTup := by
  intro c H G cu vs ds z Q wd r hz q
  unfold dToTup at hz
  split at hz
  · cases hz
    obtain ⟨v, rfl, rv⟩ := r.one
    obtain ⟨a, xs, rfl, ha, ra⟩ := rv.lst_of
    exact ⟨a, xs, rfl, .inl ⟨SqL.of (wd.sub _ _ ha), fun p hp => new_tup wd ra q hp⟩⟩
  · cases hz
    obtain ⟨v, rfl, rv⟩ := r.one
    obtain ⟨a, xs, rfl, ha, ra⟩ := rv.tup_of
    exact ⟨a, xs, rfl, .inr ⟨SqT.of (wd.sub _ _ ha), q _ H G Ext.refl wd (.tup ha ra)⟩⟩
  · cases hz
def dToLst : List PyData → Option PyData
  | [.list xs] => some (.list xs)
  | [.tuple xs] => some (.list xs)
  | _ => none
theorem callD_list : CallD K (fun xs H Q => ∃ p ys, xs = [.ref p] ∧ (SqL X.K H p ys ∨ SqT X.K H p ys) ∧ ∀ l, H l = none → Q (.ref l) (upd H l (.lst ys))) dToLst := by
  intro c H G cu vs ds z Q wd r hz q
  unfold dToLst at hz
  split at hz
  · cases hz
    obtain ⟨v, rfl, rv⟩ := r.one
    obtain ⟨a, xs, rfl, ha, ra⟩ := rv.lst_of
    exact ⟨a, xs, rfl, .inl (SqL.of (wd.sub _ _ ha)), fun p hp => new_lst wd ra q hp⟩
  · cases hz
    obtain ⟨v, rfl, rv⟩ := r.one
    obtain ⟨a, xs, rfl, ha, ra⟩ := rv.tup_of
    exact ⟨a, xs, rfl, .inr (SqT.of (wd.sub _ _ ha)), fun p hp => new_lst wd ra q hp⟩
  · cases hz
/-! isinstance -/
def tyName : PyData → Option String
  | .none => some "NoneType"
  | .bool _ => some "bool"
  | .int _ => some "int"
  | .str _ => some "str"
  | .list _ => some "list"
  | .tuple _ => some "tuple"
  | .dict _ => none
def isiOf (T : String) (d : PyData) : Option Bool := (tyName d).bind fun n => kitB n T
def gIsi (T : String) (g : GE) : GE := fun ρ cu => (g ρ cu).bind fun d cu1 => .ofO ((isiOf T d).map .bool) cu1
theorem tyX_of {F : PySem.W.Frag} {H : Hp} {v : V} {d : PyData} {n : String} (r : Rp H v d) (h : tyName d = some n) : TyX F H v (.type n) := by
  cases r with
  | non => cases h; exact .base .non
  | bl b => cases h; exact .base (.bl b)
  | int i => cases h; exact .base (.int i)
  | str x => cases h; exact .base (.str x)
  | lst e _ => cases h; exact .base (.lst e)
  | tup e _ => cases h; exact .base (.tup e)
theorem pd_isi {T : String} {x : Str} {p p' : Pos} (he : PD X K E e te ge) (hg : Gl X "isinstance") (hm : X.mg "isinstance" = none) (hT : Gl X x) (hmT : X.mg x = none) (hv : bootBuiltins x = some (.type T)) (hn : x ≠ "__name__" := by decide) (hdb : (x == ("__debug__" : Str)) = false := by decide)
    (h1 : starEach [e, .Name x p'] X.env = (false, eval e X.env) :: starEach [.Name x p'] X.env := by rfl) (h2 : starEach [.Name x p'] X.env = (false, eval (.Name x p') X.env) :: starEach [] X.env := by rfl) (hpl : (backTo pos (starEach [.Name x p'] X.env)).any (·.1) = false := by rfl) :
    PD X K E (.Call (.Name "isinstance" p) [e, .Name x p'] [] pos) (tCB (rIsi X.K) (tCons te (tCons (tC (.ty T)) tNil))) (gIsi T ge) := by
  refine ⟨pe_callB call_isi hg hm (by decide +kernel) (pa_cons he.pe (pa_cons (pe_bltn hT hmT hv rfl hn hdb) pa_nil h2) h1) (by decide) (by decide) h1 hpl, fun c H0 G0 σ H G ρ cu Q s q => ?_⟩
  refine he.sem c H0 G0 σ H G ρ cu _ s (q.bind.imp fun d H1 G1 cu1 x1 w1 q1 v rv => ?_)
  obtain ⟨z, ez, q2⟩ := q1.ofO
  unfold isiOf at ez
  cases e1 : tyName d with
  | none => rw [e1] at ez; cases ez
  | some n =>
    rw [e1] at ez
    cases e2 : kitB n T with
    | none =>
      have ez' : (kitB n T).map PyData.bool = some z := ez
      rw [e2] at ez'; cases ez'
    | some k =>
      have ez' : (kitB n T).map PyData.bool = some z := ez
      rw [e2] at ez'
      cases ez'
      exact ⟨v, .ty T, _, _, k, rfl, .ty T, tyX_of (rv.mono w1.sub) e1, kit_ty e2, q2 H1 G1 Ext.refl w1 _ (.bl _)⟩
end
end DL

set_option Elab.async false
set_option linter.all false
set_option maxRecDepth 100000
set_option autoImplicit false
namespace DL
open PySem PySem.Spec PyProof.Rows L2
section
variable {X : Cx} {K : Kx} {E : XK} {a b c e : Expr} {es rest : List Expr} {ta tb tc te : TE} {tt tu : TT} {t : TA} {ga gb gc ge : GE} {gt gu : GT} {g : GA} {pos : Pos}
/-! ### tests -/
def dTru : PyData → Option Bool
  | .none => some false
  | .bool b => some b
  | .int i => some (i != 0)
  | .list xs => some (!xs.isEmpty)
  | .tuple xs => some (!xs.isEmpty)
  | _ => none
theorem tru_of {F : PySem.W.Frag} {H : Hp} {v : V} {d : PyData} {k : Bool} (r : Rp H v d) (h : dTru d = some k) : TruV F v H k := by
  have hem : ∀ {xs : List V} {ds : List PyData}, RpL H xs ds → (!ds.isEmpty) = !xs.isEmpty := fun r => by cases r <;> rfl
  cases r with
  | non => cases h; rfl
  | bl b => cases h; rfl
  | int i => cases h; rfl
  | str x => cases h
  | lst e r => cases h; exact .inl ⟨_, SqL.of e, hem r⟩
  | tup e r => cases h; exact .inr (.inl ⟨_, SqT.of e, hem r⟩)
def gTru (g : GE) : GT := fun ρ cu => (g ρ cu).bind fun d cu1 => .ofO (dTru d) cu1
theorem ptd_truth (h : PD X K E e te ge) (he : ∀ whole, isTrue e X.env whole = (do let v ← whole; standAt e.pos; holding [v] (truthy v)) := by intro _; rfl) :
    PTD X K E e (fun σ H Q => te σ H fun x H' => ∃ k, TruV X.K x H' k ∧ Q k H') (gTru ge) := by
  refine ⟨pt_truth h.pe he, fun c H0 G0 σ H G ρ cu Q s q => ?_⟩
  refine h.sem c H0 G0 σ H G ρ cu _ s (q.bind.imp fun d H1 G1 cu1 x1 w1 q1 v rv => ?_)
  obtain ⟨k, ek, q2⟩ := q1.ofO
  exact ⟨k, tru_of (rv.mono w1.sub) ek, q2 H1 G1 Ext.refl w1⟩
def dBool : PyData → Option Bool
  | .bool b => some b
  | _ => none
def gBool (g : GE) : GT := fun ρ cu => (g ρ cu).bind fun d cu1 => .ofO (dBool d) cu1
theorem sem_test (h : SemE K E te ge) : SemT K E (tTest te) (gBool ge) := by
  intro c H0 G0 σ H G ρ cu Q s q
  refine h c H0 G0 σ H G ρ cu _ s (q.bind.imp fun d H1 G1 cu1 x1 w1 q1 v rv => ?_)
  obtain ⟨k, ek, q2⟩ := q1.ofO
  cases d with
  | bool b => cases ek; exact ⟨_, rv.bl_of, q2 H1 G1 Ext.refl w1⟩
  | _ => cases ek
theorem ptd_cmp {op : CmpOp} {r : R2} {f : PyData → PyData → Option PyData} (ho : OpR X (compareOp op) r) (hf : OpD K r f) (ha : PD X K E a ta ga) (hb : PD X K E b tb gb) (hm : behindInMarks op b = false) : PTD X K E (.Compare a [op] [b] pos) (tTest (tOp r ta tb)) (gBool (gBin f ga gb)) :=
  ⟨pt_cmpR ho ha.pe hb.pe hm, sem_test (sem_op hf ha.sem hb.sem)⟩
def gChain (f f' : PyData → PyData → Option PyData) (ga gb gc : GE) : GE := fun ρ cu => (ga ρ cu).bind fun a cu1 => (gb ρ cu1).bind fun b cu2 => (Rs.ofO ((f a b).bind dBool) cu2).bind fun k cu3 =>
  if k = true then (gc ρ cu3).bind fun d cu4 => .ofO (f' b d) cu4 else .ok (.bool false) cu3
theorem sem_chain {r r' : R2} {f f' : PyData → PyData → Option PyData} (hf : OpD K r f) (hf' : OpD K r' f') (ha : SemE K E ta ga) (hb : SemE K E tb gb) (hc : SemE K E tc gc) : SemE K E (tChain r r' ta tb tc) (gChain f f' ga gb gc) := by
  intro c H0 G0 σ H G ρ cu Q s q
  refine ha c H0 G0 σ H G ρ cu _ s (q.bind.imp fun a H1 G1 cu1 x1 w1 q1 v rv => ?_)
  have s1 := s.go x1 w1
  refine hb c H0 G0 σ H1 G1 ρ cu1 _ s1 (q1.bind.imp fun b H2 G2 cu2 x2 w2 q2 w rw' => ?_)
  have s2 := s1.go x2 w2
  obtain ⟨k, ek, q3⟩ := q2.bind.ofO
  cases ez : f a b with
  | none => rw [ez] at ek; cases ek
  | some z =>
    rw [ez] at ek
    have ek : dBool z = some k := ek
    cases z with
    | bool kk =>
      cases ek
      refine hf c H2 G2 cu2 v w a b _ _ w2 (rv.mono x2.g) rw' ez fun v' H3 G3 x3 w3 rz => ?_
      refine ⟨k, rz.bl_of, ?_⟩
      have q4 := q3 H3 G3 x3 w3
      cases k with
      | true =>
        rw [if_pos rfl] at q4 ⊢
        refine hc c H0 G0 σ H3 G3 ρ cu2 _ (s2.go x3 w3) (q4.bind.imp fun d H4 G4 cu4 x4 w4 q5 y ry => ?_)
        obtain ⟨z, e, q6⟩ := q5.ofO
        exact hf' c H4 G4 cu4 w y b d z Q w4 (rw'.mono fun b o e => x4.g _ _ (x3.g _ _ e)) ry e fun v' H' G' x w => q6 H' G' x w v'
      | false =>
        rw [if_neg Bool.false_ne_true] at q4 ⊢
        exact q4 H3 G3 Ext.refl w3 _ (.bl _)
    | _ => cases ek
theorem pd_chain {op op' : CmpOp} {r r' : R2} {f f' : PyData → PyData → Option PyData} (ho : OpR X (compareOp op) r) (hf : OpD K r f) (ho' : OpR X (compareOp op') r') (hf' : OpD K r' f') (ha : PD X K E a ta ga) (hb : PD X K E b tb gb) (hc : PD X K E c tc gc)
    (hm : lastMarks [op, op'] [b, c] = false := by with_unfolding_all rfl) : PD X K E (.Compare a [op, op'] [b, c] pos) (tChain r r' ta tb tc) (gChain f f' ga gb gc) := ⟨pe_chain ho ho' ha.pe hb.pe hc.pe hm, sem_chain hf hf' ha.sem hb.sem hc.sem⟩
theorem ptd_chain {op op' : CmpOp} {r r' : R2} {f f' : PyData → PyData → Option PyData} (ho : OpR X (compareOp op) r) (hf : OpD K r f) (ho' : OpR X (compareOp op') r') (hf' : OpD K r' f') (ha : PD X K E a ta ga) (hb : PD X K E b tb gb) (hc : PD X K E c tc gc)
    (hm : lastMarks [op, op'] [b, c] = false := by with_unfolding_all rfl) : PTD X K E (.Compare a [op, op'] [b, c] pos) (tTest (tChain r r' ta tb tc)) (gBool (gChain f f' ga gb gc)) := ⟨pt_chain ho ho' ha.pe hb.pe hc.pe hm, sem_test (sem_chain hf hf' ha.sem hb.sem hc.sem)⟩
/-! and, or, not -/
def gAnd (g u : GT) : GT := fun ρ cu => (g ρ cu).bind fun b cu1 => if b = true then u ρ cu1 else .ok false cu1
def gOr (g u : GT) : GT := fun ρ cu => (g ρ cu).bind fun b cu1 => if b = true then .ok true cu1 else u ρ cu1
def gNot (g : GT) : GT := fun ρ cu => (g ρ cu).bind fun b cu1 => .ok (!b) cu1
theorem PWD.pt {e : Expr} (h : PWD X K E e tt gt) : PTD X K E e tt gt := ⟨h.pw.pt, h.sem⟩
theorem pwd_and1 (h : PTD X K E a tt gt) : PWD X K E (.BoolOp .And [a] pos) tt gt := ⟨pw_and1 h.pt, h.sem⟩
theorem pwd_or1 (h : PTD X K E a tt gt) : PWD X K E (.BoolOp .Or [a] pos) tt gt := ⟨pw_or1 h.pt, h.sem⟩
theorem pwd_and (h : PTD X K E a tt gt) (h' : PWD X K E (.BoolOp .And (b :: rest) pos) tu gu) : PWD X K E (.BoolOp .And (a :: b :: rest) pos) (tAnd tt tu) (gAnd gt gu) := by
  refine ⟨pw_and h.pt h'.pw, fun c H0 G0 σ H G ρ cu Q s q => ?_⟩
  refine h.sem c H0 G0 σ H G ρ cu _ s (q.bind.imp fun k H1 G1 cu1 x1 w1 q1 => ?_)
  cases k with
  | true => rw [if_pos rfl] at q1 ⊢; exact h'.sem c H0 G0 σ H1 G1 ρ cu1 _ (s.go x1 w1) q1
  | false => rw [if_neg Bool.false_ne_true] at q1 ⊢; exact q1 H1 G1 Ext.refl w1
theorem pwd_or (h : PTD X K E a tt gt) (h' : PWD X K E (.BoolOp .Or (b :: rest) pos) tu gu) : PWD X K E (.BoolOp .Or (a :: b :: rest) pos) (tOr tt tu) (gOr gt gu) := by
  refine ⟨pw_or h.pt h'.pw, fun c H0 G0 σ H G ρ cu Q s q => ?_⟩
  refine h.sem c H0 G0 σ H G ρ cu _ s (q.bind.imp fun k H1 G1 cu1 x1 w1 q1 => ?_)
  cases k with
  | true => rw [if_pos rfl] at q1 ⊢; exact q1 H1 G1 Ext.refl w1
  | false => rw [if_neg Bool.false_ne_true] at q1 ⊢; exact h'.sem c H0 G0 σ H1 G1 ρ cu1 _ (s.go x1 w1) q1
theorem ptd_not (h : PTD X K E a tt gt) : PTD X K E (.UnaryOp .Not a pos) (tNot tt) (gNot gt) := by
  refine ⟨pt_not h.pt, fun c H0 G0 σ H G ρ cu Q s q => ?_⟩
  exact h.sem c H0 G0 σ H G ρ cu _ s (q.bind.imp fun k H1 G1 cu1 x1 w1 q1 => q1 H1 G1 Ext.refl w1)
/-! .. as values -/
def gAndV (ga gb : GE) : GE := fun ρ cu => (ga ρ cu).bind fun d cu1 => (Rs.ofO (dBool d) cu1).bind fun k cu2 => if k = true then gb ρ cu2 else .ok (.bool false) cu2
def gOrV (ga gb : GE) : GE := fun ρ cu => (ga ρ cu).bind fun d cu1 => (Rs.ofO (dBool d) cu1).bind fun k cu2 => if k = true then .ok (.bool true) cu2 else gb ρ cu2
theorem pd_one {op : BoolOp} (h : PD X K E a ta ga) : PD X K E (.BoolOp op [a] pos) ta ga := ⟨pe_one h.pe, h.sem⟩
theorem pd_and (h : PD X K E a ta ga) (h' : PD X K E (.BoolOp .And (b :: rest) pos) tb gb) : PD X K E (.BoolOp .And (a :: b :: rest) pos) (tAndV ta tb) (gAndV ga gb) := by
  refine ⟨pe_and h.pe h'.pe, fun c H0 G0 σ H G ρ cu Q s q => ?_⟩
  refine h.sem c H0 G0 σ H G ρ cu _ s (q.bind.imp fun d H1 G1 cu1 x1 w1 q1 v rv => ?_)
  obtain ⟨k, ek, q2⟩ := q1.bind.ofO
  cases d with
  | bool kk =>
    cases ek
    refine ⟨k, rv.bl_of, ?_⟩
    have q3 := q2 H1 G1 Ext.refl w1
    cases k with
    | true => rw [if_pos rfl] at q3 ⊢; exact h'.sem c H0 G0 σ H1 G1 ρ cu1 _ (s.go x1 w1) q3
    | false => rw [if_neg Bool.false_ne_true] at q3 ⊢; exact q3 H1 G1 Ext.refl w1 _ (.bl _)
  | _ => cases ek
theorem pd_or (h : PD X K E a ta ga) (h' : PD X K E (.BoolOp .Or (b :: rest) pos) tb gb) : PD X K E (.BoolOp .Or (a :: b :: rest) pos) (tOrV ta tb) (gOrV ga gb) := by
  refine ⟨pe_or h.pe h'.pe, fun c H0 G0 σ H G ρ cu Q s q => ?_⟩
  refine h.sem c H0 G0 σ H G ρ cu _ s (q.bind.imp fun d H1 G1 cu1 x1 w1 q1 v rv => ?_)
  obtain ⟨k, ek, q2⟩ := q1.bind.ofO
  cases d with
  | bool kk =>
    cases ek
    refine ⟨k, rv.bl_of, ?_⟩
    have q3 := q2 H1 G1 Ext.refl w1
    cases k with
    | true => rw [if_pos rfl] at q3 ⊢; exact q3 H1 G1 Ext.refl w1 _ (.bl _)
    | false => rw [if_neg Bool.false_ne_true] at q3 ⊢; exact h'.sem c H0 G0 σ H1 G1 ρ cu1 _ (s.go x1 w1) q3
  | _ => cases ek
def gNotV (ga : GE) : GE := fun ρ cu => (ga ρ cu).bind fun d cu1 => (Rs.ofO (dBool d) cu1).bind fun k cu2 => .ok (.bool (!k)) cu2
theorem pd_not (h : PD X K E a ta ga) : PD X K E (.UnaryOp .Not a pos) (tNotV ta) (gNotV ga) := by
  refine ⟨pe_not h.pe, fun c H0 G0 σ H G ρ cu Q s q => ?_⟩
  refine h.sem c H0 G0 σ H G ρ cu _ s (q.bind.imp fun d H1 G1 cu1 x1 w1 q1 v rv => ?_)
  obtain ⟨k, ek, q2⟩ := q1.bind.ofO
  cases d with
  | bool kk =>
    cases ek
    exact ⟨k, rv.bl_of, q2 H1 G1 Ext.refl w1 H1 G1 Ext.refl w1 _ (.bl _)⟩
  | _ => cases ek
def gIfE (gt : GT) (ga gb : GE) : GE := fun ρ cu => (gt ρ cu).bind fun k cu1 => if k = true then ga ρ cu1 else gb ρ cu1
theorem pd_ifExp (hc : PTD X K E c tt gt) (ha : PD X K E a ta ga) (hb : PD X K E b tb gb) : PD X K E (.IfExp c a b pos) (tIf tt ta tb) (gIfE gt ga gb) := by
  refine ⟨pe_ifExp hc.pt ha.pe hb.pe, fun c H0 G0 σ H G ρ cu Q s q => ?_⟩
  refine hc.sem c H0 G0 σ H G ρ cu _ s (q.bind.imp fun k H1 G1 cu1 x1 w1 q1 => ?_)
  cases k with
  | true => rw [if_pos rfl] at q1 ⊢; exact ha.sem c H0 G0 σ H1 G1 ρ cu1 _ (s.go x1 w1) q1
  | false => rw [if_neg Bool.false_ne_true] at q1 ⊢; exact hb.sem c H0 G0 σ H1 G1 ρ cu1 _ (s.go x1 w1) q1
/-! ### the cup read -/
def gCup (i : Nat) (k : Bool) : GE := fun ρ cu => match ρ[i]? with
  | some .cup => .ok (.int (if k = true then cu.2 else cu.1)) cu
  | _ => .stuck
theorem pd_cup {i : Nat} {x : Str} {p p2 : Pos} {j : Nat} (h : PE X (.Name x p) (tVar i)) (k : Bool) {z : Int} (hz : z = (if k = true then 1 else 0)) (hs : PlainIx (.Constant (.int z) j p2)) :
    PD X K E (.Subscript (.Name x p) (.Constant (.int z) j p2) pos) (tOp (rIxL X.K) (tVar i) (tC (.int z))) (gCup i k) := by
  refine ⟨pe_ix ix_list h pe_int hs, fun c H0 G0 σ H G ρ cu Q s q => ?_⟩
  unfold gCup at q
  split at q
  · rename_i e
    obtain ⟨a, e1, e2⟩ := s.rep.cup i e
    obtain ⟨h1, h2⟩ := s.wd.cup a e1
    refine ⟨_, e2, a, _, z, .int (if k = true then cu.2 else cu.1), rfl, rfl, SqL.of h1, ?_, q H G Ext.refl s.wd _ (.int _)⟩
    subst hz
    cases k with
    | true => exact atI_nat (j := 1) rfl
    | false => exact atI_nat (j := 0) rfl
  · exact q.elim
/-! ### calls of defs -/
/-- what a def keeps -/
abbrev GF := List Sl → Cu → Rs PyData
def spG (K : Kx) (n : Nat) (g : GF) : Sp := fun vs H Q E => ∃ c G as cu, as.length = n ∧ Wd K c H G cu ∧ ArgRp c G vs as ∧ Post K E c H G (g as cu) (QD Q)
def gApp (n : Nat) (f : GF) (g : GA) : GE := fun ρ cu => (g ρ cu).bind fun as cu1 => if as.length = n then f as cu1 else .stuck
theorem pd_call {k n : Nat} {f : Addr} {fd : FuncData} {ps : List Str} {x : Str} {p : Pos} {gf : GF} (F : FnOk X.prog X.w X.K X.mg X.base (L2.CX X.prog X.w) k f fd ps (spG K n gf)) (hr : Room k X.A) (hg : Gl X x) (hm : X.mg x = some (.ref f)) (hk : PySem.W.keepIn X.K (.ref f) = true) (hb : Binds X.K fd ps [])
    (hx : Passes (L2.CX X.prog X.w) X E) (ha : PAD X K E (e :: es) t g) (hdb : (x == ("__debug__" : Str)) = false := by decide) (he : starEach (e :: es) X.env = (false, eval e X.env) :: starEach es X.env := by rfl) (hpl : (backTo pos (starEach es X.env)).any (·.1) = false := by rfl) :
    PD X K E (.Call (.Name x p) (e :: es) [] pos) (tCall (spG K n gf) [] E t) (gApp n gf g) := by
  refine ⟨pe_call F hr hg hm hk hb .nil hx ha.pa hdb he hpl, fun c H0 G0 σ H G ρ cu Q s q => ?_⟩
  refine ha.sem c H0 G0 σ H G ρ cu _ s (q.bind.imp fun as H1 G1 cu1 x1 w1 q1 vs rvs => ?_)
  split at q1
  · rename_i hn
    exact ⟨c, G1, as, cu1, hn, w1, by rw [List.append_nil]; exact rvs, q1⟩
  · exact q1.elim
theorem pd_call0 {k : Nat} {f : Addr} {fd : FuncData} {ps : List Str} {x : Str} {p : Pos} {gf : GF} (F : FnOk X.prog X.w X.K X.mg X.base (L2.CX X.prog X.w) k f fd ps (spG K 0 gf)) (hr : Room k X.A) (hg : Gl X x) (hm : X.mg x = some (.ref f)) (hk : PySem.W.keepIn X.K (.ref f) = true) (hb : Binds X.K fd ps [])
    (hx : Passes (L2.CX X.prog X.w) X E) (hdb : (x == ("__debug__" : Str)) = false := by decide) : PD X K E (.Call (.Name x p) [] [] pos) (tCall (spG K 0 gf) [] E tNil) (fun _ cu => gf [] cu) := by
  refine ⟨pe_call0 F hr hg hm hk hb .nil hx hdb, fun c H0 G0 σ H G ρ cu Q s q => ?_⟩
  exact ⟨c, G, [], cu, rfl, s.wd, .nil, q⟩
end

/-! ### statements -/
inductive Ou where
  | nx (ρ : En) | ret (d : PyData) | brk (ρ : En) | ct (ρ : En)
abbrev GS := En → Cu → Rs Ou
def PostS (K : Kx) (E : XK) (c : Option Addr) (H0 G0 : Hp) (r : Rs Ou) (D : Ends) : Prop := match r with
  | .stuck => False
  | .exc k cu' => ∀ H' G', Ext c H0 G0 H' G' → Wd K c H' G' cu' → E (.ref (K.CL k)) none H'
  | .ok (.nx ρ') cu' => ∀ σ' H' G', SRep K c H0 G0 σ' H' G' ρ' cu' → D.nx σ' H'
  | .ok (.ret d) cu' => ∀ v H' G', Ext c H0 G0 H' G' → Wd K c H' G' cu' → Rp G' v d → D.rt v H'
  | .ok (.brk ρ') cu' => ∀ σ' H' G', SRep K c H0 G0 σ' H' G' ρ' cu' → D.bk σ' H'
  | .ok (.ct ρ') cu' => ∀ σ' H' G', SRep K c H0 G0 σ' H' G' ρ' cu' → D.ct σ' H'
def SemS (K : Kx) (E : XK) (t : TS) (g : GS) : Prop := ∀ c H0 G0 σ H G ρ cu D, SRep K c H0 G0 σ H G ρ cu → PostS K E c H0 G0 (g ρ cu) D → t D σ H
structure PSD (X : Cx) (K : Kx) (E : XK) (st : Stmt) (t : TS) (g : GS) : Prop where
  ps : PS X st t
  sem : SemS K E t g
structure PSsD (X : Cx) (K : Kx) (E : XK) (st : List Stmt) (t : TS) (g : GS) : Prop where
  ps : PSs X st t
  sem : SemS K E t g
theorem PostS.exp {K : Kx} {E : XK} {c : Option Addr} {H0 G0 H G : Hp} {σ : L2.St} {ρ : En} {cu : Cu} {α : Type} {r : Rs α} {f : α → Cu → Rs Ou} {D : Ends} (s : SRep K c H0 G0 σ H G ρ cu) (h : PostS K E c H0 G0 (r.bind f) D) :
    Post K E c H G r (fun a _ _ cu' => PostS K E c H0 G0 (f a cu') D) := by
  cases r with
  | stuck => exact h
  | exc k cu => exact fun H' G' x w => h H' G' (s.ext.trans x) w
  | ok a cu => exact fun _ _ _ _ => h
theorem PostS.ofO {K : Kx} {E : XK} {c : Option Addr} {H0 G0 : Hp} {α : Type} {o : Option α} {cu : Cu} {f : α → Cu → Rs Ou} {D : Ends} (h : PostS K E c H0 G0 ((Rs.ofO o cu).bind f) D) : ∃ a, o = some a ∧ PostS K E c H0 G0 (f a cu) D := by
  cases o with
  | none => exact h.elim
  | some a => exact ⟨a, rfl, h⟩
section
variable {X : Cx} {K : Kx} {E : XK} {st : Stmt} {sts : List Stmt} {t u : TS} {g g' : GS} {e : Expr} {te : TE} {ge : GE} {tt : TT} {gt : GT} {ta : TA} {ga : GA} {pos : Pos}
def gSkip : GS := fun ρ cu => .ok (.nx ρ) cu
theorem pssd_nil : PSsD X K E [] tNext gSkip := ⟨pss_nil, fun c H0 G0 σ H G ρ cu D s q => q σ H G s⟩
def gSeq (g g' : GS) : GS := fun ρ cu => (g ρ cu).bind fun o cu1 => match o with
  | .nx ρ' => g' ρ' cu1
  | o => .ok o cu1
theorem pssd_cons (h : PSD X K E st t g) (h' : PSsD X K E sts u g') : PSsD X K E (st :: sts) (tSeq t u) (gSeq g g') := by
  refine ⟨pss_cons h.ps h'.ps, fun c H0 G0 σ H G ρ cu D s q => ?_⟩
  refine h.sem c H0 G0 σ H G ρ cu _ s ?_
  unfold gSeq at q
  cases hr : g ρ cu with
  | stuck => rw [hr] at q; exact q
  | exc k cu1 => rw [hr] at q; exact q
  | ok o cu1 =>
    rw [hr] at q
    cases o with
    | nx ρ' => exact fun σ' H' G' s' => h'.sem c H0 G0 σ' H' G' ρ' cu1 D s' q
    | ret d => exact q
    | brk ρ' => exact q
    | ct ρ' => exact q
theorem pssd_one (h : PSD X K E st t g) : PSsD X K E [st] t g := ⟨pss_one h.ps, h.sem⟩
theorem psd_pass : PSD X K E (.Pass pos) tNext gSkip := ⟨ps_pass, fun c H0 G0 σ H G ρ cu D s q => q σ H G s⟩
def gBrk : GS := fun ρ cu => .ok (.brk ρ) cu
def gCt : GS := fun ρ cu => .ok (.ct ρ) cu
theorem psd_break : PSD X K E (.Break pos) tBreak gBrk := ⟨ps_break, fun c H0 G0 σ H G ρ cu D s q => q σ H G s⟩
theorem psd_continue : PSD X K E (.Continue pos) tCont gCt := ⟨ps_continue, fun c H0 G0 σ H G ρ cu D s q => q σ H G s⟩
/-! values into slots -/
theorem Rep.set {c : Option Addr} {H0 : Hp} {σ : L2.St} {H G : Hp} {ρ : En} {i : Nat} {v : V} {d : PyData} (r : Rep c H0 σ H G ρ) (rv : Rp G v d) : Rep c H0 (σ.set i (some v)) H G (ρ.set i (.dat d)) := by
  have ne : ∀ (j : Nat) (s : Sl), s ≠ .dat d → (ρ.set i (.dat d))[j]? = some s → ρ[j]? = some s ∧ j ≠ i := fun j s hs e => by
    by_cases hj : i = j
    · subst hj
      by_cases hi : i < ρ.length
      · rw [List.getElem?_set_self hi] at e
        cases e
        exact (hs rfl).elim
      · rw [List.getElem?_eq_none (by simpa using hi)] at e; cases e
    · rw [List.getElem?_set_ne hj] at e
      exact ⟨e, Ne.symm hj⟩
  refine ⟨by rw [List.length_set, List.length_set]; exact r.len, fun j d' e => ?_, fun j e => ?_, ?_⟩
  · by_cases hj : i = j
    · subst hj
      by_cases hi : i < ρ.length
      · rw [List.getElem?_set_self hi] at e
        cases e
        exact ⟨v, List.getElem?_set_self (by rw [← r.len]; exact hi), rv⟩
      · rw [List.getElem?_eq_none (by simpa using hi)] at e; cases e
    · rw [List.getElem?_set_ne hj] at e ⊢
      exact r.dat j d' e
  · obtain ⟨e, hj⟩ := ne j Sl.cup (fun z => nomatch z) e
    rw [List.getElem?_set_ne (Ne.symm hj)]
    exact r.cup j e
  · obtain ⟨A, h1, h2⟩ := r.own
    refine ⟨A, fun j ds e => ?_, fun j k ds es e1 e2 => ?_⟩
    · obtain ⟨e, hj⟩ := ne j (Sl.own ds) (fun z => nomatch z) e
      rw [List.getElem?_set_ne (Ne.symm hj)]
      exact h1 j ds e
    · obtain ⟨e1, _⟩ := ne j (Sl.own ds) (fun z => nomatch z) e1
      obtain ⟨e2, _⟩ := ne k (Sl.own es) (fun z => nomatch z) e2
      exact h2 j k ds es e1 e2
theorem SRep.set {c : Option Addr} {H0 G0 : Hp} {σ : L2.St} {H G : Hp} {ρ : En} {cu : Cu} {i : Nat} {v : V} {d : PyData} (s : SRep K c H0 G0 σ H G ρ cu) (rv : Rp G v d) : SRep K c H0 G0 (σ.set i (some v)) H G (ρ.set i (.dat d)) cu := ⟨s.wd, s.ext, s.rep.set rv⟩
def gSet (i : Nat) (g : GE) : GS := fun ρ cu => (g ρ cu).bind fun d cu1 => .ok (.nx (ρ.set i (.dat d))) cu1
theorem psd_set {i : Nat} {x : Str} {pos' : Pos} (hN : X.N.Nodup) (hi : X.N[i]? = some x) (hx : Loc X.env.scope x) (he : PD X K E e te ge) (hs : swapsWith e (some (.Name x pos')) pos.line X.env = pure false := by rfl) (hf : X.fn x = true ∨ X.env.scope.names.lookup x = some .local := by first | exact .inl rfl | exact .inr rfl | assumption) :
    PSD X K E (.Assign [.Name x pos'] e pos) (tAsg te (gName i)) (gSet i ge) := by
  refine ⟨ps_set hN hi hx he.pe hs hf, fun c H0 G0 σ H G ρ cu D s q => ?_⟩
  exact he.sem c H0 G0 σ H G ρ cu _ s ((q.exp s).imp fun d H1 G1 cu1 x1 w1 q1 v rv => q1 _ H1 G1 ((s.go x1 w1).set rv))
/-! targets -/
abbrev GG := PyData → En → Option En
abbrev GGs := List PyData → En → Option En
def SemG (K : Kx) (t : TG) (g : GG) (ws : List Nat) : Prop := ∀ c H0 G0 σ H G ρ cu v d ρ' (Q : L2.St → Hp → Prop), SRep K c H0 G0 σ H G ρ cu → Rp G v d → g d ρ = some ρ' →
  (∀ σ', SRep K c H0 G0 σ' H G ρ' cu → σ'.length = σ.length → (∀ j : Nat, j ∉ ws → σ'[j]? = σ[j]?) → Q σ' H) → t v σ H Q
def SemGs (K : Kx) (t : TGs) (g : GGs) (ws : List Nat) : Prop := ∀ c H0 G0 σ H G ρ cu vs ds ρ' (Q : L2.St → Hp → Prop), SRep K c H0 G0 σ H G ρ cu → RpL G vs ds → g ds ρ = some ρ' →
  (∀ σ', SRep K c H0 G0 σ' H G ρ' cu → σ'.length = σ.length → (∀ j : Nat, j ∉ ws → σ'[j]? = σ[j]?) → Q σ' H) → t vs σ H Q
structure PGD (X : Cx) (K : Kx) (tg : Expr) (t : TG) (g : GG) (ws : List Nat) : Prop where
  pg : PG X tg t
  sem : SemG K t g ws
structure PGsD (X : Cx) (K : Kx) (tgs : List Expr) (t : TGs) (g : GGs) (ws : List Nat) : Prop where
  pg : PGs X tgs t
  sem : SemGs K t g ws
def ggName (i : Nat) : GG := fun d ρ => some (ρ.set i (.dat d))
theorem pgd_name {i : Nat} {x : Str} (hN : X.N.Nodup) (hi : X.N[i]? = some x) (hx : Loc X.env.scope x) (hf : X.fn x = true ∨ X.env.scope.names.lookup x = some .local := by first | exact .inl rfl | exact .inr rfl | assumption) : PGD X K (.Name x pos) (gName i) (ggName i) [i] := by
  refine ⟨pg_name hN hi hx hf, fun c H0 G0 σ H G ρ cu v d ρ' Q s rv e q => ?_⟩
  cases e
  exact q _ (s.set rv) (List.length_set ..) fun j hj => List.getElem?_set_ne (fun z => hj (by rw [z]; exact List.mem_singleton_self _))
def ggNil : GGs := fun ds ρ => match ds with
  | [] => some ρ
  | _ => none
def ggCons (g : GG) (r : GGs) : GGs := fun ds ρ => match ds with
  | d :: ds => (g d ρ).bind fun ρ1 => r ds ρ1
  | [] => none
theorem pgsd_nil : PGsD X K [] gNil ggNil [] := by
  refine ⟨pgs_nil, fun c H0 G0 σ H G ρ cu vs ds ρ' Q s rv e q => ?_⟩
  cases rv with
  | nil => cases e; exact ⟨rfl, q σ s rfl fun _ _ => rfl⟩
  | cons _ _ => cases e
theorem pgsd_cons {tg : Expr} {tgs : List Expr} {t1 : TG} {u1 : TGs} {g1 : GG} {r1 : GGs} {ws ws' : List Nat} (h : PGD X K tg t1 g1 ws) (h' : PGsD X K tgs u1 r1 ws')
    (hs : (assignEach (tg :: tgs) X.env).map (·.2) = assign tg X.env :: (assignEach tgs X.env).map (·.2) := by rfl) : PGsD X K (tg :: tgs) (gCons t1 u1) (ggCons g1 r1) (ws ++ ws') := by
  refine ⟨pgs_cons h.pg h'.pg hs, fun c H0 G0 σ H G ρ cu vs ds ρ' Q s rv e q => ?_⟩
  cases rv with
  | nil => cases e
  | @cons v vs d ds rv rvs =>
    have e : (g1 d ρ).bind (fun ρ1 => r1 ds ρ1) = some ρ' := e
    cases e1 : g1 d ρ with
    | none => rw [e1] at e; cases e
    | some ρ1 =>
      rw [e1] at e
      refine ⟨v, vs, rfl, h.sem c H0 G0 σ H G ρ cu v d ρ1 _ s rv e1 fun σ1 s1 l1 k1 => ?_⟩
      refine h'.sem c H0 G0 σ1 H G ρ1 cu vs ds ρ' _ s1 rvs e fun σ2 s2 l2 k2 => ?_
      exact q σ2 s2 (l2.trans l1) fun j hj => (k2 j fun z => hj (List.mem_append_right _ z)).trans (k1 j fun z => hj (List.mem_append_left _ z))
def ggTup (n : Nat) (g : GGs) : GG := fun d ρ => match d with
  | .tuple ds => if ds.length = n then g ds ρ else none
  | _ => none
theorem pgd_tup {tgs : List Expr} {k n : Nat} {t1 : TGs} {g1 : GGs} {ws : List Nat} (hc : X.calm = true) (h : PGsD X K tgs t1 g1 ws) (hn : (assignEach tgs X.env).length = n := by rfl) (hst : (assignEach tgs X.env).findIdx? (·.1) = none := by rfl) :
    PGD X K (.Tuple tgs k pos) (gTup X.K n t1) (ggTup n g1) ws := by
  refine ⟨pg_tup hc h.pg hn hst, fun c H0 G0 σ H G ρ cu v d ρ' Q s rv e q => ?_⟩
  cases d with
  | tuple ds =>
    have e : (if ds.length = n then g1 ds ρ else none) = some ρ' := e
    obtain ⟨a, xs, rfl, ha, ra⟩ := rv.tup_of
    split at e
    · rename_i hl
      exact ⟨a, xs, rfl, SqT.of (s.wd.sub _ _ ha), by rw [ra.length]; exact hl, h.sem c H0 G0 σ H G ρ cu xs ds ρ' Q s ra e q⟩
    · cases e
  | _ => cases e
def gAsg (g : GE) (gg : GG) : GS := fun ρ cu => (g ρ cu).bind fun d cu1 => (Rs.ofO (gg d ρ) cu1).bind fun ρ' cu2 => .ok (.nx ρ') cu2
theorem psd_asg {tg : Expr} {t1 : TG} {g1 : GG} {ws : List Nat} (he : PD X K E e te ge) (hg : PGD X K tg t1 g1 ws) (hs : swapsWithSole [tg] e pos.line X.env = pure false := by rfl) (hw : swappedStores [tg] e X.env = pure none := by rfl)
    (h1 : (assignEach [tg] X.env).map (·.2) = [assign tg X.env] := by rfl) : PSD X K E (.Assign [tg] e pos) (tAsg te t1) (gAsg ge g1) := by
  refine ⟨ps_asg he.pe hg.pg hs hw h1, fun c H0 G0 σ H G ρ cu D s q => ?_⟩
  refine he.sem c H0 G0 σ H G ρ cu _ s ((q.exp s).imp fun d H1 G1 cu1 x1 w1 q1 v rv => ?_)
  obtain ⟨ρ', e1, q2⟩ := q1.ofO
  exact hg.sem c H0 G0 σ H1 G1 ρ cu1 v d ρ' _ (s.go x1 w1) rv e1 fun σ' s' _ _ => q2 σ' H1 G1 s'
def gPar (i j : Nat) (g : GA) : GS := fun ρ cu => (g ρ cu).bind fun as cu1 => match as with
  | [.dat d, .dat e] => .ok (.nx ((ρ.set i (.dat d)).set j (.dat e))) cu1
  | _ => .stuck
theorem psd_par {i j : Nat} {x y : Str} {a b : Expr} {px py pt : Pos} {kt k2 : Nat} {pt2 : Pos} (hc : X.calm = true) (hN : X.N.Nodup) (hi : X.N[i]? = some x) (hj : X.N[j]? = some y) (hij : i ≠ j)
    (hx : X.env.scope.names.lookup x = some .local) (hy : X.env.scope.names.lookup y = some .local) (ha : PAD X K E [a, b] ta ga)
    (hw : swappedStores [.Tuple [.Name x px, .Name y py] kt pt] (.Tuple [a, b] k2 pt2) X.env = pure (some [x, y]) := by rfl)
    (hs : swapsWithSole [.Tuple [.Name x px, .Name y py] kt pt] (.Tuple [a, b] k2 pt2) pos.line X.env = pure false := by rfl) :
    PSD X K E (.Assign [.Tuple [.Name x px, .Name y py] kt pt] (.Tuple [a, b] k2 pt2) pos) (tPar i j ta) (gPar i j ga) := by
  refine ⟨ps_par hc hN hi hj hij hx hy ha.pa hw hs, fun c H0 G0 σ H G ρ cu D s q => ?_⟩
  refine ha.sem c H0 G0 σ H G ρ cu _ s ((q.exp s).imp fun as H1 G1 cu1 x1 w1 q1 vs rvs => ?_)
  split at q1
  · cases rvs with
    | dat r1 rr => cases rr with
      | dat r2 rr => cases rr with
        | nil => exact ⟨_, _, rfl, q1 _ H1 G1 (((s.go x1 w1).set r1).set r2)⟩
  · exact q1.elim
def gPar3 (i j l : Nat) (g : GA) : GS := fun ρ cu => (g ρ cu).bind fun as cu1 => match as with
  | [.dat d, .dat e, .dat f] => .ok (.nx (((ρ.set i (.dat d)).set j (.dat e)).set l (.dat f))) cu1
  | _ => .stuck
theorem psd_par3 {i j l : Nat} {x y z : Str} {a b c : Expr} {px py pz pt : Pos} {kt k2 : Nat} {pt2 : Pos} (hc : X.calm = true) (hN : X.N.Nodup) (hi : X.N[i]? = some x) (hj : X.N[j]? = some y) (hl : X.N[l]? = some z) (hij : i ≠ j) (hil : i ≠ l) (hjl : j ≠ l)
    (hx : X.env.scope.names.lookup x = some .local) (hy : X.env.scope.names.lookup y = some .local) (hz : X.env.scope.names.lookup z = some .local) (ha : PAD X K E [a, b, c] ta ga)
    (hw : swappedStores [.Tuple [.Name x px, .Name y py, .Name z pz] kt pt] (.Tuple [a, b, c] k2 pt2) X.env = pure (some [x, y, z]) := by rfl)
    (hs : swapsWithSole [.Tuple [.Name x px, .Name y py, .Name z pz] kt pt] (.Tuple [a, b, c] k2 pt2) pos.line X.env = pure false := by rfl) :
    PSD X K E (.Assign [.Tuple [.Name x px, .Name y py, .Name z pz] kt pt] (.Tuple [a, b, c] k2 pt2) pos) (tPar3 i j l ta) (gPar3 i j l ga) := by
  refine ⟨ps_par3 hc hN hi hj hl hij hil hjl hx hy hz ha.pa hw hs, fun c H0 G0 σ H G ρ cu D s q => ?_⟩
  refine ha.sem c H0 G0 σ H G ρ cu _ s ((q.exp s).imp fun as H1 G1 cu1 x1 w1 q1 vs rvs => ?_)
  split at q1
  · cases rvs with
    | dat r1 rr => cases rr with
      | dat r2 rr => cases rr with
        | dat r3 rr => cases rr with
          | nil => exact ⟨_, _, _, rfl, q1 _ H1 G1 ((((s.go x1 w1).set r1).set r2).set r3)⟩
  · exact q1.elim
def gDrop (g : GE) : GS := fun ρ cu => (g ρ cu).bind fun _ cu1 => .ok (.nx ρ) cu1
theorem psd_expr (he : PD X K E e te ge) (hs : swapsWith e none pos.line X.env = pure false := by rfl) : PSD X K E (.Expr e pos) (tDrop te) (gDrop ge) := by
  refine ⟨ps_expr he.pe hs, fun c H0 G0 σ H G ρ cu D s q => ?_⟩
  exact he.sem c H0 G0 σ H G ρ cu _ s ((q.exp s).imp fun d H1 G1 cu1 x1 w1 q1 v rv => q1 σ H1 G1 (s.go x1 w1))
def gRet (g : GE) : GS := fun ρ cu => (g ρ cu).bind fun d cu1 => .ok (.ret d) cu1
theorem psd_ret (he : PD X K E e te ge) : PSD X K E (.Return (some e) pos) (tRet te) (gRet ge) := by
  refine ⟨ps_ret he.pe, fun c H0 G0 σ H G ρ cu D s q => ?_⟩
  exact he.sem c H0 G0 σ H G ρ cu _ s ((q.exp s).imp fun d H1 G1 cu1 x1 w1 q1 v rv => q1 v H1 G1 (s.ext.trans x1) w1 rv)
def gIf (gt : GT) (g g' : GS) : GS := fun ρ cu => (gt ρ cu).bind fun b cu1 => if b = true then g ρ cu1 else g' ρ cu1
theorem psd_if {c : Expr} {a b : List Stmt} (hc : PTD X K E c tt gt) (ha : PSsD X K E a t g) (hb : PSsD X K E b u g') : PSD X K E (.If c a b pos) (tIfS tt t u) (gIf gt g g') := by
  refine ⟨ps_if hc.pt ha.ps hb.ps, fun c H0 G0 σ H G ρ cu D s q => ?_⟩
  refine hc.sem c H0 G0 σ H G ρ cu _ s ((q.exp s).imp fun k H1 G1 cu1 x1 w1 q1 => ?_)
  cases k with
  | true => rw [if_pos rfl] at q1 ⊢; exact ha.sem c H0 G0 σ H1 G1 ρ cu1 D (s.go x1 w1) q1
  | false => rw [if_neg Bool.false_ne_true] at q1 ⊢; exact hb.sem c H0 G0 σ H1 G1 ρ cu1 D (s.go x1 w1) q1
/-! raise X('..') -/
def gRaise (k : Nat) : GS := fun _ cu => .exc k cu
theorem psd_raise {k : Nat} {tr : L2.St → Hp → XK → Prop} (hc : X.calm = true) (tk : Takes X (fun cls d _ H => E cls d H)) (he : PMk X e tr) (hq : ∀ σ H (Q : XK), Q (.ref (K.CL k)) none H → tr σ H Q) :
    PSD X K E (.Raise (some e) none pos) (fun _ σ H => tr σ H fun cls d H' => E cls d H') (gRaise k) :=
  ⟨ps_raise hc tk he, fun c H0 G0 σ H G ρ cu D s q => hq _ _ _ (q H G s.ext s.wd)⟩
/-! the cup written -/
def gCupSet (i : Nat) (k : Bool) (g : GE) : GS := fun ρ cu => (g ρ cu).bind fun d cu1 => match ρ[i]?, d with
  | some .cup, .int z => .ok (.nx ρ) (if k = true then (cu1.1, z) else (z, cu1.2))
  | _, _ => .stuck
theorem psd_cupSet {i : Nat} {x : Str} {p p2 p3 : Pos} {j : Nat} (k : Bool) {z : Int} (hz : z = (if k = true then 1 else 0)) (h : PE X (.Name x p) (tVar i)) (he : PD X K E e te ge)
    (ha : ∀ v, assign (.Subscript (.Name x p) (.Constant (.int z) j p2) p3) X.env v = (do
      let ov ← holding [v] (eval (.Name x p) X.env)
      let iv ← holding [v, ov] (eval (.Constant (.int z) j p2) X.env)
      standAt p3
      holding [v, ov, iv] (setItem ov iv v)
      release [v, ov, iv] []) := by intro _; rfl)
    (hs : swapsWithSole [.Subscript (.Name x p) (.Constant (.int z) j p2) p3] e pos.line X.env = pure false := by rfl) (hw : swappedStores [.Subscript (.Name x p) (.Constant (.int z) j p2) p3] e X.env = pure none := by rfl)
    (h1 : (assignEach [.Subscript (.Name x p) (.Constant (.int z) j p2) p3] X.env).map (·.2) = [assign (.Subscript (.Name x p) (.Constant (.int z) j p2) p3) X.env] := by rfl) :
    PSD X K E (.Assign [.Subscript (.Name x p) (.Constant (.int z) j p2) p3] e pos) (tAsg te (gSub (tVar i) (tC (.int z)) rSetL)) (gCupSet i k ge) := by
  refine ⟨ps_asg he.pe (pg_sub h pe_int set_list ha) hs hw h1, fun c H0 G0 σ H G ρ cu D s q => ?_⟩
  refine he.sem c H0 G0 σ H G ρ cu _ s ((q.exp s).imp fun d H1 G1 cu1 x1 w1 q1 v rv => ?_)
  have s1 := s.go x1 w1
  split at q1
  · rename_i zz e
    obtain ⟨a, e1, e2⟩ := s1.rep.cup i e
    obtain ⟨c1, c2⟩ := w1.cup a e1
    refine ⟨_, e2, a, _, z, (if k = true then 1 else 0), rfl, rfl, c1, by subst hz; cases k <;> rfl, ?_⟩
    rw [rv.int_of]
    generalize hn : (([V.int cu1.1, V.int cu1.2] : List V).set (if k = true then 1 else 0) (V.int zz)) = nl
    have en : nl = [.int (if k = true then (cu1.1, zz) else (zz, cu1.2)).1, .int (if k = true then (cu1.1, zz) else (zz, cu1.2)).2] := by subst hn; cases k <;> rfl
    rw [en]
    have hk : ∀ b u, c ≠ some b → H1 b = some u → upd H1 a (.lst [.int (if k = true then (cu1.1, zz) else (zz, cu1.2)).1, .int (if k = true then (cu1.1, zz) else (zz, cu1.2)).2]) b = some u := fun b u hb e => by
      rw [upd_ne (fun z => hb (by rw [z]; exact e1))]; exact e
    have x2 : Ext c H1 G1 (upd H1 a (.lst [.int (if k = true then (cu1.1, zz) else (zz, cu1.2)).1, .int (if k = true then (cu1.1, zz) else (zz, cu1.2)).2])) G1 := by
      refine ⟨fun b u e _ hb => hk b u hb e, fun b u e n => ?_, fun b u e => e, fun b u _ _ n => n⟩
      by_cases hb : b = a
      · rw [hb]; exact ⟨_, upd_same, nt_lst⟩
      · exact ⟨u, by rw [upd_ne hb]; exact e, n⟩
    have nel : ∀ b u, H1 b = some u → (∀ xs, u ≠ .lst xs) → b ≠ a := fun b u e n z => by rw [z, c1] at e; exact n _ (Option.some.inj e).symm
    refine q1 σ _ G1 (s1.go x2 ⟨fun b u e => ?_, fun p hp => ?_, w1.nt, fun b hb => ?_⟩)
    · rw [upd_ne (fun z => by rw [z, c2] at e; cases e)]; exact w1.sub _ _ e
    · obtain ⟨ps, h1, h2, h3⟩ := w1.tab p hp
      refine ⟨ps, by rw [upd_ne (nel _ _ h1 fun xs z => nomatch z)]; exact h1, h2, fun pos cv hcv => ?_⟩
      obtain ⟨c0, e3, e4⟩ := h3 pos cv hcv
      exact ⟨c0, e3, by rw [upd_ne (nel _ _ e4 fun xs z => nomatch z)]; exact e4⟩
    · rw [e1] at hb
      cases hb
      exact ⟨upd_same, c2⟩
  · exact q1.elim
/-! while -/
def gWhileF (gt : GT) (g : GS) : Nat → GS
  | 0 => fun _ _ => .stuck
  | n + 1 => fun ρ cu => (gt ρ cu).bind fun b cu1 => if b = true then (g ρ cu1).bind fun o cu2 => match o with
      | .nx ρ' => gWhileF gt g n ρ' cu2
      | .ct ρ' => gWhileF gt g n ρ' cu2
      | .brk ρ' => .ok (.nx ρ') cu2
      | .ret d => .ok (.ret d) cu2 else .ok (.nx ρ) cu1
def gWhile (m : En → Cu → Nat) (gt : GT) (g : GS) : GS := fun ρ cu => gWhileF gt g (m ρ cu) ρ cu
theorem psd_while {c : Expr} {body : List Stmt} (m : En → Cu → Nat) (hp : PassesOwn (model X.prog X.w) X.A X.env X.xe) (hc : PTD X K E c tt gt) (hb : PSsD X K E body t g) : PSD X K E (.While c body [] pos) (tWhile tt t) (gWhile m gt g) := by
  refine ⟨ps_while hp hc.pt hb.ps, fun c H0 G0 σ H G ρ cu D s q => ?_⟩
  refine ⟨fun n σ H => ∃ G ρ cu, SRep K c H0 G0 σ H G ρ cu ∧ PostS K E c H0 G0 (gWhileF gt g n ρ cu) D, ⟨m ρ cu, G, ρ, cu, s, q⟩, ?_⟩
  rintro n σ H ⟨G, ρ, cu, s, q⟩
  cases n with
  | zero => exact q.elim
  | succ n =>
    refine hc.sem c H0 G0 σ H G ρ cu _ s ((PostS.exp s (show PostS K E c H0 G0 ((gt ρ cu).bind _) D from q)).imp fun k H1 G1 cu1 x1 w1 q1 => ?_)
    cases k with
    | true =>
      rw [if_pos rfl] at q1 ⊢
      refine ⟨fun σ' H' => ∃ G ρ cu, SRep K c H0 G0 σ' H' G ρ cu ∧ PostS K E c H0 G0 (gWhileF gt g n ρ cu) D, fun σ' H' h => ⟨n, Nat.lt_succ_self n, h⟩, ?_⟩
      refine hb.sem c H0 G0 σ H1 G1 ρ cu1 _ (s.go x1 w1) ?_
      cases hr : g ρ cu1 with
      | stuck => rw [hr] at q1; exact q1
      | exc k cu1 => rw [hr] at q1; exact q1
      | ok o cu2 =>
        rw [hr] at q1
        cases o with
        | nx ρ' => exact fun σ' H' G' s' => ⟨G', ρ', cu2, s', q1⟩
        | ct ρ' => exact fun σ' H' G' s' => ⟨G', ρ', cu2, s', q1⟩
        | brk ρ' => exact q1
        | ret d => exact q1
    | false =>
      rw [if_neg Bool.false_ne_true] at q1 ⊢
      exact q1 σ H1 G1 (s.go x1 w1)
end
end DL

set_option Elab.async false
set_option linter.all false
set_option maxRecDepth 100000
set_option autoImplicit false
namespace DL
open PySem PySem.Spec PyProof.Rows L2
/-! ### what is walked -/
def Wk (K : Kx) (J : It) (G1 : Hp) (items : List PyData) : Prop := ∀ c H G cu, (∀ b o, G1 b = some o → G b = some o) → Wd K c H G cu →
  (∀ (i : Nat) d, items[i]? = some d → J.go i H ∧ ∀ x H', J.yld i H x H' → ∃ G', Ext c H G H' G' ∧ Wd K c H' G' cu ∧ Rp G' x d) ∧ J.stop items.length H
abbrev GI := En → Cu → Rs (List PyData)
def SemI (K : Kx) (E : XK) (wi : TI) (g : GI) : Prop := ∀ c H0 G0 σ H G ρ cu (R : It → Hp → Prop), SRep K c H0 G0 σ H G ρ cu → Post K E c H G (g ρ cu) (fun items H' G' _ => ∀ J, Wk K J G' items → R J H') → wi σ H R
structure PID (X : Cx) (K : Kx) (E : XK) (tg iter : Expr) (wi : TI) (g : GI) : Prop where
  pi : PI X tg iter wi
  sem : SemI K E wi g
theorem ofI {H : Hp} {a : Addr} {xs ys : List V} {F : PySem.W.Frag} (h : H a = some (.lst xs)) (hK : F.lookup a = none) (q : SqL F H a ys) : ys = xs := by
  rcases q with (q | ⟨o, q⟩) | ⟨o, its, n, hk, _⟩
  · rw [h] at q; cases q; rfl
  · rw [h] at q; cases q
  · rw [hK] at hk; cases hk
section
variable {X : Cx} {K : Kx} {E : XK} {st : Stmt} {sts : List Stmt} {t u : TS} {g g' : GS} {a b e iter tg : Expr} {es : List Expr} {te : TE} {ge : GE} {tt : TT} {gt : GT} {ta : TA} {ga : GA} {pos : Pos}
def dLst : PyData → Option (List PyData)
  | .list ds => some ds
  | _ => none
def dTup : PyData → Option (List PyData)
  | .tuple ds => some ds
  | _ => none
def giLst (g : GE) : GI := fun ρ cu => (g ρ cu).bind fun d cu1 => .ofO (dLst d) cu1
def giTup (g : GE) : GI := fun ρ cu => (g ρ cu).bind fun d cu1 => .ofO (dTup d) cu1
/-- at most one reading of a known list or tuple: by the words of the iterators themselves -/
def iList' (F : PySem.W.Frag) (tl : TE) : TI := fun σ H R => tl σ H fun x H1 => ∃ a, x = .ref a ∧ (∃ xs, SqL F H1 a xs) ∧ R (Itl F a) H1
theorem wk_lst {F : PySem.W.Frag} {G1 : Hp} {a : Addr} {xs : List V} {ds : List PyData} (h : G1 a = some (.lst xs)) (r : RpL G1 xs ds) : Wk K (Itl F a) G1 ds := by
  intro c H G cu k w
  have hH : SqL F H a xs := SqL.of (w.sub _ _ (k _ _ h))
  refine ⟨fun i d e => ?_, ⟨xs, hH, Nat.le_of_eq r.length⟩⟩
  obtain ⟨v, e1, rv⟩ := r.get e
  refine ⟨⟨xs, v, hH, e1⟩, fun x H' y => ?_⟩
  obtain ⟨rfl, y⟩ := y
  have ev : v = x := Option.some.inj (e1.symm.trans (y xs hH))
  subst ev
  exact ⟨G, Ext.refl, w, rv.mono k⟩
theorem wk_tup {F : PySem.W.Frag} {G1 : Hp} {a : Addr} {xs : List V} {ds : List PyData} (h : G1 a = some (.tup xs)) (r : RpL G1 xs ds) : Wk K (Itt F a) G1 ds := by
  intro c H G cu k w
  have hH : SqT F H a xs := SqT.of (w.sub _ _ (k _ _ h))
  refine ⟨fun i d e => ?_, ⟨xs, hH, Nat.le_of_eq r.length⟩⟩
  obtain ⟨v, e1, rv⟩ := r.get e
  refine ⟨⟨xs, v, hH, e1⟩, fun x H' y => ?_⟩
  obtain ⟨rfl, y⟩ := y
  have ev : v = x := Option.some.inj (e1.symm.trans (y xs hH))
  subst ev
  exact ⟨G, Ext.refl, w, rv.mono k⟩
theorem pid_lst (h : PD X K E iter te ge) : PID X K E tg iter (iList X.K te) (giLst ge) := by
  refine ⟨pi_list h.pe, fun c H0 G0 σ H G ρ cu R s q => ?_⟩
  refine h.sem c H0 G0 σ H G ρ cu _ s (q.bind.imp fun d H1 G1 cu1 x1 w1 q1 v rv => ?_)
  obtain ⟨ds, ed, q2⟩ := q1.ofO
  cases d with
  | list ds' =>
    cases ed
    obtain ⟨a, xs, rfl, ha, ra⟩ := rv.lst_of
    exact ⟨a, rfl, ⟨xs, SqL.of (w1.sub _ _ ha)⟩, q2 H1 G1 Ext.refl w1 _ (wk_lst ha ra)⟩
  | _ => cases ed
theorem pid_tup (h : PD X K E iter te ge) : PID X K E tg iter (iTup X.K te) (giTup ge) := by
  refine ⟨pi_tup h.pe, fun c H0 G0 σ H G ρ cu R s q => ?_⟩
  refine h.sem c H0 G0 σ H G ρ cu _ s (q.bind.imp fun d H1 G1 cu1 x1 w1 q1 v rv => ?_)
  obtain ⟨ds, ed, q2⟩ := q1.ofO
  cases d with
  | tuple ds' =>
    cases ed
    obtain ⟨a, xs, rfl, ha, ra⟩ := rv.tup_of
    exact ⟨a, rfl, ⟨xs, SqT.of (w1.sub _ _ ha)⟩, q2 H1 G1 Ext.refl w1 _ (wk_tup ha ra)⟩
  | _ => cases ed
/-! range -/
def rngD (lo : Int) (n : Nat) : List PyData := (List.range n).map fun (i : Nat) => .int (lo + (i : Int))
theorem wk_rng {G1 : Hp} (lo : Int) (n : Nat) : Wk K (Itr lo n) G1 (rngD lo n) := by
  intro c H G cu k w
  have hl : (rngD lo n).length = n := by unfold rngD; rw [List.length_map, List.length_range]
  refine ⟨fun i d e => ?_, by rw [hl]; exact Nat.le_refl n⟩
  have hi : i < n := by rw [← hl]; exact (List.getElem?_eq_some_iff.mp e).1
  unfold rngD at e
  rw [List.getElem?_map, List.getElem?_range hi] at e
  cases e
  refine ⟨hi, fun x H' y => ?_⟩
  obtain ⟨rfl, rfl⟩ := y
  exact ⟨G, Ext.refl, w, .int _⟩
def dRng1 : List PyData → Option (List PyData)
  | [.int j] => if -(2 ^ 62) ≤ j ∧ j < 2 ^ 62 then some (rngD 0 j.toNat) else none
  | _ => none
def dRng2 : List PyData → Option (List PyData)
  | [.int i, .int j] => if -(2 ^ 62) ≤ i ∧ i < 2 ^ 62 ∧ -(2 ^ 62) ≤ j ∧ j < 2 ^ 62 then some (rngD i (j - i).toNat) else none
  | _ => none
def giArg (f : List PyData → Option (List PyData)) (g : GA) : GI := fun ρ cu => (g ρ cu).bind fun as cu1 => .ofO ((dats as).bind f) cu1
theorem pid_rng1 {p : Pos} (hg : Gl X "range") (hm : X.mg "range" = none) (ha : PAD X K E [a] ta ga) (hs : starEach [a] X.env = [(false, eval a X.env)] := by rfl) : PID X K E tg (.Call (.Name "range" p) [a] [] pos) (iRng1 ta) (giArg dRng1 ga) := by
  refine ⟨pi_range1 hg hm ha.pa hs, fun c H0 G0 σ H G ρ cu R s q => ?_⟩
  refine ha.sem c H0 G0 σ H G ρ cu _ s (q.bind.imp fun as H1 G1 cu1 x1 w1 q1 vs rvs => ?_)
  obtain ⟨items, ez, q2⟩ := q1.ofO
  cases e : dats as with
  | none => rw [e] at ez; cases ez
  | some ds =>
    rw [e] at ez
    have ez : dRng1 ds = some items := ez
    have r := dats_rp rvs e
    unfold dRng1 at ez
    split at ez
    · split at ez
      · rename_i hb
        cases ez
        obtain ⟨v, rfl, rv⟩ := r.one
        rw [rv.int_of]
        exact ⟨_, rfl, hb.1, hb.2, q2 H1 G1 Ext.refl w1 _ (wk_rng _ _)⟩
      · cases ez
    · cases ez
theorem pid_rng2 {p : Pos} (hg : Gl X "range") (hm : X.mg "range" = none) (ha : PAD X K E [a, b] ta ga) (hs : starEach [a, b] X.env = [(false, eval a X.env), (false, eval b X.env)] := by rfl) (hs2 : starEach [b] X.env = [(false, eval b X.env)] := by rfl) : PID X K E tg (.Call (.Name "range" p) [a, b] [] pos) (iRng2 ta) (giArg dRng2 ga) := by
  refine ⟨pi_range2 hg hm ha.pa hs hs2, fun c H0 G0 σ H G ρ cu R s q => ?_⟩
  refine ha.sem c H0 G0 σ H G ρ cu _ s (q.bind.imp fun as H1 G1 cu1 x1 w1 q1 vs rvs => ?_)
  obtain ⟨items, ez, q2⟩ := q1.ofO
  cases e : dats as with
  | none => rw [e] at ez; cases ez
  | some ds =>
    rw [e] at ez
    have ez : dRng2 ds = some items := ez
    have r := dats_rp rvs e
    unfold dRng2 at ez
    split at ez
    · split at ez
      · rename_i hb
        cases ez
        obtain ⟨v, w, rfl, rv, rw'⟩ := r.two
        rw [rv.int_of, rw'.int_of]
        exact ⟨_, _, rfl, hb, q2 H1 G1 Ext.refl w1 _ (wk_rng _ _)⟩
      · cases ez
    · cases ez
/-! zip -/
def zipD (xs ys : List PyData) : List PyData := List.zipWith (fun a b => .tuple [a, b]) xs ys
def dZip : List PyData → Option (List PyData)
  | [.tuple xs, .tuple ys] => some (zipD xs ys)
  | [.list xs, .list ys] => some (zipD xs ys)
  | _ => none
theorem zipD_length (xs ys : List PyData) : (zipD xs ys).length = min xs.length ys.length := by unfold zipD; exact List.length_zipWith
theorem zipD_get {xs ys : List PyData} {i : Nat} {d : PyData} (h : (zipD xs ys)[i]? = some d) : ∃ x y, xs[i]? = some x ∧ ys[i]? = some y ∧ d = .tuple [x, y] := by
  unfold zipD at h
  rw [List.getElem?_zipWith] at h
  cases e1 : xs[i]? with
  | none => rw [e1] at h; simp at h
  | some x =>
    cases e2 : ys[i]? with
    | none => rw [e1, e2] at h; simp at h
    | some y => rw [e1, e2] at h; simp at h; exact ⟨x, y, rfl, rfl, h.symm⟩
theorem wk_zipL {F : PySem.W.Frag} {G1 : Hp} {a b : Addr} {xs ys : List V} {ds es : List PyData} (h : G1 a = some (.lst xs)) (r : RpL G1 xs ds) (h' : G1 b = some (.lst ys)) (r' : RpL G1 ys es) : Wk K (Itz F a b) G1 (zipD ds es) := by
  intro c H G cu k w
  have hA : SqL F H a xs := SqL.of (w.sub _ _ (k _ _ h))
  have hB : SqL F H b ys := SqL.of (w.sub _ _ (k _ _ h'))
  refine ⟨fun i d e => ?_, ⟨xs, ys, hA, hB, by rw [zipD_length, r.length, r'.length]; omega⟩⟩
  obtain ⟨x, y, e1, e2, rfl⟩ := zipD_get e
  obtain ⟨v, e1, rv⟩ := r.get e1
  obtain ⟨u, e2, ru⟩ := r'.get e2
  refine ⟨⟨xs, ys, v, u, hA, hB, e1, e2⟩, fun z H' y => ?_⟩
  obtain ⟨T, x1, x2, rfl, hT, rfl, f1, f2⟩ := y
  have ev : v = x1 := Option.some.inj (e1.symm.trans (f1 xs hA))
  have eu : u = x2 := Option.some.inj (e2.symm.trans (f2 ys hB))
  subst ev eu
  obtain ⟨n1, n2⟩ := w.new (o := .tup [v, u]) hT
  exact ⟨_, n1, n2, .tup upd_same (RpL.upd (.cons (rv.mono k) (.cons (ru.mono k) .nil)) (w.gp hT))⟩
theorem wk_zipT {F : PySem.W.Frag} {G1 : Hp} {a b : Addr} {xs ys : List V} {ds es : List PyData} (h : G1 a = some (.tup xs)) (r : RpL G1 xs ds) (h' : G1 b = some (.tup ys)) (r' : RpL G1 ys es) : Wk K (RZ.ItzT F a b) G1 (zipD ds es) := by
  intro c H G cu k w
  have hA : SqT F H a xs := SqT.of (w.sub _ _ (k _ _ h))
  have hB : SqT F H b ys := SqT.of (w.sub _ _ (k _ _ h'))
  refine ⟨fun i d e => ?_, ⟨xs, ys, hA, hB, by rw [zipD_length, r.length, r'.length]; omega⟩⟩
  obtain ⟨x, y, e1, e2, rfl⟩ := zipD_get e
  obtain ⟨v, e1, rv⟩ := r.get e1
  obtain ⟨u, e2, ru⟩ := r'.get e2
  refine ⟨⟨xs, ys, v, u, hA, hB, e1, e2⟩, fun z H' y => ?_⟩
  obtain ⟨T, x1, x2, rfl, hT, rfl, f1, f2⟩ := y
  have ev : v = x1 := Option.some.inj (e1.symm.trans (f1 xs hA))
  have eu : u = x2 := Option.some.inj (e2.symm.trans (f2 ys hB))
  subst ev eu
  obtain ⟨n1, n2⟩ := w.new (o := .tup [v, u]) hT
  exact ⟨_, n1, n2, .tup upd_same (RpL.upd (.cons (rv.mono k) (.cons (ru.mono k) .nil)) (w.gp hT))⟩
theorem pid_zip {elts : List Expr} {kk : Nat} {tpos p : Pos} (hg : Gl X "zip") (hm : X.mg "zip" = none) (ha : PAD X K E [a, b] ta ga)
    (hp : PA X [a, b] ta → PI X (.Tuple elts kk tpos) (.Call (.Name "zip" p) [a, b] [] pos) (RZ.iZipA X.K ta)) :
    PID X K E (.Tuple elts kk tpos) (.Call (.Name "zip" p) [a, b] [] pos) (RZ.iZipA X.K ta) (giArg dZip ga) := by
  refine ⟨hp ha.pa, fun c H0 G0 σ H G ρ cu R s q => ?_⟩
  refine ha.sem c H0 G0 σ H G ρ cu _ s (q.bind.imp fun as H1 G1 cu1 x1 w1 q1 vs rvs => ?_)
  obtain ⟨items, ez, q2⟩ := q1.ofO
  cases e : dats as with
  | none => rw [e] at ez; cases ez
  | some ds =>
    rw [e] at ez
    have ez : dZip ds = some items := ez
    have r := dats_rp rvs e
    unfold dZip at ez
    split at ez
    · cases ez
      obtain ⟨v, w, rfl, rv, rw'⟩ := r.two
      obtain ⟨a, xs, rfl, ha, ra⟩ := rv.tup_of
      obtain ⟨b, ys, rfl, hb, rb⟩ := rw'.tup_of
      exact ⟨a, b, xs, ys, rfl, .inr ⟨SqT.of (w1.sub _ _ ha), SqT.of (w1.sub _ _ hb), q2 H1 G1 Ext.refl w1 _ (wk_zipT ha ra hb rb)⟩⟩
    · cases ez
      obtain ⟨v, w, rfl, rv, rw'⟩ := r.two
      obtain ⟨a, xs, rfl, ha, ra⟩ := rv.lst_of
      obtain ⟨b, ys, rfl, hb, rb⟩ := rw'.lst_of
      exact ⟨a, b, xs, ys, rfl, .inl ⟨SqL.of (w1.sub _ _ ha), SqL.of (w1.sub _ _ hb), q2 H1 G1 Ext.refl w1 _ (wk_zipL ha ra hb rb)⟩⟩
    · cases ez
/-! ### another entry -/
theorem Ext.un {c : Option Addr} {H0 G0 H1 G1 H G : Hp} (a : Ext c H0 G0 H1 G1) (b : Ext c H0 G1 H G) : Ext c H0 G0 H G := ⟨b.h, b.hs, fun x o e => b.g x o (a.g x o e), fun x o e m n => b.n x o e m (a.n x o e m n)⟩
theorem SRep.un {c : Option Addr} {H0 G0 H1 G1 H G : Hp} {σ : L2.St} {ρ : En} {cu : Cu} (a : Ext c H0 G0 H1 G1) (s : SRep K c H0 G1 σ H G ρ cu) : SRep K c H0 G0 σ H G ρ cu := ⟨s.wd, a.un s.ext, s.rep⟩
theorem SRep.re {c : Option Addr} {H0 G0 H1 G1 H G : Hp} {σ : L2.St} {ρ : En} {cu : Cu} (a : Ext c H0 G0 H1 G1) (k : ∀ b o, G1 b = some o → G b = some o) (s : SRep K c H0 G0 σ H G ρ cu) : SRep K c H0 G1 σ H G ρ cu := by
  refine ⟨s.wd, ⟨s.ext.h, s.ext.hs, k, fun b o e m n => s.ext.n b o e m ?_⟩, s.rep⟩
  cases q : G0 b with
  | none => rfl
  | some o => rw [a.g b o q] at n; cases n
/-! ### for -/
def gForL (gg : GG) (g : GS) : List PyData → GS
  | [] => fun ρ cu => .ok (.nx ρ) cu
  | d :: r => fun ρ cu => (Rs.ofO (gg d ρ) cu).bind fun ρ1 cu1 => (g ρ1 cu1).bind fun o cu2 => match o with
      | .nx ρ' => gForL gg g r ρ' cu2
      | .ct ρ' => gForL gg g r ρ' cu2
      | .brk ρ' => .ok (.nx ρ') cu2
      | .ret d => .ok (.ret d) cu2
def gFor (gi : GI) (gg : GG) (g : GS) : GS := fun ρ cu => (gi ρ cu).bind fun items cu1 => gForL gg g items ρ cu1
theorem psd_for {body : List Stmt} {wi : TI} {gi : GI} {t1 : TG} {gg : GG} {ws : List Nat} (hp : PassesOwn (model X.prog X.w) X.A X.env X.xe) (hc : X.calm = true) (hi : PID X K E tg iter wi gi) (hg : PGD X K tg t1 gg ws) (hb : PSsD X K E body t g)
    (hs : ∀ x, foldedSetIterable iter X.env x = pure x := by intro _; rfl) : PSD X K E (.For tg iter body [] pos) (tFor wi t1 t) (gFor gi gg g) := by
  refine ⟨ps_for hp hc hi.pi hg.pg hb.ps hs, fun c H0 G0 σ H G ρ cu D s q => ?_⟩
  refine hi.sem c H0 G0 σ H G ρ cu _ s ((q.exp s).imp fun items H1 G1 cu1 x1 w1 q1 J wk => ?_)
  have x01 : Ext c H0 G0 H1 G1 := s.ext.trans x1
  refine ⟨fun i m σ H => ∃ G ρ cu, SRep K c H0 G0 σ H G ρ cu ∧ (∀ b o, G1 b = some o → G b = some o) ∧ m = items.length - i ∧ i ≤ items.length ∧ PostS K E c H0 G0 (gForL gg g (items.drop i) ρ cu) D,
    ⟨items.length, G1, ρ, cu1, s.go x1 w1, fun _ _ e => e, by simp, Nat.zero_le _, by rw [List.drop_zero]; exact q1⟩, ?_⟩
  rintro i m σ H ⟨G, ρ, cu, s, k, rfl, hle, q⟩
  obtain ⟨wk1, wk2⟩ := wk c H G cu k s.wd
  by_cases hlt : i < items.length
  · have e0 : items[i]? = some items[i] := List.getElem?_eq_getElem hlt
    obtain ⟨go, yl⟩ := wk1 i _ e0
    refine .inr ⟨go, fun σ' H' => ∃ G ρ cu, SRep K c H0 G0 σ' H' G ρ cu ∧ (∀ b o, G1 b = some o → G b = some o) ∧ PostS K E c H0 G0 (gForL gg g (items.drop (i + 1)) ρ cu) D, fun σ' H' h => ?_, fun x H' y => ?_⟩
    · obtain ⟨G', ρ', cu', s', k', q'⟩ := h
      exact ⟨items.length - (i + 1), by omega, G', ρ', cu', s', k', rfl, hlt, q'⟩
    · obtain ⟨G', x2, w2, rx⟩ := yl x H' y
      rw [List.drop_eq_getElem_cons hlt] at q
      have q : PostS K E c H0 G0 ((Rs.ofO (gg items[i] ρ) cu).bind _) D := q
      obtain ⟨ρ1, e1, q⟩ := q.ofO
      refine hg.sem c H0 G0 σ H' G' ρ cu x items[i] ρ1 _ (s.go x2 w2) rx e1 fun σ2 s2 _ _ => ?_
      have x01 : Ext c H0 G0 H1 G1 := x01
      refine hb.sem c H0 G1 σ2 H' G' ρ1 cu _ (s2.re x01 fun b o e => x2.g _ _ (k b o e)) ?_
      cases hr : g ρ1 cu with
      | stuck => rw [hr] at q; exact q
      | exc k cu1 => rw [hr] at q; exact fun H' G' x w => q H' G' (x01.un x) w
      | ok o cu2 =>
        rw [hr] at q
        cases o with
        | nx ρ' => exact fun σ' H3 G3 s3 => ⟨G3, ρ', cu2, s3.un x01, s3.ext.g, q⟩
        | ct ρ' => exact fun σ' H3 G3 s3 => ⟨G3, ρ', cu2, s3.un x01, s3.ext.g, q⟩
        | brk ρ' => exact fun σ' H3 G3 s3 => q σ' H3 G3 (s3.un x01)
        | ret d => exact fun v H3 G3 x w r => q v H3 G3 (x01.un x) w r
  · have e : i = items.length := by omega
    subst e
    rw [List.drop_length] at q
    exact .inl ⟨wk2, q σ H G s⟩
end
end DL

set_option Elab.async false
set_option linter.all false
set_option maxRecDepth 100000
set_option autoImplicit false
namespace DL
open PySem PySem.Spec PyProof.Rows L2
section
variable {X : Cx} {K : Kx} {E : XK} {a b e iter tg elt : Expr} {es ifs : List Expr} {te : TE} {ge : GE} {tt : TT} {gt : GT} {ta : TA} {ga : GA} {pos : Pos}
/-! ### a list of one's own -/
theorem Wd.updL {c : Option Addr} {H G : Hp} {cu : Cu} {p : Addr} {xs ys : List V} (w : Wd K c H G cu) (hp : H p = some (.lst xs)) (gp : G p = none) (hc : c ≠ some p) : Wd K c (upd H p (.lst ys)) G cu := by
  have nel : ∀ b u, H b = some u → (∀ xs, u ≠ .lst xs) → upd H p (.lst ys) b = some u := fun b u e n => by
    rw [upd_ne (fun z => by rw [z, hp] at e; exact n _ (Option.some.inj e).symm)]; exact e
  refine ⟨fun b u e => ?_, fun q hq => ?_, w.nt, fun a ha => ?_⟩
  · rw [upd_ne (fun z => by rw [z, gp] at e; cases e)]; exact w.sub _ _ e
  · obtain ⟨ps, h1, h2, h3⟩ := w.tab q hq
    refine ⟨ps, nel _ _ h1 (fun xs z => nomatch z), h2, fun pos cv hcv => ?_⟩
    obtain ⟨c0, e3, e4⟩ := h3 pos cv hcv
    exact ⟨c0, e3, nel _ _ e4 (fun xs z => nomatch z)⟩
  · obtain ⟨h1, h2⟩ := w.cup a ha
    exact ⟨by rw [upd_ne (fun z => hc (by rw [← z]; exact ha))]; exact h1, h2⟩
theorem Ext.updL {c : Option Addr} {H0 G0 H G : Hp} {p : Addr} {o : HO} (x : Ext c H0 G0 H G) (hp : Fre H0 p) : Ext c H0 G0 (upd H p o) G := by
  refine ⟨fun b u e n k => ?_, fun b u e n => ?_, x.g, x.n⟩
  · rw [upd_ne (hp.ne e n)]; exact x.h b u e n k
  · rw [upd_ne (hp.ne e n)]; exact x.hs b u e n
theorem Wd.nc {c : Option Addr} {H G : Hp} {cu : Cu} (w : Wd K c H G cu) {p : Addr} (hp : Fre H p) : c ≠ some p := fun z => hp _ (w.cup p z).1 nt_lst
/-- a list that nothing else knows -/
def SemF (K : Kx) (E : XK) (t : TE) (g : GI) : Prop := ∀ c H0 G0 σ H G ρ cu (Q : VK), SRep K c H0 G0 σ H G ρ cu →
  Post K E c H G (g ρ cu) (fun ds H' G' _ => ∀ a xs, Fre H a → H' a = some (.lst xs) → RpL G' xs ds → G' a = none → Q (.ref a) H') → t σ H Q
structure PFD (X : Cx) (K : Kx) (E : XK) (e : Expr) (t : TE) (g : GI) : Prop where
  pe : PE X e t
  sem : SemF K E t g
def gL (g : GI) : GE := fun ρ cu => (g ρ cu).bind fun ds cu1 => .ok (.list ds) cu1
theorem SemF.toE {t : TE} {g : GI} (h : SemF K E t g) : SemE K E t (gL g) := by
  intro c H0 G0 σ H G ρ cu Q s q
  refine h c H0 G0 σ H G ρ cu Q s ?_
  unfold gL at q
  cases hr : g ρ cu with
  | stuck => rw [hr] at q; exact q
  | exc k cu1 => rw [hr] at q; exact q
  | ok ds cu1 =>
    rw [hr] at q
    intro H' G' x w a xs ha ha' r ga
    have hk : ∀ b o, G' b = some o → upd G' a (.lst xs) b = some o := fun b o e => by rw [upd_ne (ne_of_none e ga)]; exact e
    refine q H' (upd G' a (.lst xs)) ⟨x.h, x.hs, fun b o e => hk _ _ (x.g b o e), fun b o e m n => ?_⟩ (w.know ha' ga (s.wd.nc ha)) _ (.lst upd_same (r.mono hk))
    rw [upd_ne (ha.ne e m)]; exact x.n b o e m n
theorem PFD.toD {t : TE} {g : GI} (h : PFD X K E e t g) : PD X K E e t (gL g) := ⟨h.pe, h.sem.toE⟩
def gfDisp (g : GA) : GI := fun ρ cu => (g ρ cu).bind fun as cu1 => .ofO ((dats as).bind fun ds => if ds.length ≤ 16777216 then some ds else none) cu1
theorem fdisp_of {as : List Sl} {z : List PyData} (h : ((dats as).bind fun ds => if ds.length ≤ 16777216 then some ds else none) = some z) : dats as = some z ∧ z.length ≤ 16777216 := by
  cases e : dats as with
  | none => rw [e] at h; cases h
  | some ds =>
    rw [e] at h
    have h' : (if ds.length ≤ 16777216 then some ds else none) = some z := h
    split at h'
    · rename_i hl; cases h'; exact ⟨rfl, hl⟩
    · cases h'
theorem pf_lst (h : PAD X K E es ta ga) : PFD X K E (.List es pos) (tLst ta) (gfDisp ga) := by
  refine ⟨pe_lst h.pa, fun c H0 G0 σ H G ρ cu Q s q => ?_⟩
  refine h.sem c H0 G0 σ H G ρ cu _ s (q.bind.imp fun as H1 G1 cu1 x1 w1 q1 vs rvs => ?_)
  obtain ⟨ds, ez, q2⟩ := q1.ofO
  obtain ⟨e1, e2⟩ := fdisp_of ez
  have r := dats_rp rvs e1
  refine ⟨by rw [r.length, sizeLine_eq]; exact e2, fun p hp => ?_⟩
  obtain ⟨x2, w2, gp⟩ := w1.newH (o := .lst vs) hp
  exact q2 _ _ x2 w2 p vs (x1.free (.of hp)) upd_same r gp
/-- a list of one's own, or a known one, and a known one behind it -/
def catL : PyData → List PyData → Option (List PyData)
  | .list ys, xs => if xs.length + ys.length ≤ 16777216 then some (xs ++ ys) else none
  | _, _ => none
def gfCat (i : Nat) (g : GE) : GI := fun ρ cu => match ρ[i]? with
  | some (.own xs) => (g ρ cu).bind fun d cu1 => .ofO (catL d xs) cu1
  | some (.dat (.list xs)) => (g ρ cu).bind fun d cu1 => .ofO (catL d xs) cu1
  | _ => .stuck
theorem catL_of {d : PyData} {xs zs : List PyData} (h : catL d xs = some zs) : ∃ ys, d = .list ys ∧ xs.length + ys.length ≤ 16777216 ∧ zs = xs ++ ys := by
  cases d with
  | list ys =>
    have h : (if xs.length + ys.length ≤ 16777216 then some (xs ++ ys) else none) = some zs := h
    split at h
    · rename_i hl; cases h; exact ⟨ys, rfl, hl, rfl⟩
    · cases h
  | _ => cases h
theorem pf_cat {i : Nat} {x : Str} {p : Pos} (h : PE X (.Name x p) (tVar i)) (hb : PD X K E b te ge) : PFD X K E (.BinOp (.Name x p) .Add b pos) (tOp rCat (tVar i) te) (gfCat i ge) := by
  refine ⟨pe_op op_cat h hb.pe, fun c H0 G0 σ H G ρ cu Q s q => ?_⟩
  have go : ∀ (a : Addr) (vs : List V) (xs : List PyData), H a = some (.lst vs) → RpL G vs xs → c ≠ some a → σ[i]? = some (some (V.ref a)) → Post K E c H G ((ge ρ cu).bind fun d cu1 => .ofO (catL d xs) cu1)
      (fun ds H' G' _ => ∀ a xs, Fre H a → H' a = some (.lst xs) → RpL G' xs ds → G' a = none → Q (.ref a) H') → tOp rCat (tVar i) te σ H Q := by
    intro a vs xs h1 r1 hc e2 q
    refine ⟨_, e2, hb.sem c H0 G0 σ H G ρ cu _ s (q.bind.imp fun d H1 G1 cu1 x1 w1 q1 v rv => ?_)⟩
    obtain ⟨zs, ez, q2⟩ := q1.ofO
    obtain ⟨ys, rfl, hl, rfl⟩ := catL_of ez
    obtain ⟨b', us, rfl, hb', rb⟩ := rv.lst_of
    refine ⟨a, b', vs, us, rfl, rfl, x1.h _ _ h1 nt_lst hc, w1.sub _ _ hb', by rw [r1.length, rb.length, sizeLine_eq]; exact hl, fun p hp => ?_⟩
    obtain ⟨x2, w2, gp⟩ := w1.newH (o := .lst (vs ++ us)) hp
    exact q2 _ _ x2 w2 p _ (x1.free (.of hp)) upd_same ((r1.mono x1.g).app rb) gp
  unfold gfCat at q
  split at q
  · rename_i xs e
    obtain ⟨A, h1, _⟩ := s.rep.own
    obtain ⟨e1, ⟨vs, e2, e3⟩, _, _, e6⟩ := h1 i xs e
    exact go _ vs xs e2 e3 e6 e1 q
  · rename_i xs e
    obtain ⟨v, e1, rv⟩ := s.rep.dat i _ e
    obtain ⟨a, vs, rfl, ha, ra⟩ := rv.lst_of
    refine go a vs xs (s.wd.sub _ _ ha) ra (fun z => ?_) e1 q
    have := (s.wd.cup a z).2
    rw [ha] at this; cases this
  · exact q.elim
/-- the own list into its slot -/
theorem SRep.setO {c : Option Addr} {H0 G0 H G H' G' : Hp} {σ : L2.St} {ρ : En} {cu cu' : Cu} {i : Nat} {a : Addr} {xs : List V} {ds : List PyData} (s : SRep K c H0 G0 σ H G ρ cu) (x : Ext c H G H' G') (w : Wd K c H' G' cu')
    (ha : Fre H a) (ha' : H' a = some (.lst xs)) (r : RpL G' xs ds) (ga : G' a = none) : SRep K c H0 G0 (σ.set i (some (.ref a))) H' G' (ρ.set i (.own ds)) cu' := by
  have s' := s.go x w
  have ne : ∀ (j : Nat) (t : Sl), (ρ.set i (.own ds))[j]? = some t → j ≠ i → ρ[j]? = some t := fun j t e hj => by rw [List.getElem?_set_ne (Ne.symm hj)] at e; exact e
  have at_ : ∀ (t : Sl), (ρ.set i (.own ds))[i]? = some t → t = .own ds ∧ i < ρ.length := fun t e => by
    by_cases hi : i < ρ.length
    · rw [List.getElem?_set_self hi] at e; cases e; exact ⟨rfl, hi⟩
    · rw [List.getElem?_eq_none (by simpa using hi)] at e; cases e
  refine ⟨w, s'.ext, by rw [List.length_set, List.length_set]; exact s.rep.len, fun j d e => ?_, fun j e => ?_, ?_⟩
  · by_cases hj : j = i
    · subst hj; cases (at_ _ e).1
    · rw [List.getElem?_set_ne (Ne.symm hj)]; exact s'.rep.dat j d (ne j _ e hj)
  · by_cases hj : j = i
    · subst hj; cases (at_ _ e).1
    · rw [List.getElem?_set_ne (Ne.symm hj)]; exact s'.rep.cup j (ne j _ e hj)
  · obtain ⟨A, h1, h2⟩ := s.rep.own
    obtain ⟨A', h1', h2'⟩ := s'.rep.own
    have H0a : Fre H0 a := s.ext.free ha
    have nA : ∀ (j : Nat) (es : List PyData), ρ[j]? = some (.own es) → A j ≠ a := fun j es e z => by
      obtain ⟨_, ⟨_, e2, _⟩, _⟩ := h1 j es e
      exact ha.ne e2 nt_lst z
    refine ⟨fun j => if j = i then a else A j, fun j es e => ?_, fun j k es fs e1 e2 hjk => ?_⟩
    · by_cases hj : j = i
      · subst hj
        obtain ⟨e0, hi⟩ := at_ _ e
        cases e0
        dsimp only
        rw [if_pos rfl]
        exact ⟨List.getElem?_set_self (by rw [← s.rep.len]; exact hi), ⟨xs, ha', r⟩, ga, H0a, s.wd.nc ha⟩
      · dsimp only
        rw [if_neg hj, List.getElem?_set_ne (Ne.symm hj)]
        obtain ⟨q1, ⟨ys, q2, q3⟩, q4, q5, q6⟩ := h1 j es (ne j _ e hj)
        exact ⟨q1, ⟨ys, x.h _ _ q2 nt_lst q6, q3.mono x.g⟩, x.n _ _ q2 nt_lst q4, q5, q6⟩
    · show (if j = i then a else A j) ≠ (if k = i then a else A k)
      by_cases hj : j = i
      · have hk : k ≠ i := fun z => hjk (hj.trans z.symm)
        rw [if_pos hj, if_neg hk]
        exact fun z => nA k fs (ne k _ e2 hk) z.symm
      · rw [if_neg hj]
        by_cases hk : k = i
        · rw [if_pos hk]; exact nA j es (ne j _ e1 hj)
        · rw [if_neg hk]; exact h2 j k es fs (ne j _ e1 hj) (ne k _ e2 hk) hjk
def gSetO (i : Nat) (g : GI) : GS := fun ρ cu => (g ρ cu).bind fun ds cu1 => .ok (.nx (ρ.set i (.own ds))) cu1
theorem sem_setO {i : Nat} {t : TE} {g : GI} (h : SemF K E t g) : SemS K E (tAsg t (gName i)) (gSetO i g) := by
  intro c H0 G0 σ H G ρ cu D s q
  exact h c H0 G0 σ H G ρ cu _ s ((q.exp s).imp fun ds H1 G1 cu1 x1 w1 q1 a xs ha ha' r ga => q1 _ H1 G1 (s.setO x1 w1 ha ha' r ga))
theorem psd_setO {i : Nat} {x : Str} {pos' : Pos} {g : GI} (hN : X.N.Nodup) (hi : X.N[i]? = some x) (hx : Loc X.env.scope x) (he : PFD X K E e te g) (hs : swapsWith e (some (.Name x pos')) pos.line X.env = pure false := by rfl) (hf : X.fn x = true ∨ X.env.scope.names.lookup x = some .local := by first | exact .inl rfl | exact .inr rfl | assumption) :
    PSD X K E (.Assign [.Name x pos'] e pos) (tAsg te (gName i)) (gSetO i g) := ⟨ps_set hN hi hx he.pe hs hf, sem_setO he.sem⟩
/-- x.append(e) -/
def gApd (i : Nat) (g : GE) : GS := fun ρ cu => match ρ[i]? with
  | some (.own xs) => (g ρ cu).bind fun d cu1 => if xs.length < 16777216 then .ok (.nx (ρ.set i (.own (xs ++ [d])))) cu1 else .stuck
  | _ => .stuck
theorem psd_append {i : Nat} {x : Str} {p ap cp : Pos} (h : PE X (.Name x p) (tVar i)) (he : PD X K E e te ge)
    (hpe : PA X [e] (tCons te tNil) → PE X (.Call (.Attribute (.Name x p) "append" ap) [e] [] cp) (tBM X.K "list" rAppend (tVar i) (tCons te tNil)))
    (hs0 : starEach [e] X.env = (false, eval e X.env) :: starEach [] X.env := by rfl)
    (hs : swapsWith (.Call (.Attribute (.Name x p) "append" ap) [e] [] cp) none pos.line X.env = pure false := by rfl) :
    PSD X K E (.Expr (.Call (.Attribute (.Name x p) "append" ap) [e] [] cp) pos) (tDrop (tBM X.K "list" rAppend (tVar i) (tCons te tNil))) (gApd i ge) := by
  refine ⟨ps_expr (hpe (pa_cons he.pe pa_nil hs0)) hs, fun c H0 G0 σ H G ρ cu D s q => ?_⟩
  unfold gApd at q
  split at q
  · rename_i xs e
    obtain ⟨A, h1, h2⟩ := s.rep.own
    obtain ⟨e1, ⟨vs, e2, e3⟩, e4, e5, e6⟩ := h1 i xs e
    refine ⟨_, e1, .inl ⟨rfl, _, SqL.of e2⟩, ?_⟩
    refine he.sem c H0 G0 σ H G ρ cu _ s ((q.exp s).imp fun d H1 G1 cu1 x1 w1 q1 v rv => ?_)
    split at q1
    · rename_i hl
      have a1 := x1.h _ _ e2 nt_lst e6
      have g1 : G1 (A i) = none := x1.n _ _ e2 nt_lst e4
      refine ⟨A i, vs, v, rfl, rfl, a1, by rw [e3.length, sizeLine_eq]; exact hl, q1 σ _ G1 ⟨w1.updL a1 g1 e6, (s.ext.trans x1).updL e5, ?_⟩⟩
      have s1 := (s.go x1 w1).rep
      have ne : ∀ (j : Nat) (t : Sl), (ρ.set i (.own (xs ++ [d])))[j]? = some t → j ≠ i → ρ[j]? = some t := fun j t e hj => by rw [List.getElem?_set_ne (Ne.symm hj)] at e; exact e
      have at_ : ∀ (t : Sl), (ρ.set i (.own (xs ++ [d])))[i]? = some t → t = .own (xs ++ [d]) := fun t e => by
        by_cases hi : i < ρ.length
        · rw [List.getElem?_set_self hi] at e; cases e; rfl
        · rw [List.getElem?_eq_none (by simpa using hi)] at e; cases e
      refine ⟨by rw [List.length_set]; exact s.rep.len, fun j d' e => ?_, fun j e => ?_, A, fun j es e => ?_, fun j k es fs q1 q2 hjk => ?_⟩
      · by_cases hj : j = i
        · subst hj; cases at_ _ e
        · exact s1.dat j d' (ne j _ e hj)
      · by_cases hj : j = i
        · subst hj; cases at_ _ e
        · exact s1.cup j (ne j _ e hj)
      · by_cases hj : j = i
        · subst hj
          cases at_ _ e
          exact ⟨e1, ⟨_, upd_same, (e3.mono x1.g).app (.cons rv .nil)⟩, g1, e5, e6⟩
        · have e0 := ne j _ e hj
          obtain ⟨q1, ⟨ys, q2, q3⟩, q4, q5, q6⟩ := h1 j es e0
          have nij : A j ≠ A i := h2 j i es xs e0 (by assumption) hj
          exact ⟨q1, ⟨ys, by rw [upd_ne nij]; exact x1.h _ _ q2 nt_lst q6, q3.mono x1.g⟩, x1.n _ _ q2 nt_lst q4, q5, q6⟩
      · by_cases hj : j = i
        · subst hj
          have hk : k ≠ j := fun z => hjk z.symm
          exact h2 j k xs fs (by assumption) (ne k _ q2 hk) hjk
        · by_cases hk : k = i
          · subst hk; exact h2 j k es xs (ne j _ q1 hj) (by assumption) hjk
          · exact h2 j k es fs (ne j _ q1 hj) (ne k _ q2 hk) hjk
    · exact q1.elim
  · exact q.elim
/-- from here on the list may be known -/
def gFrz (i : Nat) (g : GS) : GS := fun ρ cu => match ρ[i]? with
  | some (.own ds) => g (ρ.set i (.dat (.list ds))) cu
  | _ => g ρ cu
theorem pssd_frz {sts : List Stmt} {t : TS} {g : GS} (i : Nat) (h : PSsD X K E sts t g) : PSsD X K E sts t (gFrz i g) := by
  refine ⟨h.ps, fun c H0 G0 σ H G ρ cu D s q => ?_⟩
  unfold gFrz at q
  split at q
  · rename_i ds e
    obtain ⟨A, h1, h2⟩ := id s.rep.own
    obtain ⟨e1, ⟨vs, e2, e3⟩, e4, e5, e6⟩ := h1 i ds e
    have hi : i < ρ.length := (List.getElem?_eq_some_iff.mp e).1
    have hk : ∀ b o, G b = some o → upd G (A i) (.lst vs) b = some o := fun b o z => by rw [upd_ne (ne_of_none z e4)]; exact z
    have ne : ∀ (j : Nat) (t : Sl), (ρ.set i (.dat (.list ds)))[j]? = some t → j ≠ i → ρ[j]? = some t := fun j t e hj => by rw [List.getElem?_set_ne (Ne.symm hj)] at e; exact e
    have at_ : ∀ (t : Sl), (ρ.set i (.dat (.list ds)))[i]? = some t → t = .dat (.list ds) := fun t e => by rw [List.getElem?_set_self hi] at e; cases e; rfl
    refine h.sem c H0 G0 σ H (upd G (A i) (.lst vs)) _ cu D ⟨s.wd.know e2 e4 e6, ⟨s.ext.h, s.ext.hs, fun b o z => hk _ _ (s.ext.g b o z), fun b o z m n => ?_⟩, by rw [List.length_set]; exact s.rep.len, fun j d z => ?_, fun j z => ?_, A, fun j es z => ?_, fun j k es fs z1 z2 hjk => ?_⟩ q
    · rw [upd_ne (e5.ne z m)]; exact s.ext.n b o z m n
    · by_cases hj : j = i
      · subst hj; cases at_ _ z; exact ⟨_, e1, .lst upd_same (e3.mono hk)⟩
      · obtain ⟨v, y1, y2⟩ := s.rep.dat j d (ne j _ z hj)
        exact ⟨v, y1, y2.mono hk⟩
    · by_cases hj : j = i
      · subst hj; cases at_ _ z
      · exact s.rep.cup j (ne j _ z hj)
    · by_cases hj : j = i
      · subst hj; cases at_ _ z
      · have z0 := ne j _ z hj
        obtain ⟨q1, ⟨ys, q2, q3⟩, q4, q5, q6⟩ := h1 j es z0
        exact ⟨q1, ⟨ys, q2, q3.mono hk⟩, by rw [upd_ne (h2 j i es ds z0 e hj)]; exact q4, q5, q6⟩
    · by_cases hj : j = i
      · subst hj; cases at_ _ z1
      · by_cases hk' : k = i
        · subst hk'; cases at_ _ z2
        · exact h2 j k es fs (ne j _ z1 hj) (ne k _ z2 hk') hjk
  · exact h.sem c H0 G0 σ H G ρ cu D s q
/-! ### comprehensions -/
def wipeE (ρ : En) : List Nat → En
  | [] => ρ
  | v :: vs => (wipeE ρ vs).set v .un
theorem Rep.setUn {c : Option Addr} {H0 : Hp} {σ : L2.St} {H G : Hp} {ρ : En} {i : Nat} (r : Rep c H0 σ H G ρ) : Rep c H0 (σ.set i none) H G (ρ.set i .un) := by
  have ne : ∀ (j : Nat) (s : Sl), s ≠ .un → (ρ.set i .un)[j]? = some s → ρ[j]? = some s ∧ j ≠ i := fun j s hs e => by
    by_cases hj : i = j
    · subst hj
      by_cases hi : i < ρ.length
      · rw [List.getElem?_set_self hi] at e
        cases e
        exact (hs rfl).elim
      · rw [List.getElem?_eq_none (by simpa using hi)] at e; cases e
    · rw [List.getElem?_set_ne hj] at e
      exact ⟨e, Ne.symm hj⟩
  refine ⟨by rw [List.length_set, List.length_set]; exact r.len, fun j d' e => ?_, fun j e => ?_, ?_⟩
  · obtain ⟨e, hj⟩ := ne j (Sl.dat d') (fun z => nomatch z) e
    rw [List.getElem?_set_ne (Ne.symm hj)]
    exact r.dat j d' e
  · obtain ⟨e, hj⟩ := ne j Sl.cup (fun z => nomatch z) e
    rw [List.getElem?_set_ne (Ne.symm hj)]
    exact r.cup j e
  · obtain ⟨A, h1, h2⟩ := r.own
    refine ⟨A, fun j ds e => ?_, fun j k ds es e1 e2 => ?_⟩
    · obtain ⟨e, hj⟩ := ne j (Sl.own ds) (fun z => nomatch z) e
      rw [List.getElem?_set_ne (Ne.symm hj)]
      exact h1 j ds e
    · obtain ⟨e1, _⟩ := ne j (Sl.own ds) (fun z => nomatch z) e1
      obtain ⟨e2, _⟩ := ne k (Sl.own es) (fun z => nomatch z) e2
      exact h2 j k ds es e1 e2
theorem Rep.wipe {c : Option Addr} {H0 : Hp} {σ : L2.St} {H G : Hp} {ρ : En} (r : Rep c H0 σ H G ρ) : ∀ vs : List Nat, Rep c H0 (wipe σ vs) H G (wipeE ρ vs)
  | [] => r
  | v :: vs => (Rep.wipe r vs).setUn
theorem wipe_in {σ : L2.St} {i : Nat} : ∀ {vs : List Nat}, i ∈ vs → (wipe σ vs)[i]? = if i < σ.length then some none else none
  | v :: vs, h => by
    unfold L2.wipe
    by_cases hi : v = i
    · subst hi
      by_cases hl : v < σ.length
      · rw [if_pos hl, List.getElem?_set_self (by rw [wipe_length]; exact hl)]
      · rw [if_neg hl, List.getElem?_eq_none (by rw [List.length_set, wipe_length]; omega)]
    · rw [List.getElem?_set_ne hi]
      rcases List.mem_cons.mp h with e | e
      · exact absurd e.symm hi
      · exact wipe_in e
theorem wipe_eq {σ σ2 : L2.St} {vs ws : List Nat} (hl : σ2.length = (wipe σ vs).length) (hk : ∀ j : Nat, j ∉ ws → σ2[j]? = (wipe σ vs)[j]?) (hw : ∀ j ∈ ws, j ∈ vs) : wipe σ2 vs = wipe σ vs := by
  apply List.ext_getElem?
  intro j
  rw [wipe_length] at hl
  by_cases hj : j ∈ vs
  · rw [wipe_in hj, wipe_in hj, hl]
  · rw [wipe_out hj, hk j fun z => hj (hw j z)]
def Rs.nox {α : Type} (r : Rs α) : Rs α := match r with
  | .exc _ _ => .stuck
  | r => r
theorem Post.nox {c : Option Addr} {H G H1 G1 : Hp} {α β : Type} {r : Rs α} {f : α → Cu → Rs β} {Q : β → Hp → Hp → Cu → Prop} (h : Post K E c H1 G1 (r.nox.bind f) Q) : Post K E0 c H G r (fun a _ _ cu' => Post K E c H1 G1 (f a cu') Q) := by
  cases r with
  | stuck => exact h
  | exc k cu => exact h.elim
  | ok a cu => exact fun _ _ _ _ => h
theorem Rs.bind_assoc {α β γ : Type} (r : Rs α) (f : α → Cu → Rs β) (g : β → Cu → Rs γ) : (r.bind f).bind g = r.bind fun a cu => (f a cu).bind g := by cases r <;> rfl
def gLcL (gg : GG) (gt : GT) (ge : GE) : List PyData → En → Cu → Rs (List PyData)
  | [] => fun _ cu => .ok [] cu
  | d :: r => fun ρ cu => (Rs.ofO (gg d ρ) cu).bind fun ρ1 cu1 => (gt ρ1 cu1).nox.bind fun b cu2 => if b = true then (ge ρ1 cu2).nox.bind fun y cu3 => (gLcL gg gt ge r ρ cu3).bind fun ys cu4 => .ok (y :: ys) cu4 else gLcL gg gt ge r ρ cu2
def gLc (gi : GI) (vs : List Nat) (gg : GG) (gt : GT) (ge : GE) : GI := fun ρ cu => (gi ρ cu).bind fun items cu1 => if items.length < 16777216 then gLcL gg gt ge items (wipeE ρ vs) cu1 else .stuck
structure PTsD (X : Cx) (K : Kx) (E : XK) (ifs : List Expr) (t : TT) (g : GT) : Prop where
  pts : PTs X ifs t
  sem : SemT K E t g
def gYes : GT := fun _ cu => .ok true cu
theorem ptsd_nil : PTsD X K E [] tYes gYes := ⟨pts_nil, fun c H0 G0 σ H G ρ cu Q s q => q H G Ext.refl s.wd⟩
theorem ptsd_one {c : Expr} (h : PTD X K E c tt gt) : PTsD X K E [c] tt gt := ⟨pts_one h.pt, h.sem⟩
theorem sem_lc {wi : TI} {gi : GI} {t1 : TG} {gg : GG} {ws vs : List Nat} (hi : SemI K E wi gi) (hg : SemG K t1 gg ws) (hw : ∀ j ∈ ws, j ∈ vs) (ht : SemT K E0 tt gt) (he : SemE K E0 te ge) : SemF K E (tLc wi t1 tt te vs) (gLc gi vs gg gt ge) := by
  intro c H0 G0 σ H G ρ cu Q s q
  refine hi c H0 G0 σ H G ρ cu _ s (q.bind.imp fun items H1 G1 cu1 x1 w1 q1 J wk Dd hD => ?_)
  split at q1
  case isFalse => exact q1.elim
  case isTrue hlen =>
  have s1 : SRep K c H0 G0 (wipe σ vs) H1 G1 (wipeE ρ vs) cu1 := ⟨w1, s.ext.trans x1, (s.go x1 w1).rep.wipe vs⟩
  have hc : c ≠ some Dd := w1.nc (.of hD)
  obtain ⟨x0, w0, g0⟩ := w1.newH (o := .lst []) hD
  refine ⟨fun i m H' => ∃ G' cu' acc accD, Ext c H1 G1 H' G' ∧ Wd K c H' G' cu' ∧ m = items.length - i ∧ i ≤ items.length ∧ H' Dd = some (.lst acc) ∧ RpL G' acc accD ∧ G' Dd = none ∧ accD.length ≤ i ∧
      Post K E c H1 G1 ((gLcL gg gt ge (items.drop i) (wipeE ρ vs) cu').bind fun ys cu2 => .ok (accD ++ ys) cu2) (fun ds H' G' _ => ∀ a xs, Fre H a → H' a = some (.lst xs) → RpL G' xs ds → G' a = none → Q (.ref a) H'),
    ⟨items.length, G1, cu1, [], [], x0, w0, by simp, Nat.zero_le _, upd_same, .nil, g0, Nat.zero_le _, ?_⟩, ?_⟩
  · rw [List.drop_zero]
    have e : ((gLcL gg gt ge items (wipeE ρ vs) cu1).bind fun ys cu2 => Rs.ok ([] ++ ys) cu2) = gLcL gg gt ge items (wipeE ρ vs) cu1 := by
      cases gLcL gg gt ge items (wipeE ρ vs) cu1 <;> rfl
    rw [e]
    exact q1
  · rintro i m H' ⟨G', cu', acc, accD, x', w', rfl, hle, hDd, rD, gD, hac, q⟩
    obtain ⟨wk1, wk2⟩ := wk c H' G' cu' x'.g w'
    by_cases hlt : i < items.length
    · obtain ⟨go, yl⟩ := wk1 i _ (List.getElem?_eq_getElem hlt)
      refine .inr ⟨go, fun H' => ∃ G' cu' acc accD, Ext c H1 G1 H' G' ∧ Wd K c H' G' cu' ∧ H' Dd = some (.lst acc) ∧ RpL G' acc accD ∧ G' Dd = none ∧ accD.length ≤ i + 1 ∧
        Post K E c H1 G1 ((gLcL gg gt ge (items.drop (i + 1)) (wipeE ρ vs) cu').bind fun ys cu2 => .ok (accD ++ ys) cu2) (fun ds H' G' _ => ∀ a xs, Fre H a → H' a = some (.lst xs) → RpL G' xs ds → G' a = none → Q (.ref a) H'),
        fun H2 h => ?_, fun x H2 y => ?_⟩
      · obtain ⟨G2, cu2, acc, accD, h1, h2, h3, h4, h5, h6, h7⟩ := h
        exact ⟨items.length - (i + 1), by omega, G2, cu2, acc, accD, h1, h2, rfl, hlt, h3, h4, h5, h6, h7⟩
      · obtain ⟨G2, x2, w2, rx⟩ := yl x H2 y
        have x12 := x'.trans x2
        have d2 : H2 Dd = some (.lst acc) := x2.h _ _ hDd nt_lst hc
        have g2 : G2 Dd = none := x2.n _ _ hDd nt_lst gD
        rw [List.drop_eq_getElem_cons hlt] at q
        have q : Post K E c H1 G1 (((Rs.ofO (gg items[i] (wipeE ρ vs)) cu').bind fun ρ1 cu1 => (gt ρ1 cu1).nox.bind fun b cu2 => if b = true then (ge ρ1 cu2).nox.bind fun y cu3 => (gLcL gg gt ge (items.drop (i + 1)) (wipeE ρ vs) cu3).bind fun ys cu4 => .ok (y :: ys) cu4 else gLcL gg gt ge (items.drop (i + 1)) (wipeE ρ vs) cu2).bind fun ys cu2 => .ok (accD ++ ys) cu2)
          (fun ds H' G' _ => ∀ a xs, Fre H a → H' a = some (.lst xs) → RpL G' xs ds → G' a = none → Q (.ref a) H') := q
        cases eρ : gg items[i] (wipeE ρ vs) with
        | none => rw [eρ] at q; exact q.elim
        | some ρ1 =>
          rw [eρ] at q
          rw [show (Rs.ofO (some ρ1) cu' : Rs En) = .ok ρ1 cu' from rfl] at q
          have q : Post K E c H1 G1 (((gt ρ1 cu').nox.bind fun b cu2 => if b = true then (ge ρ1 cu2).nox.bind fun y cu3 => (gLcL gg gt ge (items.drop (i + 1)) (wipeE ρ vs) cu3).bind fun ys cu4 => .ok (y :: ys) cu4 else gLcL gg gt ge (items.drop (i + 1)) (wipeE ρ vs) cu2).bind fun ys cu2 => .ok (accD ++ ys) cu2)
            (fun ds H' G' _ => ∀ a xs, Fre H a → H' a = some (.lst xs) → RpL G' xs ds → G' a = none → Q (.ref a) H') := q
          rw [Rs.bind_assoc] at q
          refine hg c H0 G0 (wipe σ vs) H2 G2 (wipeE ρ vs) cu' x items[i] ρ1 _ (s1.go x12 w2) rx eρ fun σ2 s2 l2 k2 => ⟨wipe_eq l2 k2 hw, ?_⟩
          refine ht c H0 G0 σ2 H2 G2 ρ1 cu' _ s2 (q.nox.imp fun k H3 G3 cu3 x3 w3 q3 => ?_)
          have x13 := x12.trans x3
          have d3 : H3 Dd = some (.lst acc) := x3.h _ _ d2 nt_lst hc
          have g3 : G3 Dd = none := x3.n _ _ d2 nt_lst g2
          cases k with
          | true =>
            rw [if_pos rfl] at q3 ⊢
            rw [Rs.bind_assoc] at q3
            refine he c H0 G0 σ2 H3 G3 ρ1 cu3 _ (s2.go x3 w3) (q3.nox.imp fun yd H4 G4 cu4 x4 w4 q4 v rv => ?_)
            have d4 : H4 Dd = some (.lst acc) := x4.h _ _ d3 nt_lst hc
            have g4 : G4 Dd = none := x4.n _ _ d3 nt_lst g3
            have r4 : RpL G4 acc accD := rD.mono fun b o e => x4.g _ _ (x3.g _ _ (x2.g _ _ e))
            refine ⟨acc, d4, by rw [r4.length, sizeLine_eq]; omega, G4, cu4, acc ++ [v], accD ++ [yd], (x13.trans x4).updL (.of hD), w4.updL d4 g4 hc, upd_same, r4.app (.cons rv .nil), g4, by rw [List.length_append]; simp only [List.length_singleton]; omega, ?_⟩
            rw [Rs.bind_assoc] at q4
            have e : ((gLcL gg gt ge (items.drop (i + 1)) (wipeE ρ vs) cu4).bind fun ys cu2 => Rs.ok (accD ++ [yd] ++ ys) cu2) = ((gLcL gg gt ge (items.drop (i + 1)) (wipeE ρ vs) cu4).bind fun a cu => (Rs.ok (yd :: a) cu).bind fun ys cu2 => Rs.ok (accD ++ ys) cu2) := by
              cases gLcL gg gt ge (items.drop (i + 1)) (wipeE ρ vs) cu4 with
              | stuck => rfl
              | exc k cu => rfl
              | ok a cu =>
                show Rs.ok (accD ++ [yd] ++ a) cu = Rs.ok (accD ++ (yd :: a)) cu
                rw [List.append_assoc]
                rfl
            rw [e]
            exact q4
          | false =>
            rw [if_neg Bool.false_ne_true] at q3 ⊢
            exact ⟨G3, cu3, acc, accD, x13, w3, d3, rD.mono fun b o e => x3.g _ _ (x2.g _ _ e), g3, by omega, q3⟩
    · have e : i = items.length := by omega
      subst e
      rw [List.drop_length] at q
      have q := q H' G' x' w' Dd acc (x1.free (.of hD)) hDd (by rw [List.append_nil]; exact rD) gD
      exact .inl ⟨wk2, q⟩
/-! trees that only the function tells -/
def tOf (K : Kx) (E : XK) (g : GE) : TE := fun σ H Q => ∃ c H0 G0 G ρ cu, SRep K c H0 G0 σ H G ρ cu ∧ Post K E c H G (g ρ cu) (QD Q)
def ttOf (K : Kx) (E : XK) (g : GT) : TT := fun σ H Q => ∃ c H0 G0 G ρ cu, SRep K c H0 G0 σ H G ρ cu ∧ Post K E c H G (g ρ cu) (fun b H' _ _ => Q b H')
def tgOf (K : Kx) (g : GG) (ws : List Nat) : TG := fun v σ H Q => ∃ c H0 G0 G ρ cu d ρ', SRep K c H0 G0 σ H G ρ cu ∧ Rp G v d ∧ g d ρ = some ρ' ∧ ∀ σ', SRep K c H0 G0 σ' H G ρ' cu → σ'.length = σ.length → (∀ j : Nat, j ∉ ws → σ'[j]? = σ[j]?) → Q σ' H
theorem sem_of (K : Kx) (E : XK) (g : GE) : SemE K E (tOf K E g) g := fun c H0 G0 σ H G ρ cu Q s q => ⟨c, H0, G0, G, ρ, cu, s, q⟩
theorem semT_of (K : Kx) (E : XK) (g : GT) : SemT K E (ttOf K E g) g := fun c H0 G0 σ H G ρ cu Q s q => ⟨c, H0, G0, G, ρ, cu, s, q⟩
theorem semG_of (K : Kx) (g : GG) (ws : List Nat) : SemG K (tgOf K g ws) g ws := fun c H0 G0 σ H G ρ cu v d ρ' Q s r e q => ⟨c, H0, G0, G, ρ, cu, d, ρ', s, r, e, q⟩
theorem PD.canon {X : Cx} (h : PD X K E e te ge) : PE X e (tOf K E ge) := ⟨fun pins s σ H Q I ⟨c, H0, G0, G, ρ, cu, r, q⟩ => h.pe.run pins s σ H Q I (h.sem c H0 G0 σ H G ρ cu Q r q)⟩
theorem PTsD.canon {X : Cx} (h : PTsD X K E ifs tt gt) : PTs X ifs (ttOf K E gt) := ⟨fun pins s σ H Q I ⟨c, H0, G0, G, ρ, cu, r, q⟩ => h.pts.run pins s σ H Q I (h.sem c H0 G0 σ H G ρ cu Q r q)⟩
theorem PGD.canon {X : Cx} {t1 : TG} {gg : GG} {ws : List Nat} (h : PGD X K tg t1 gg ws) : PG X tg (tgOf K gg ws) := ⟨fun pins s σ H v u Q I rv ⟨c, H0, G0, G, ρ, cu, d, ρ', r, rd, e, q⟩ => h.pg.run pins s σ H v u Q I rv (h.sem c H0 G0 σ H G ρ cu v d ρ' Q r rd e q)⟩
theorem pf_lc {scope : Scope} {own : List (Str × Nat)} {wi : TI} {gi : GI} {gg : GG} {ws : List Nat} (hc : X.calm = true) (hN : X.N.Nodup) (hi : PID X K E tg iter wi gi) (ok : BlkOk X.N X.env.scope scope own)
    (hg : ∀ (s : Shared) (H : Hp) (C : Addr) (cl : List (Str × Addr)) (fp : List Addr), ∃ t1, PGD (X.blk s H scope (compEnvC scope cl C X.env) fp) K tg t1 gg ws)
    (ht : ∀ (s : Shared) (H : Hp) (C : Addr) (cl : List (Str × Addr)) (fp : List Addr), ∃ tt, PTsD (X.blk s H scope (compEnvC scope cl C X.env) fp) K E0 ifs tt gt)
    (he : ∀ (s : Shared) (H : Hp) (C : Addr) (cl : List (Str × Addr)) (fp : List Addr), ∃ te, PD (X.blk s H scope (compEnvC scope cl C X.env) fp) K E0 elt te ge)
    (hw : ∀ j ∈ ws, j ∈ own.map (·.2) := by decide) (hs : ∀ x, foldedSetIterable iter X.env x = pure x := by intro _; rfl) :
    PFD X K E (.ListComp elt [⟨tg, iter, ifs, 0⟩] scope pos) (tLc wi (tgOf K gg ws) (ttOf K E0 gt) (tOf K E0 ge) (own.map (·.2))) (gLc gi (own.map (·.2)) gg gt ge) :=
  ⟨pe_lc hc hN hi.pi ok (fun s H C cl fp => let ⟨_, h⟩ := hg s H C cl fp; h.canon) (fun s H C cl fp => let ⟨_, h⟩ := ht s H C cl fp; h.canon) (fun s H C cl fp => let ⟨_, h⟩ := he s H C cl fp; h.canon) hs,
    sem_lc hi.sem (semG_of K gg ws) hw (semT_of K E0 gt) (sem_of K E0 ge)⟩
/-- name = [..]: known from now on -/
theorem SemF.set {i : Nat} {t : TE} {g : GI} (h : SemF K E t g) : SemS K E (tAsg t (gName i)) (gSet i (gL g)) := by
  intro c H0 G0 σ H G ρ cu D s q
  exact h.toE c H0 G0 σ H G ρ cu _ s ((q.exp s).imp fun d H1 G1 cu1 x1 w1 q1 v rv => q1 _ H1 G1 ((s.go x1 w1).set rv))
theorem psd_lcSet {i : Nat} {y : Str} {py spos : Pos} {scope : Scope} {own : List (Str × Nat)} {wi : TI} {gi : GI} {gg : GG} {ws : List Nat} (hc : X.calm = true) (hN : X.N.Nodup) (hy : X.N[i]? = some y) (hyl : X.env.scope.names.lookup y = some .local)
    (hsw : swapsWith (.ListComp elt [⟨tg, iter, ifs, 0⟩] scope pos) (some (.Name y py)) spos.line X.env = pure true) (hi : PID X K E tg iter wi gi) (ok : BlkOk X.N X.env.scope scope own)
    (hg : ∀ (s : Shared) (H : Hp) (C : Addr) (cl : List (Str × Addr)) (fp : List Addr), ∃ t1, PGD (X.blk s H scope (compEnvC scope cl C X.env) fp) K tg t1 gg ws)
    (ht : ∀ (s : Shared) (H : Hp) (C : Addr) (cl : List (Str × Addr)) (fp : List Addr), ∃ tt, PTsD (X.blk s H scope (compEnvC scope cl C X.env) fp) K E0 ifs tt gt)
    (he : ∀ (s : Shared) (H : Hp) (C : Addr) (cl : List (Str × Addr)) (fp : List Addr), ∃ te, PD (X.blk s H scope (compEnvC scope cl C X.env) fp) K E0 elt te ge)
    (hw : ∀ j ∈ ws, j ∈ own.map (·.2) := by decide) (hs : ∀ x, foldedSetIterable iter X.env x = pure x := by intro _; rfl) :
    PSD X K E (.Assign [.Name y py] (.ListComp elt [⟨tg, iter, ifs, 0⟩] scope pos) spos) (tAsg (tLc wi (tgOf K gg ws) (ttOf K E0 gt) (tOf K E0 ge) (own.map (·.2))) (gName i)) (gSet i (gL (gLc gi (own.map (·.2)) gg gt ge))) :=
  ⟨ps_setLc hc hN hy hyl hsw hi.pi ok (fun s H C cl fp => let ⟨_, h⟩ := hg s H C cl fp; h.canon) (fun s H C cl fp => let ⟨_, h⟩ := ht s H C cl fp; h.canon) (fun s H C cl fp => let ⟨_, h⟩ := he s H C cl fp; h.canon) hs,
    SemF.set (sem_lc hi.sem (semG_of K gg ws) hw (semT_of K E0 gt) (sem_of K E0 ge))⟩
end
/-! ### a def -/
def gFn (n : Nat) (g : GS) : GF := fun as cu => (g (as ++ List.replicate (n - as.length) .un) cu).bind fun o cu1 => match o with
  | .ret d => .ok d cu1
  | .nx _ => .ok .none cu1
  | _ => .stuck
theorem rep_start {c : Option Addr} {H G : Hp} {N : List Str} {vs : List V} {as : List Sl} (r : ArgRp c G vs as) : Rep c H (L2.start N vs) H G (as ++ List.replicate (N.length - as.length) .un) := by
  have hl := r.length
  have un : ∀ (i : Nat) (s : Sl), s ≠ .un → (as ++ List.replicate (N.length - as.length) Sl.un)[i]? = some s → as[i]? = some s ∧ i < as.length := fun i s hs e => by
    by_cases hi : i < as.length
    · rw [List.getElem?_append_left hi] at e; exact ⟨e, hi⟩
    · rw [List.getElem?_append_right (by omega), List.getElem?_replicate] at e
      split at e
      · cases e; exact (hs rfl).elim
      · cases e
  have at_ : ∀ (i : Nat) (v : V), vs[i]? = some v → (L2.start N vs)[i]? = some (some v) := fun i v e => by
    have hi := (List.getElem?_eq_some_iff.mp e).1
    unfold L2.start
    rw [List.getElem?_append_left (by rw [List.length_map]; exact hi), List.getElem?_map, e]
    rfl
  have get : ∀ {vs : List V} {as : List Sl}, ArgRp c G vs as → ∀ (i : Nat) (s : Sl), as[i]? = some s → (∃ v d, vs[i]? = some v ∧ s = .dat d ∧ Rp G v d) ∨ (∃ a, s = .cup ∧ c = some a ∧ vs[i]? = some (V.ref a)) := by
    intro vs as r
    induction r with
    | nil => intro i s e; simp at e
    | @dat v vs d as h _ ih =>
      intro i s e
      cases i with
      | zero => simp at e; subst e; exact .inl ⟨v, d, rfl, rfl, h⟩
      | succ i => simpa using ih i s (by simpa using e)
    | @cup a vs as h _ ih =>
      intro i s e
      cases i with
      | zero => simp at e; subst e; exact .inr ⟨a, rfl, h, rfl⟩
      | succ i => simpa using ih i s (by simpa using e)
  refine ⟨?_, fun i d e => ?_, fun i e => ?_, fun _ => 0, fun i ds e => ?_, fun i j ds es e1 _ => ?_⟩
  · unfold L2.start
    rw [List.length_append, List.length_append, List.length_replicate, List.length_replicate, List.length_map, hl]
  · obtain ⟨e, _⟩ := un i (Sl.dat d) (fun z => nomatch z) e
    rcases get r i _ e with ⟨v, d', e1, e2, r1⟩ | ⟨a, e1, _⟩
    · cases e2; exact ⟨v, at_ i v e1, r1⟩
    · cases e1
  · obtain ⟨e, _⟩ := un i Sl.cup (fun z => nomatch z) e
    rcases get r i _ e with ⟨v, d', e1, e2, r1⟩ | ⟨a, e1, e2, e3⟩
    · cases e2
    · exact ⟨a, e2, at_ i _ e3⟩
  · obtain ⟨e, _⟩ := un i (Sl.own ds) (fun z => nomatch z) e
    rcases get r i _ e with ⟨v, d', e1, e2, r1⟩ | ⟨a, e1, e2, e3⟩
    · cases e2
    · cases e1
  · obtain ⟨e, _⟩ := un i (Sl.own ds) (fun z => nomatch z) e1
    rcases get r i _ e with ⟨v, d', e1, e2, r1⟩ | ⟨a, e1, e2, e3⟩
    · cases e2
    · cases e1
theorem ok_def {P : Program} {w : World} {F : PySem.W.Frag} {mg : Str → Option Value} {base : Heap} {K : Kx} {x qual : Str} {st : Stmt} {f : Addr} {fd : FuncData} {N ps : List Str} {k : Nat} {g : GS} (Fn : Fun F x qual st f fd) (S : FnScope N ps (defScope st))
    (hbody : ∀ (cdv : Value) (A : Around) (outer : List Env) (s : Shared) (H : Hp) (E : XK), Room k (A.deeper (envOfC qual (defScope st) s.heap.objs.size f cdv)) →
      ∃ t, PSsD (cxOf (L2.CX P w) P w F mg base N qual (defScope st) f cdv A outer s H E) K E (defBody st) t g) :
    FnOk P w F mg base (L2.CX P w) (k + 1) f fd ps (spG K ps.length (gFn N.length g)) := by
  refine Fn.okX S (fun vs H Q E h => ?_) (fun cdv A outer s H vs Q E hr h => ?_)
  · obtain ⟨c, G, as, cu, h1, _, h3, _⟩ := h
    rw [h3.length, h1]
  · obtain ⟨c, G, as, cu, h1, wd, h3, q⟩ := h
    obtain ⟨t, ht⟩ := hbody cdv A outer s H E hr
    refine ⟨t, ht.ps, ht.sem c H G (L2.start N vs) H G _ cu _ ⟨wd, Ext.refl, rep_start h3⟩ ?_⟩
    unfold gFn at q
    cases hg : g (as ++ List.replicate (N.length - as.length) .un) cu with
    | stuck => rw [hg] at q; exact q
    | exc k cu1 => rw [hg] at q; exact q
    | ok o cu1 =>
      rw [hg] at q
      cases o with
      | nx ρ' => exact fun σ' H' G' s' => q H' G' s'.ext s'.wd _ .non
      | ret d => exact fun v H' G' x w r => q H' G' x w v r
      | brk ρ' => exact q.elim
      | ct ρ' => exact q.elim
end DL

set_option Elab.async false
set_option linter.all false
set_option maxRecDepth 100000
set_option autoImplicit false
namespace DL
open PySem PySem.Spec PyProof.Rows L2
theorem bb_abs : bootBuiltins "abs" = some (.builtin "abs") := by decide +kernel
theorem bb_len : bootBuiltins "len" = some (.builtin "len") := by decide +kernel
theorem bb_min : bootBuiltins "min" = some (.builtin "min") := by decide +kernel
theorem bb_max : bootBuiltins "max" = some (.builtin "max") := by decide +kernel
theorem bb_sum : bootBuiltins "sum" = some (.builtin "sum") := by decide +kernel
theorem bb_all : bootBuiltins "all" = some (.builtin "all") := by decide +kernel
theorem bb_int : bootBuiltins "int" = some (.type "int") := by decide +kernel
theorem bb_bool : bootBuiltins "bool" = some (.type "bool") := by decide +kernel
theorem bb_str : bootBuiltins "str" = some (.type "str") := by decide +kernel
theorem bb_tuple : bootBuiltins "tuple" = some (.type "tuple") := by decide +kernel
theorem bb_list : bootBuiltins "list" = some (.type "list") := by decide +kernel
/-- a def of the text that keeps g -/
def DefOk (P : Program) (w : World) (F : PySem.W.Frag) (mg : Str → Option Value) (base : Heap) (K : Kx) (x : Str) (k n : Nat) (g : GF) : Prop :=
  ∃ (f : Addr) (fd : FuncData) (ps : List Str), FnOk P w F mg base (L2.CX P w) k f fd ps (spG K n g) ∧ mg x = some (.ref f) ∧ PySem.W.keepIn F (.ref f) = true ∧ Binds F fd ps []
theorem pd_callD {X : Cx} {K : Kx} {E : XK} {e : Expr} {es : List Expr} {t : TA} {g : GA} {pos p : Pos} {k n : Nat} {x : Str} {gf : GF} (D : DefOk X.prog X.w X.K X.mg X.base K x k n gf) (hr : Room k X.A) (hg : Gl X x) (hx : Passes (L2.CX X.prog X.w) X E) (ha : PAD X K E (e :: es) t g)
    (hdb : (x == ("__debug__" : Str)) = false := by decide) (he : starEach (e :: es) X.env = (false, eval e X.env) :: starEach es X.env := by rfl) (hpl : (backTo pos (starEach es X.env)).any (·.1) = false := by rfl) :
    PD X K E (.Call (.Name x p) (e :: es) [] pos) (tCall (spG K n gf) [] E t) (gApp n gf g) := by
  obtain ⟨f, fd, ps, F, hm, hk, hb⟩ := D
  exact pd_call F hr hg hm hk hb hx ha hdb he hpl
theorem pd_callD0 {X : Cx} {K : Kx} {E : XK} {pos p : Pos} {k : Nat} {x : Str} {gf : GF} (D : DefOk X.prog X.w X.K X.mg X.base K x k 0 gf) (hr : Room k X.A) (hg : Gl X x) (hx : Passes (L2.CX X.prog X.w) X E) (hdb : (x == ("__debug__" : Str)) = false := by decide) :
    PD X K E (.Call (.Name x p) [] [] pos) (tCall (spG K 0 gf) [] E tNil) (fun _ cu => gf [] cu) := by
  obtain ⟨f, fd, ps, F, hm, hk, hb⟩ := D
  exact pd_call0 F hr hg hm hk hb hx hdb
end DL

set_option Elab.async false
set_option linter.all false
set_option maxRecDepth 100000
set_option autoImplicit false
namespace DL
open PySem PySem.Spec PyProof.Rows L2
/-! ### f(lambda: e), f a def that tells which error e raises -/
def TTerr (K : Kx) (ok : Nat → Bool) (txt : Nat → Str) : (XK → Hp → VK → Prop) → Hp → VK → Prop := fun tl H Q =>
  tl (fun cls _ H' => ∃ k, cls = .ref (K.CL k) ∧ ok k = true ∧ Q (.str (txt k)) H') H (fun _ H' => Q (.str "") H')
def gLam (ok : Nat → Bool) (txt : Nat → Str) (g : GE) : GE := fun ρ cu => match g ρ cu with
  | .stuck => .stuck
  | .exc k cu' => if ok k = true then .ok (.str (txt k)) cu' else .stuck
  | .ok _ cu' => .ok (.str "") cu'
theorem gives_err {X : Cx} {K : Kx} {ok : Nat → Bool} {txt : Nat → Str} {Ng : List Str} {x a q : Str} {sg : Scope} {g : Addr} {cdg : Value} {h₀ : ExceptHandler} {hds : List ExceptHandler} {l : List (Value × (Addr → Value → Option Addr → TS))} {j : Nat} {p1 p2 p3 p4 p5 p6 : Pos}
    (hh : ∀ (s : Shared) (H : Hp), HdsOk (cxOf C8.CX0 X.prog X.w X.K X.mg X.base Ng x sg g cdg X.A X.stack s H C8.E0).nox (h₀ :: hds) l)
    (hl : ∀ (k : Nat) (d : Option Addr) (D : Ends) (σ : L2.St) (H : Hp), ok k = true → D.rt (.str (txt k)) H → wMany X.K (fun _ _ _ _ => False) D l (.ref (K.CL k)) d σ H)
    (h0 : ∀ f : Addr, (L2.start Ng [V.ref f])[0]? = some (some (V.ref f)))
    (hsw : ∀ (Y : Cx), swapsWith (.Call (.Name a p1) [] [] p2) none p3.line Y.env = pure false := by intro _; rfl) :
    LamX.GivesTo X Ng x sg g cdg [.Try [.Expr (.Call (.Name a p1) [] [] p2) p3] (h₀ :: hds) [] [] p4, .Return (some (.Constant (.str "") j p5)) p6] a q (TTerr K ok txt) := by
  intro f c' s H Q tl act hc h
  refine ⟨_, pss_cons (ps_try_many (X := (cxOf C8.CX0 X.prog X.w X.K X.mg X.base Ng x sg g cdg X.A X.stack s H C8.E0).nox) (Wout := fun _ _ _ _ => False)
      (tb := fun W D σ H => ∃ Ech : XK, (∀ cls d σ' H', Ech cls d H' → W cls d σ' H') ∧ σ[0]? = some (some (.ref f)) ∧ H c' = some (LamX.CodeO c' q) ∧ tl Ech H (fun _ H' => D.nx σ H'))
      rfl rfl LamX.takes0 (fun W pn xe tk _ => ?_) (hh s H)) (pss_one (ps_ret pe_str)), ?_⟩
  · refine ⟨fun pins s' σ H' D I h' => ?_⟩
    obtain ⟨Ech, hW, h1, h2, h3⟩ := h'
    have hp := act W pn xe Ech p1 p2 tk hW
    have hq := pss_one (ps_expr (pos := p3) hp (hsw _))
    exact hq.run pins s' σ H' D I ⟨h1, h2, h3⟩
  · exact ⟨fun cls _ H' => ∃ k, cls = .ref (K.CL k) ∧ ok k = true ∧ Q (.str (txt k)) H', fun cls d σ' H' ⟨k, e1, e2, e3⟩ => by subst e1; exact hl k d _ σ' H' e2 e3, h0 f, hc, h⟩
section
variable {X : Cx} {K : Kx} {E : XK}
theorem pd_lamErr {ok : Nat → Bool} {txt : Nat → Str} {x a : Str} {g c P : Addr} {k : Nat} {pg : Arguments} {bg : List Stmt} {sg : Scope} {dV kV doc pm cdv ct oc : Value} {an od : Option Addr} {osl : Array (Option Value)} {Ng : List Str}
    {params : Arguments} {body : Expr} {scope : Scope} {gb : GE} {p lpos pos : Pos} (hg : Gl X x) (hm : X.mg x = some (.ref g)) (hk : PySem.W.keepIn X.K (.ref g) = true)
    (lk : X.K.lookup g = some ⟨oc, od, .func (PySem.W.fnOf x x pg bg sg dV kV doc pm an cdv ct), osl⟩) (hcg : PySem.W.codeIn X.K cdv x = true) (hb : L2.Binds X.K (PySem.W.fnOf x x pg bg sg dV kV doc pm an cdv ct) [a] []) (Sg : FnScope Ng [a] sg) (hNg : Ng[0]? = some a) (hva : Vis sg a)
    (hG : LamX.GivesTo X Ng x sg g cdv bg a (X.env.qual ++ "<lambda>") (TTerr K ok txt))
    (TB : LamX.TabB X.base X.mg c P) (hcode : X.env.code = .ref c) (hmT : (P, X.env.qual ++ "<lambda>") ∈ K.T) (hu : ∀ p ∈ K.T, p.1 = P → p.2 = X.env.qual ++ "<lambda>") (hr : Room (k + 2) X.A) (L : LamX.LamS X.env.scope scope) (hdef : defaultsOf params X.env = ([], []))
    (hbind : ∀ (q : Str) (cl : List (Str × Addr)) (pm cv ctv : Value), bindArgs (PySem.W.kla_fn "<lambda>" q params body scope cl pm cv ctv) ⟨[], []⟩ = pure [])
    (hbody : ∀ (A : Around) (outer : List Env) (s : Shared) (H : Hp) (E : XK) (f c' : Addr), Room k (A.deeper (LamX.lamEnv X scope s.heap.objs.size f c')) → ∃ t, PD (LamX.lamCx X A outer s H E scope f c') K E body t gb)
    (hdb : (x == ("__debug__" : Str)) = false := by decide) (hd : (a == ("__debug__" : Str)) = false := by decide) (hcd : (a == ("__classdict__" : Str)) = false := by decide) :
    PD X K E (.Call (.Name x p) [.Lambda params body scope lpos] [] pos) (LamX.tLam K.T (TTerr K ok txt) (fun E' => tOf K E' gb)) (gLam ok txt gb) := by
  refine ⟨LamX.pe_lamcall hg hm hk lk hcg hb Sg hNg hva hG TB hcode hmT hu hr L hdef hbind (fun A outer s H E' f c' hr' => let ⟨_, h⟩ := hbody A outer s H E' f c' hr'; h.canon) hdb hd hcd, fun c0 H0 G0 σ H G ρ cu Q s q => ⟨s.wd.tab, fun H1 eN T1 => ?_⟩⟩
  have x1 : Ext c0 H G H1 G := ⟨fun b o e n _ => eN b o e n, fun b o e n => ⟨o, eN b o e n, n⟩, fun _ _ e => e, fun _ _ _ _ e => e⟩
  · have w1 : Wd K c0 H1 G cu := by
      refine ⟨fun b o e => eN b o (s.wd.sub _ _ e) fun ps z => s.wd.nt b ps (by rw [← z]; exact e), T1, s.wd.nt, fun a ha => ?_⟩
      · obtain ⟨h1, h2⟩ := s.wd.cup a ha
        exact ⟨eN _ _ h1 (fun ps z => by cases z), h2⟩
    refine ⟨c0, H0, G0, G, ρ, cu, s.go x1 w1, ?_⟩
    unfold gLam at q
    cases hgb : gb ρ cu with
    | stuck => rw [hgb] at q; exact q
    | exc k cu' =>
      rw [hgb] at q
      dsimp only at q
      split at q
      · rename_i hk
        exact fun H' G' x w => ⟨k, rfl, hk, q H' G' (x1.trans x) w _ (.str _)⟩
      · exact q.elim
    | ok d cu' =>
      rw [hgb] at q
      exact fun H' G' x w v _ => q H' G' (x1.trans x) w _ (.str _)
end
end DL

set_option Elab.async false
set_option linter.all false
set_option maxRecDepth 100000
set_option maxHeartbeats 2000000
set_option autoImplicit false
namespace DL
open PySem PySem.Spec PyProof.Rows L2
/-! ### all(f(x) for x in a tuple), f a def that tells whether its argument is an integer -/
/-- what isinstance asks of a value, lasting -/
def KitD (F : PySem.W.Frag) (v : Value) (d : PyData) (P : Addr) (h : Heap) : Prop :=
  ∃ (n : String) (Pz : Heap → Prop), tyName d = some n ∧ PySem.W.KitX F v (.type n) Pz ∧ Pz h ∧ v ≠ .builtin "__main__.__loader__#opaque" ∧ ∀ h' : Heap, (∀ b o, b ≠ P → h.get? b = some o → h'.get? b = some o) → Pz h'
theorem KitD.keep {F : PySem.W.Frag} {v : Value} {d : PyData} {P : Addr} {h h' : Heap} (k : KitD F v d P h) (e : ∀ b o, b ≠ P → h.get? b = some o → h'.get? b = some o) : KitD F v d P h' := by
  obtain ⟨n, Pz, h1, h2, h3, h4, h5⟩ := k
  exact ⟨n, Pz, h1, h2, h5 h' e, h4, fun h'' e' => h5 h'' fun b o nb z => e' b o nb (e b o nb z)⟩
theorem kitD_of {X : Cx} {pins : List (Addr × Obj)} {σ : L2.St} {H : Hp} {s : Shared} {x : V} {u : Value} {d : PyData} {P : Addr} {tb : Array Value} (I : Inv X pins σ H s) (rv : RelV x u) (r : Rp H x d) (hP : H P = some (.tbl tb)) : KitD X.K u d P s.heap := by
  cases r with
  | non => cases (show u = Value.none from rv); exact ⟨_, _, rfl, PySem.W.kitx_none, trivial, (fun z => nomatch z), fun _ _ => trivial⟩
  | bl y => cases (show u = Value.bool y from rv); exact ⟨_, _, rfl, PySem.W.kitx_bool, trivial, (fun z => nomatch z), fun _ _ => trivial⟩
  | int i => obtain ⟨t, q⟩ := (show ∃ t, u = Value.int i t from rv); cases q; exact ⟨_, _, rfl, PySem.W.kitx_int, trivial, (fun z => nomatch z), fun _ _ => trivial⟩
  | str y => obtain ⟨t, q⟩ := (show ∃ t, u = Value.str y t from rv); cases q; exact ⟨_, _, rfl, PySem.W.kitx_str, trivial, (fun z => nomatch z), fun _ _ => trivial⟩
  | @lst a xs ds ea _ =>
    cases (show u = Value.ref a from rv)
    obtain ⟨_, _, n, _, h1⟩ := (show ObjOk X.prog X.w H s.heap a (.lst xs) from I.hok a _ ea)
    exact ⟨_, _, rfl, PySem.W.kitx_list, ⟨_, h1, rfl⟩, (fun z => nomatch z), fun h' e => ⟨_, e _ _ (fun z => by rw [z, hP] at ea; cases ea) h1, rfl⟩⟩
  | @tup a xs ds ea _ =>
    cases (show u = Value.ref a from rv)
    obtain ⟨_, _, _, o, h1, h2, _⟩ := (show ObjOk X.prog X.w H s.heap a (.tup xs) from I.hok a _ ea)
    exact ⟨_, _, rfl, PySem.W.kitx_tuple, ⟨o, h1, h2⟩, (fun z => nomatch z), fun h' e => ⟨o, e _ _ (fun z => by rw [z, hP] at ea; cases ea) h1, h2⟩⟩
def isIntD : PyData → Bool
  | .int _ => true
  | _ => false
def isIB : PyData → Bool
  | .int _ => true
  | .bool _ => true
  | _ => false
def isBD : PyData → Bool
  | .bool _ => true
  | _ => false
theorem Keeps.trans' {a b c : Shared} (x : Keeps a b) (y : Keeps b c) : Keeps a c := by
  obtain ⟨h1, t1, rfl, k1⟩ := x
  obtain ⟨h2, t2, rfl, k2⟩ := y
  exact ⟨h2, t2, rfl, fun b o e => k2 b o (k1 b o e)⟩
/-- the text of such a def -/
def isIntBody (q1 q2 q3 q4 q5 q6 q7 q8 q9 q10 q11 : Pos) : List Stmt :=
  [.Return (some (.BoolOp .And [.Call (.Name "isinstance" q1) [.Name "value" q2, .Name "int" q3] [] q4, .UnaryOp .Not (.Call (.Name "isinstance" q5) [.Name "value" q6, .Name "bool" q7] [] q8) q9] q10)) q11]
section
variable {prog : Program} {w : World} {F : PySem.W.Frag} {mg mb : Str → Option Value} {base : Heap}
structure BaseOk (F : PySem.W.Frag) (mg mb : Str → Option Value) (base : Heap) : Prop where
  kin : F.In base
  glob : base.Ns mainGlobals mg
  blt : base.Ns builtinsNs mb
  bb : ∀ x : Str, x ≠ "__name__" → mb x = bootBuiltins x
  lim : base.NoLimit
/-- isinstance(value, T) in a frame of such a def -/
theorem isi_raw {A : Around} {E : Value → Shared → Prop} {Q : Value → Shared → Prop} {env : Env} {T : Str} {tn : String} {p1 p2 p3 p4 : Pos} {s : Shared} {m : Str → Option Value} {v : Value} {d : PyData} {P : Addr} {r : Bool} (B : BaseOk F mg mb base) (hk : env.scope.kind = .function) (hg1 : env.kindOf "isinstance" = some .globalImplicit) (hgT : env.kindOf T = some .globalImplicit) (hl : env.kindOf "value" = some .local)
    (eg : env.globals = mainGlobals) (eb : env.builtins = builtinsNs) (m1 : mg "isinstance" = none) (m2 : mg T = none) (hT : bootBuiltins T = some (.type tn)) (nT : T ≠ "__name__") (dT : (T == ("__debug__" : Str)) = false)
    (kp : ∀ b o, base.get? b = some o → s.heap.get? b = some o) (hn : s.heap.Ns env.locals m) (hv : m "value" = some v) (kd : KitD F v d P s.heap) (hr : isiOf tn d = some r) (hQ : ∀ s', Keeps s s' → Q (.bool r) s') :
    wpAny (model prog w) A (eval (.Call (.Name "isinstance" p1) [.Name "value" p2, .Name T p3] [] p4) env) Q E s := by
  refine wpAny_Call_Name_kw (Calls.Name_function_global hk hg1 (Calls.loadGlobal_builtin (by rw [eg]; exact B.glob.keeps kp) m1 (by rw [eb]; exact B.blt.keeps kp) ((B.bb _ (by decide)).trans (show bootBuiltins "isinstance" = some (.builtin "isinstance") from by decide +kernel)) ?_) (by decide))
  refine PyProof.Rows.callWith_builtin1 ?_ (by rfl) (by rfl)
  show wpAny _ _ (spliced ((false, eval (.Name "value" p2) env) :: (false, eval (.Name T p3) env) :: [])) _ _ s
  refine Calls.spliced_cons (wpAny_Name (wpAny_loadName_local hk hl hn hv ?_) (by decide))
  refine Calls.spliced_cons (Calls.Name_function_global hk hgT (Calls.loadGlobal_builtin (by rw [eg]; exact B.glob.keeps kp) m2 (by rw [eb]; exact B.blt.keeps kp) ((B.bb _ nT).trans hT) ?_) dT)
  refine Calls.spliced_nil ?_
  obtain ⟨n, Pz, e1, Z, p, hx, _⟩ := kd
  unfold isiOf at hr
  rw [e1] at hr
  exact PySem.W.kia_one Z (B.kin.keeps kp) p (kit_ty hr) hx fun tk => hQ _ ⟨s.heap, tk, rfl, fun _ _ e => e⟩
theorem isInt_call {f : Addr} {x : Str} {params : Arguments} {sc : Scope} {dV kV doc pm cdv ct oc : Value} {an od : Option Addr} {osl : Array (Option Value)} {q1 q2 q3 q4 q5 q6 q7 q8 q9 q10 q11 : Pos} {A : Around} {R : Result → Shared → Prop} {s : Shared} {v : Value} {d : PyData} {P : Addr}
    (B : BaseOk F mg mb base) (lk : F.lookup f = some ⟨oc, od, .func (PySem.W.fnOf x x params (isIntBody q1 q2 q3 q4 q5 q6 q7 q8 q9 q10 q11) sc dV kV doc pm an cdv ct), osl⟩) (hcd : PySem.W.codeIn F cdv x = true)
    (m1 : mg "isinstance" = none) (m2 : mg "int" = none) (m3 : mg "bool" = none) (hb : BindsTo s (PySem.W.fnOf x x params (isIntBody q1 q2 q3 q4 q5 q6 q7 q8 q9 q10 q11) sc dV kV doc pm an cdv ct) ⟨[v], []⟩ [("value", v)])
    (hsc : sc = { kind := .function, names := [("value", .local), ("isinstance", .globalImplicit), ("int", .globalImplicit), ("bool", .globalImplicit)], isGenerator := false, isCoroutine := false })
    (hd : A.depth < recursionLimit) (kp : ∀ b o, base.get? b = some o → s.heap.get? b = some o) (kd : KitD F v d P s.heap) (hR : ∀ s', Keeps s s' → R (.ok (.ret (.bool (isIntD d)))) s') :
    codeAny (model prog w) A (.call (.ref f) ⟨[v], []⟩) R s := by
  subst hsc
  refine Att.call_fn (K := F) (B.kin.keeps kp) (B.lim.keeps kp) lk hcd hd hb rfl (fun s₁ IC => ?_) rfl rfl rfl
  obtain ⟨h₁, tk₁, rfl, k⟩ := IC.done
  have hn := IC.toInCall.ns
  have k0 : Keeps s { s with heap := h₁, toks := tk₁ } := ⟨h₁, tk₁, rfl, k⟩
  have kp1 : ∀ b o, base.get? b = some o → h₁.get? b = some o := fun b o e => k b o (kp b o e)
  have kd1 := kd.keep fun b o _ e => k b o e
  obtain ⟨n, Pz, e1, _⟩ := id kd
  have i1 : isiOf "int" d = some (isIB d) := by
    cases d <;> first | rfl | (cases e1)
  have i2 : isiOf "bool" d = some (isBD d) := by
    cases d <;> first | rfl | (cases e1)
  show wpAny _ _ (execs _ _) _ _ _
  refine wpAny_execs_cons (wpAny_Return_some (BoolOp_and ?_))
  refine isi_raw (s := { s with heap := h₁, toks := tk₁ }) (v := v) B rfl rfl rfl rfl rfl rfl m1 m2 (tn := "int") (by decide +kernel) (by decide) (by decide) kp1 hn (by first | rfl | with_unfolding_all rfl) kd1 i1 fun s2 k2 => ?_
  refine wpAny_truthy_bool ?_
  cases hd : isIB d with
  | false =>
    refine ite_ff ?_
    have e : isIntD d = false := by cases d <;> first | rfl | (cases hd)
    have z := hR s2 (Keeps.trans' k0 k2)
    rw [e] at z
    exact z
  | true =>
    refine ite_tt (BoolOp_one (UnaryOp_ ?_))
    obtain ⟨h2, t2, rfl, k2'⟩ := k2
    refine isi_raw (s := { s with heap := h2, toks := t2 }) (v := v) B rfl rfl rfl rfl rfl rfl m1 m3 (tn := "bool") (by decide +kernel) (by decide) (by decide) (fun b o e => k2' b o (kp1 b o e)) (hn.keeps k2') (by first | rfl | with_unfolding_all rfl) (kd1.keep fun b o _ e => k2' b o e) i2 fun s3 k3 => ?_
    refine PyProof.Rows.not_of (wpAny_truthy_bool ?_)
    have e : isIntD d = !(isBD d) := by cases d <;> first | rfl | (cases hd)
    have z := hR s3 (Keeps.trans' k0 (Keeps.trans' ⟨h2, t2, rfl, k2'⟩ k3))
    rw [e] at z
    exact z
end
end DL

set_option Elab.async false
set_option linter.all false
set_option maxRecDepth 100000
set_option maxHeartbeats 2000000
set_option autoImplicit false
namespace DL
open PySem PySem.Spec PyProof.Rows L2
section
variable {X : Cx} {pins : List (Addr × Obj)} {σ : L2.St} {H : Hp} {s : Shared}
theorem inv_gens {h' : Heap} {g' : Array GenState} {d' : Drawn} {t' : Nat} (I : Inv X pins σ H s) (k : ∀ b o, s.heap.get? b = some o → h'.get? b = some o) (hg : AllBare g') : Inv X pins σ H { s with heap := h', gens := g', drawn := d', toks := t' } :=
  I.step (g' := g') (d' := d') (ch := []) (fun b hb => absurd hb (by simp)) (fun b o _ _ _ e n => k b o e) (fun b o _ _ _ e n => ⟨o.slots, k b o e⟩) (fun b o _ e n => n) (fun b o _ e => ⟨o, k b o e⟩) (fun b xs e => e) (fun b o u e => e) (fun b qs e => ⟨#[], by simp [e]⟩)
    (fun m hn => let ⟨ob, es, ep, ho, r⟩ := hn; ⟨ob, es, ep, k _ ob ho, r⟩) (fun b u e => (I.hok b u e).stay (fun d v _ q => k d v q) (fun d q => q) fun d xs q => q) hg
theorem inv_table' {P c : Addr} {q : Str} {ps more : Array Value} {h' : Heap} {g' : Array GenState} {d' : Drawn} {t' : Nat} (I : Inv X pins σ H s) (hP : H P = some (.tbl ps)) (k : ∀ b o, b ≠ P → s.heap.get? b = some o → h'.get? b = some o)
    (hm : h'.get? P = some { cls := .none, data := .fields (ps ++ more) }) (hc : s.heap.objs.size ≤ c) (ho : ∃ (oc : Obj) (vs : Array Value) (t : Tok), h'.get? c = some oc ∧ oc.data = .fields vs ∧ vs[1]? = some (.str q t)) (hg : AllBare g') :
    Inv X pins σ (upd (upd H P (.tbl (ps ++ more))) c (LamX.CodeO c q)) { s with heap := h', gens := g', drawn := d', toks := t' } := by
  have nC : H c = none := I.hok.fresh hc
  have nPc : P ≠ c := ne_of_none hP nC
  have at_ : ∀ b, b ≠ P → b ≠ c → upd (upd H P (.tbl (ps ++ more))) c (LamX.CodeO c q) b = H b := fun b h1 h2 => by rw [upd_ne h2, upd_ne h1]
  have atP : upd (upd H P (.tbl (ps ++ more))) c (LamX.CodeO c q) P = some (.tbl (ps ++ more)) := by rw [upd_ne nPc, upd_same]
  have nP : ∀ b u, H b = some u → (∀ q, u ≠ .tbl q) → b ≠ P := fun b u e q z => by
    rw [z, hP] at e
    exact q ps (Option.some.inj e).symm
  have nN : ∀ b, H b = none → b ≠ P := fun b e z => by
    rw [z, hP] at e
    cases e
  have lt' : ∀ b o, s.heap.get? b = some o → b ≠ c := fun b o e z => by
    rw [z] at e
    exact Nat.lt_irrefl _ (Nat.lt_of_lt_of_le (Heap.lt_size e) hc)
  have sm : ∀ b u, H b = some u → b ≠ c := fun b u e => ne_of_none e nC
  refine I.step (g' := g') (d' := d') (ch := []) (fun b hb => absurd hb (by simp)) (fun b o _ _ _ e n => k b o (nN b n) e) (fun b o _ _ _ e n => ⟨o.slots, k b o (nN b n) e⟩)
    (fun b o _ e n => by rw [at_ b (nN b n) (lt' b o e)]; exact n) (fun b o _ e => ?_) (fun b xs e => by rw [at_ b (nP b _ e (fun q z => by cases z)) (sm b _ e)]; exact e) (fun b o u e => by rw [at_ b (nP b _ e (fun q z => by cases z)) (sm b _ e)]; exact e) (fun b qs e => ?_) (fun m hn => ?_) (fun b u e => ?_) hg
  · by_cases hb : b = P
    · rw [hb]
      exact ⟨_, hm⟩
    · exact ⟨o, k b o hb e⟩
  · by_cases hb : b = P
    · rw [hb, hP] at e
      cases e
      rw [hb, atP]
      exact ⟨more, rfl⟩
    · rw [at_ b hb (sm b _ e), e]
      exact ⟨#[], by simp⟩
  · obtain ⟨ob, es, ep, ho, r⟩ := hn
    exact ⟨ob, es, ep, k _ ob (nN _ I.free) ho, r⟩
  · by_cases hb : b = c
    · rw [hb, upd_same] at e
      cases e
      rw [hb]
      obtain ⟨oc, vs, t, e1, e2, e3⟩ := ho
      exact ⟨⟨oc, vs, t, e1, e2, e3⟩, ⟨oc, e1⟩, fun h1 h2 ⟨oc, vs, t, a, b, c⟩ st => ⟨oc, vs, t, st _ a, b, c⟩⟩
    · by_cases hb2 : b = P
      · rw [hb2, atP] at e
        cases e
        rw [hb2]
        exact hm
      · rw [at_ b hb2 hb] at e
        refine (I.hok b u e).stay (fun d v hd q => k d v ?_ q) (fun d q => by rw [at_ d (nP d _ q (fun q z => by cases z)) (sm d _ q)]; exact q) fun d xs q => by rw [at_ d (nP d _ q (fun q z => by cases z)) (sm d _ q)]; exact q
        rcases hd with z | z
        · rw [z]
          exact hb2
        · exact nP d _ z (fun q z => by cases z)
/-- a def that tells something of one value -/
def Tells (prog : Program) (w : World) (F : PySem.W.Frag) (base : Heap) (f : Addr) (b : PyData → Bool) : Prop := ∀ (A : Around) (R : Result → Shared → Prop) (s : Shared) (v : Value) (d : PyData) (P : Addr), A.depth < recursionLimit →
  (∀ b o, base.get? b = some o → s.heap.get? b = some o) → KitD F v d P s.heap → (∀ s', Keeps s s' → R (.ok (.ret (.bool (b d)))) s') → codeAny (model prog w) A (.call (.ref f) ⟨[v], []⟩) R s
def trD (b : PyData → Bool) (ds : List PyData) (j : Nat) : Bool := match ds[j]? with
  | some d => b d
  | none => false
theorem trD_some {b : PyData → Bool} {ds : List PyData} {j : Nat} {d : PyData} (h : ds[j]? = some d) : trD b ds j = b d := by
  unfold trD
  rw [h]
theorem all_trD (b : PyData → Bool) (ds : List PyData) : (List.range ds.length).all (trD b ds) = ds.all b := by
  rw [Bool.eq_iff_iff, List.all_eq_true, List.all_eq_true]
  constructor
  · intro h d hd
    obtain ⟨j, hj, e⟩ := List.getElem_of_mem hd
    have q := h j (List.mem_range.mpr hj)
    rw [trD_some (List.getElem?_eq_getElem hj), e] at q
    exact q
  · intro h j hj
    have hj' := List.mem_range.mp hj
    rw [trD_some (List.getElem?_eq_getElem hj')]
    exact h _ (List.getElem_mem hj')
/-- the generator g over ds, ready to be walked, in the state s5; H1: what was held before -/
def ReadyD (X : Cx) (pins : List (Addr × Obj)) (σ : L2.St) (H1 : Hp) (T : List (Addr × Str)) (b : PyData → Bool) (ds : List PyData) (g : Addr) (s5 : Shared) : Prop :=
  ∃ (fp wr : List Addr) (G : Array GenState → Array GenState → Prop) (F : Nat → Value → Prop) (St : Nat → Shared → Prop),
    WalksS X.prog X.w X.A.in1 g fp wr G ds.length F St ∧ St 0 s5 ∧ TruthOf X.prog X.w X.A.in1 F (trD b ds) ∧
    ∀ s', Moved wr G s5 s' → ∃ H2, (∀ b o, H1 b = some o → NT o → H2 b = some o) ∧ LamX.Tabs T H2 ∧ Inv X pins σ H2 s'
theorem gen_all {c P f : Addr} {iter : Expr} {x fx : Str} {px gpos p1 p2 p3 : Pos} {scope : Scope} {te : TE} {k : Nat} {b : PyData → Bool} {Q' : Value → Shared → Prop} {R : List PyData → Hp → Prop} {T : List (Addr × Str)}
    (hr : Room (k + 2) X.A) (TB : LamX.TabB X.base X.mg c P) (hcode : X.env.code = .ref c) (S : GxR.GenS X.env scope x) (hi : PE X iter te) (hmT : (P, X.env.qual ++ "<genexpr>") ∈ T) (hu : ∀ p ∈ T, p.1 = P → p.2 = X.env.qual ++ "<genexpr>")
    (hfx : scope.names.lookup fx = some .globalImplicit) (hmf : X.mg fx = some (.ref f)) (hkf : PySem.W.keepIn X.K (.ref f) = true) (hT : L2.Mod X.K X.mg X.base → Tells X.prog X.w X.K X.base f b) (hdf : (fx == ("__debug__" : Str)) = false) (hdx : (x == ("__debug__" : Str)) = false)
    (hs : ∀ v, genFold iter X.env v = pure v) (I : Inv X pins σ H s) (h : te σ H fun v H1 => ∃ a xs ds, v = .ref a ∧ H1 a = some (.tup xs) ∧ RpL H1 xs ds ∧ LamX.Tabs T H1 ∧ R ds H1)
    (hQ : ∀ ds H1 g s5, R ds H1 → ReadyD X pins σ H1 T b ds g s5 → Q' (.ref g) s5) :
    wpAny (model X.prog X.w) X.A (eval (.GeneratorExp (.Call (.Name fx p1) [.Name x p2] [] p3) [⟨.Name x px, iter, [], 0⟩] scope gpos) X.env) Q' X.xe s := by
  refine wpAny_GeneratorExp_walksQD hr.hd S.co (closure_ok S.free) S.cell S.dot S.loc S.kind (by have := hr.dp; omega) ?_ hs
  refine thn (hi.run pins s σ H _ I h) fun xv s1 ⟨v, H1, I1, r1, q1⟩ => ?_
  obtain ⟨a, xs, ds, rfl, ha, hds, hTs, q1⟩ := q1
  obtain rfl : xv = .ref a := r1
  obtain ⟨_, its, hvs, ht⟩ := (show ObjOk X.prog X.w H1 s1.heap a (.tup xs) from I1.hok a _ ha)
  have htI : s1.heap.IsTuple a its.toArray := by
    obtain ⟨o, e1, e2, e3⟩ := ht
    exact ⟨o, e1, e2, by first | exact e3 | exact ⟨_, e3⟩ | exact e3.1⟩
  obtain ⟨ps, hP, htr, hamong⟩ := hTs _ hmT
  refine wpAny_pyIter_tuple htI ?_
  have hPs : s1.heap.get? P = some { cls := .none, data := .fields ps } := I1.hok P _ hP
  have hPlt : P < s1.heap.objs.size := Heap.lt_size hPs
  have haP : a ≠ P := fun z => by
    have hP2 : H1 P = some (.tbl ps) := hP
    rw [z, hP2] at ha; cases ha
  have hlen : its.length = ds.length := by rw [← hvs.length, hds.length]
  have hal : a < s1.heap.objs.size := let ⟨o, e, _⟩ := htI; Heap.lt_size e
  have hkit : ∀ (i : Nat) (u : Value), its[i]? = some u → ∃ d, ds[i]? = some d ∧ KitD X.K u d P s1.heap := fun i u e => by
    have hi := (List.getElem?_eq_some_iff.mp e).1
    have hd : ds[i]? = some (ds[i]'(by omega)) := List.getElem?_eq_getElem _
    obtain ⟨v, e1, rp⟩ := hds.get hd
    obtain ⟨u', e2, rv⟩ := hvs.get e1
    rw [e] at e2
    cases e2
    exact ⟨_, hd, kitD_of I1 rv rp hP⟩
  generalize ho : ({ cls := .type "tuple_iterator", data := .fields #[.ref a, .int 0 0] } : Obj) = o
  have hP2 : (s1.heap.push o).get? P = some { cls := .none, data := .fields ps } := Heap.get?_push_of_some _ hPs
  have cd : PySem.W.CodeHd (s1.heap.push o) c P := TB.code.keeps fun b u e => Heap.get?_push_of_some _ (I1.bk b u e)
  have lim2 : (s1.heap.push o).NoLimit := I1.nolimit.push o
  have hit2 : (s1.heap.push o).IsTupleIter s1.heap.objs.size a 0 := ⟨o, Heap.get?_push_size _ (by rw [← ho]; rfl), by rw [← ho], by rw [← ho]; rfl⟩
  have hti2 : (s1.heap.push o).IsTuple a its.toArray := let ⟨u, e, r⟩ := htI; ⟨u, Heap.get?_push_of_some _ e, r⟩
  have sz2 : (s1.heap.push o).objs.size = s1.heap.objs.size + 1 := Heap.size_push ..
  -- behind the making of the code object: h3, with the code at `code`
  have cont : ∀ (code : Value) (h3 : Heap) (tk : Nat), Heap.ExtBut P (s1.heap.push o) h3 → (s1.heap.push o).objs.size ≤ h3.objs.size →
      (∀ s' : Shared, s'.os = s1.os → AllBare s'.gens → (∀ b u, b < h3.objs.size → b ≠ s1.heap.objs.size → h3.get? b = some u → s'.heap.get? b = some u) → ∃ H2, (∀ b o, H1 b = some o → NT o → H2 b = some o) ∧ LamX.Tabs T H2 ∧ Inv X pins σ H2 s') →
      wpAny (model X.prog X.w) X.A (builtinsFor X.env.globals X.env.builtins) (fun bi s₄ =>
        ∃ Ia fp wr n₀ Pf St₀ pz F, Value.ref s1.heap.objs.size = .ref Ia ∧ (∀ A' : Around, A'.handled = none → Walks X.prog X.w A' Ia fp wr n₀ Pf St₀) ∧ St₀ 0 s₄.heap ∧ (∀ b ∈ fp, b < s₄.heap.objs.size) ∧ s₄.heap.NoLimit ∧ cStatics ∉ wr ∧
          (∀ href : Heap, (∀ b o, s₄.heap.get? b = some o → href.get? b = some o) →
            QuietGenD X.prog X.w (genEnv scope (cloFrom X.env.cells scope.names []) s₄.heap.objs.size code bi X.env) x [] (.Call (.Name fx p1) [.Name x p2] [] p3) (List.range s₄.heap.objs.size) wr Pf pz F href (X.A.depth + 1) (X.A.units + 8)) ∧
          (∀ a h₅ tk gs, gs.bare = true → s₄.heap.objs.size < a → h₅.objs.size = a + 1 → (∀ b o, s₄.heap.get? b = some o → h₅.get? b = some o) →
            WalksS X.prog X.w X.A.in4 a (a :: s₄.heap.objs.size :: List.range s₄.heap.objs.size) (s₄.heap.objs.size :: wr) (GenOnlyQ s₄.gens.size) (passing pz n₀ 0).length
              (fun j y => ∃ i, (passing pz n₀ 0)[j]? = some i ∧ F i y) (GenAt X.prog X.w X.A.in4 a s₄.gens.size s₄.heap.objs.size (List.range s₄.heap.objs.size) wr pz n₀ F) →
            GenAt X.prog X.w X.A.in4 a s₄.gens.size s₄.heap.objs.size (List.range s₄.heap.objs.size) wr pz n₀ F 0 { s₄ with gens := s₄.gens.push gs, toks := tk, heap := h₅ } →
            Q' (.ref a) { s₄ with gens := s₄.gens.push gs, toks := tk, heap := h₅ })) X.xe { s1 with heap := h3, toks := tk } := by
    intro code h3 tk hx hsz hfin
    obtain ⟨bm, ob, e1, e2, e3, e4, e5, e6, e7, e8⟩ := TB.bm
    have hcP : cStatics ≠ P := fun e => by
      obtain ⟨_, hns, _⟩ := I1.nolimit
      obtain ⟨o', es, ep, ho, hd, _⟩ := hns
      rw [e, hPs] at ho
      cases ho
      cases hd
    have hcl : cStatics < s1.heap.objs.size := let ⟨_, hns, _⟩ := I1.nolimit; hns.lt
    have keep3 : ∀ b u, b ≠ P → s1.heap.get? b = some u → h3.get? b = some u := fun b u hb e => hx b u hb (Heap.get?_push_of_some _ e)
    have lim3 : h3.NoLimit := lim2.extBut hx hcP
    refine wpAny_builtinsFor (m := X.mg) (by rw [I1.ok.glob]; exact ((I1.mod.glob.keeps I1.bk).push o).extBut hx TB.gP) e1 e2 (keep3 _ _ e4 (I1.bk _ _ e5)) e6 e7 e8 ?_
    refine ⟨s1.heap.objs.size, [s1.heap.objs.size, a], [s1.heap.objs.size], its.toArray.size, (fun i v => its.toArray[i]? = some v), (fun i h => h.IsTupleIter s1.heap.objs.size a i ∧ h.IsTuple a its.toArray), (fun _ => true), (fun i y => ∃ d, ds[i]? = some d ∧ y = .bool (b d)), rfl,
      fun A' hA => Walks.tuple hA _ _ (Nat.ne_of_lt hal) _, ⟨?_, ?_⟩, ?_, lim3, ?_, ?_, ?_⟩
    · obtain ⟨u, e, r⟩ := hit2
      exact ⟨u, hx _ u (Nat.ne_of_gt hPlt) e, r⟩
    · obtain ⟨u, e, r⟩ := hti2
      exact ⟨u, hx _ u haP e, r⟩
    · intro b hb
      show b < h3.objs.size
      rcases List.mem_cons.mp hb with z | z
      · rw [z]; exact Nat.lt_of_lt_of_le (by rw [sz2]; exact Nat.lt_succ_self _) hsz
      · rcases List.mem_cons.mp z with z | z
        · rw [z]; exact Nat.lt_of_lt_of_le (Nat.lt_trans hal (by rw [sz2]; exact Nat.lt_succ_self _)) hsz
        · cases z
    · intro z
      rcases List.mem_cons.mp z with z | z
      · exact Nat.ne_of_lt hcl z
      · cases z
    · intro href hhref
      refine ⟨fun A' E' i v s₂ m₂ hA _ _ hPv hn hm hk => ?_, fun A' E' i v s₂ m₂ hA hdep huni hPv hp hn hm hk => ?_⟩
      · simp only [List.forIn_nil]
        exact wpAny_pure ⟨rfl, GxR.keeps_refl _⟩
      · have hPv' : its[i]? = some v := by rw [← List.getElem?_toArray]; exact hPv
        obtain ⟨d, hd, kd⟩ := hkit i v hPv'
        have up : ∀ b u, b ≠ P → s1.heap.get? b = some u → s₂.heap.get? b = some u := fun b u hb e => by
          have e3 := keep3 b u hb e
          have hl := Heap.lt_size e
          refine hk b (List.mem_range.mpr (Heap.lt_size e3)) (fun z => ?_) u (hhref b u e3)
          rcases List.mem_cons.mp z with z | z
          · rw [z] at hl; exact Nat.lt_irrefl _ hl
          · cases z
        have bsk : ∀ b u, X.base.get? b = some u → s₂.heap.get? b = some u := fun b u e => up b u (fun z => by
          have h0 := (I1.bs b u e).2
          have h1 : H1 P = some (.tbl ps) := hP
          rw [z, h1] at h0; cases h0) (I1.bk b u e)
        refine wpAny_Call_Name_kw (Calls.Name_function_global S.kind (show scope.names.lookup fx = some .globalImplicit from hfx) (Calls.loadGlobal_global (mg := X.mg) (show s₂.heap.Ns X.env.globals X.mg by rw [I1.ok.glob]; exact I1.mod.glob.keeps bsk) hmf ?_) hdf)
        refine PySem.W.callWith_K (h₀ := X.base) (K := X.K) I1.ok.mod.kin hkf ?_ (by rfl) (by rfl)
        show wpAny _ _ (spliced ((false, eval (.Name x p2) _) :: [])) _ _ s₂
        refine Calls.spliced_cons (wpAny_Name (wpAny_loadName_local S.kind (show scope.names.lookup x = some .local from S.loc) hn hm ?_) hdx)
        refine Calls.spliced_nil ⟨I1.ok.mod.kin.keeps bsk, ?_⟩
        have hlt : A'.depth < recursionLimit := by have := hr.dp; omega
        exact wpAny_call (hT I1.ok.mod A' _ s₂ v d P hlt bsk (kd.keep up) fun s' hs' => ⟨⟨d, hd, rfl⟩, hs'⟩)
    · intro g h5 tk5 gs hgb hag hsz5 hk5 W5 hat
      simp only [GxR.passing_true, List.length_range] at W5
      have hn0 : its.toArray.size = ds.length := by rw [List.size_toArray, hlen]
      rw [hn0] at W5 hat
      refine hQ ds H1 g _ q1 ⟨_, _, _, _, _, W5.in4_1, hat, ?_, fun s' hm => ?_⟩
      · intro j y sj Qj Ej hy hQj
        obtain ⟨i, hij, d, hd, rfl⟩ := hy
        obtain ⟨hj, ej⟩ := List.getElem?_eq_some_iff.mp hij
        rw [List.getElem_range] at ej
        subst ej
        have hQ2 : Qj (trD b ds j) sj := hQj
        rw [trD_some hd] at hQ2
        exact wpAny_truthy_bool hQ2
      · refine hfin s' hm.os (AllBare.movedS (I1.bare.push hgb) hm) fun b u hl hne e => hm.heap b u (fun z => ?_) (hk5 b u e)
        rcases List.mem_cons.mp z with z | z
        · rw [z] at hl
          exact Nat.lt_irrefl _ hl
        · rcases List.mem_cons.mp z with z | z
          · exact hne z
          · cases z
  refine ⟨lim2, ?_⟩
  cases hf : codeAmong gpos ps.toList with
  | none =>
    refine wpAny_genexprCodeX hcode (cd.code hP2 htr) (cd.tab hP2) hf fun c' h' tk hx hge hlt hco' hrec htab' _ => ?_
    obtain ⟨o1, vs, f1, tf, fl, tg, inF, tx, tt, op, _, _, _, _, _, _, _, _, _, htr', _⟩ := hco'
    refine cont _ h' tk hx (Nat.le_trans hge (Nat.le_of_lt hlt)) fun s' hos hgb hk => ?_
    have hge' : s1.heap.objs.size + 1 ≤ c' := Nat.le_trans (Nat.le_of_eq sz2.symm) hge
    have hcge : s1.heap.objs.size ≤ c' := Nat.le_trans (Nat.le_succ _) hge'
    have nC : H1 c' = none := I1.hok.fresh hcge
    obtain ⟨c2, oc, vs2, t2, e2, hoc, hdc, hvc⟩ := hrec
    cases e2
    have J := inv_table' (c := c') (q := X.env.qual ++ "<genexpr>") (more := #[rawInt gpos.line, rawInt gpos.col, .ref c']) (h' := s'.heap) (g' := s'.gens) (d' := s'.drawn) (t' := s'.toks) I1 hP
      (fun b u hb e => hk b u (Heap.lt_size (hx b u hb (Heap.get?_push_of_some _ e))) (Nat.ne_of_lt (Heap.lt_size e)) (hx b u hb (Heap.get?_push_of_some _ e)))
      (hk P _ (Nat.lt_trans (Nat.lt_of_lt_of_le hPlt hcge) hlt) (Nat.ne_of_lt hPlt) htab'.2) hcge ⟨oc, vs2, t2, hk c' _ hlt (Nat.ne_of_gt hge') hoc, hdc, hvc⟩ hgb
    rw [GxR.sh_eta s1 s' hos] at J
    refine ⟨_, fun b u e n => ?_, fun p hp => ?_, J⟩
    · rw [upd_ne (ne_of_none e nC), upd_ne (fun z => n ps (Option.some.inj (e.symm.trans (by rw [z]; exact hP))))]
      exact e
    · by_cases hb : p.1 = P
      · rw [hu p hp hb, hb]
        have eL : (ps ++ #[rawInt gpos.line, rawInt gpos.col, .ref c']).toList = ps.toList ++ [rawInt gpos.line, rawInt gpos.col, .ref c'] := by simp
        refine ⟨_, by rw [upd_ne (ne_of_none hP nC), upd_same], by rw [eL]; exact PySem.TriplesOk_snoc _ _ _ _ htr, fun p' cv hcv => ?_⟩
        rw [eL] at hcv
        rcases LamX.among_app _ htr hcv with z | z
        · obtain ⟨c0, e1, e2⟩ := hamong p' cv z
          refine ⟨c0, e1, ?_⟩
          rw [upd_ne (ne_of_none e2 nC), upd_ne (fun z => by rw [z] at e2; have h1 : H1 P = some (.tbl ps) := hP; rw [h1] at e2; exact LamX.codeO_ne ps (Option.some.inj e2).symm)]
          exact e2
        · exact ⟨c', z, upd_same⟩
      · obtain ⟨ps', a1, a2, a3⟩ := hTs p hp
        refine ⟨ps', by rw [upd_ne (ne_of_none a1 nC), upd_ne hb]; exact a1, a2, fun p' cv hcv => ?_⟩
        obtain ⟨c0, e1, e2⟩ := a3 p' cv hcv
        refine ⟨c0, e1, ?_⟩
        rw [upd_ne (ne_of_none e2 nC), upd_ne (fun z => by rw [z] at e2; have h1 : H1 P = some (.tbl ps) := hP; rw [h1] at e2; exact LamX.codeO_ne ps (Option.some.inj e2).symm)]
        exact e2
  | some cv =>
    refine wpAny_genexprCode_hit hcode (cd.code hP2 htr) hf ?_
    refine cont cv (s1.heap.push o) s1.toks (Heap.ExtBut.refl _ _) (Nat.le_refl _) fun s' hos hgb hk => ?_
    have J := inv_gens (h' := s'.heap) (g' := s'.gens) (d' := s'.drawn) (t' := s'.toks) I1 (fun b u e => hk b u (Nat.lt_trans (Heap.lt_size e) (by rw [sz2]; exact Nat.lt_succ_self _)) (Nat.ne_of_lt (Heap.lt_size e)) (Heap.get?_push_of_some _ e)) hgb
    rw [GxR.sh_eta s1 s' hos] at J
    exact ⟨H1, fun _ _ e _ => e, hTs, J⟩
def tAllG (T : List (Addr × Str)) (b : PyData → Bool) (te : TE) : TE := fun σ H Q => te σ H fun v H1 => ∃ a xs ds, v = .ref a ∧ H1 a = some (.tup xs) ∧ RpL H1 xs ds ∧ LamX.Tabs T H1 ∧
  ∀ H2, (∀ b o, H1 b = some o → NT o → H2 b = some o) → LamX.Tabs T H2 → Q (.bl (ds.all b)) H2
theorem pe_allG {c P f : Addr} {iter : Expr} {x fx : Str} {px p pos gpos p1 p2 p3 : Pos} {scope : Scope} {te : TE} {k : Nat} {b : PyData → Bool} {T : List (Addr × Str)}
    (hr : Room (k + 2) X.A) (hg : Gl X "all") (hm : X.mg "all" = none) (TB : LamX.TabB X.base X.mg c P) (hcode : X.env.code = .ref c) (S : GxR.GenS X.env scope x) (hi : PE X iter te) (hmT : (P, X.env.qual ++ "<genexpr>") ∈ T) (hu : ∀ p ∈ T, p.1 = P → p.2 = X.env.qual ++ "<genexpr>")
    (hfx : scope.names.lookup fx = some .globalImplicit) (hmf : X.mg fx = some (.ref f)) (hkf : PySem.W.keepIn X.K (.ref f) = true) (hT : L2.Mod X.K X.mg X.base → Tells X.prog X.w X.K X.base f b) (hdf : (fx == ("__debug__" : Str)) = false) (hdx : (x == ("__debug__" : Str)) = false)
    (hs : ∀ v, genFold iter X.env v = pure v)
    (he : starEach [.GeneratorExp (.Call (.Name fx p1) [.Name x p2] [] p3) [⟨.Name x px, iter, [], 0⟩] scope gpos] X.env = (false, eval (.GeneratorExp (.Call (.Name fx p1) [.Name x p2] [] p3) [⟨.Name x px, iter, [], 0⟩] scope gpos) X.env) :: starEach [] X.env := by rfl) :
    PE X (.Call (.Name "all" p) [.GeneratorExp (.Call (.Name fx p1) [.Name x p2] [] p3) [⟨.Name x px, iter, [], 0⟩] scope gpos] [] pos) (tAllG T b te) := by
  refine ⟨fun pins s σ H Q I h => ?_⟩
  refine wpAny_Call_Name_kw (ld_blt I hg hm bb_all ?_)
  refine PyProof.Rows.callWith_builtin1 ?_ he (by rfl)
  rw [he]
  show wpAny _ _ (spliced ((false, eval (.GeneratorExp (.Call (.Name fx p1) [.Name x p2] [] p3) [⟨.Name x px, iter, [], 0⟩] scope gpos) X.env) :: backTo pos (starEach [] X.env))) _ _ s
  refine Calls.spliced_cons (gen_all (R := fun ds H1 => ∀ H2 : Hp, (∀ (b : Addr) (o : HO), H1 b = some o → NT o → H2 b = some o) → LamX.Tabs T H2 → Q (.bl (ds.all b)) H2) hr TB hcode S hi hmT hu hfx hmf hkf hT hdf hdx hs I h fun ds H1 g s5 hR hG => ?_)
  obtain ⟨fp, wr, G, F, St, W, hst, htr, hI⟩ := hG
  refine Calls.spliced_nil ?_
  refine call_all_walkS (W.self 0 _ _ _ hst ⟨g, fp, wr, G, _, F, St, _, rfl, W, hst, htr, fun s' hmv => ?_⟩)
  obtain ⟨H2, hK, hT2, J⟩ := hI s' hmv
  refine ⟨.bl _, H2, J, rfl, ?_⟩
  rw [all_trD b ds]
  exact hR H2 hK hT2
def gAll (b : PyData → Bool) (g : GE) : GE := fun ρ cu => (g ρ cu).bind fun d cu1 => match d with
  | .tuple ds => .ok (.bool (ds.all b)) cu1
  | _ => .stuck
theorem pd_all {K : Kx} {E : XK} {c P f : Addr} {iter : Expr} {x fx : Str} {px p pos gpos p1 p2 p3 : Pos} {scope : Scope} {te : TE} {ge : GE} {k : Nat} {b : PyData → Bool}
    (hr : Room (k + 2) X.A) (hg : Gl X "all") (hm : X.mg "all" = none) (TB : LamX.TabB X.base X.mg c P) (hcode : X.env.code = .ref c) (S : GxR.GenS X.env scope x) (hi : PD X K E iter te ge) (hmT : (P, X.env.qual ++ "<genexpr>") ∈ K.T) (hu : ∀ p ∈ K.T, p.1 = P → p.2 = X.env.qual ++ "<genexpr>")
    (hfx : scope.names.lookup fx = some .globalImplicit) (hmf : X.mg fx = some (.ref f)) (hkf : PySem.W.keepIn X.K (.ref f) = true) (hT : L2.Mod X.K X.mg X.base → Tells X.prog X.w X.K X.base f b) (hdf : (fx == ("__debug__" : Str)) = false) (hdx : (x == ("__debug__" : Str)) = false)
    (hs : ∀ v, genFold iter X.env v = pure v)
    (he : starEach [.GeneratorExp (.Call (.Name fx p1) [.Name x p2] [] p3) [⟨.Name x px, iter, [], 0⟩] scope gpos] X.env = (false, eval (.GeneratorExp (.Call (.Name fx p1) [.Name x p2] [] p3) [⟨.Name x px, iter, [], 0⟩] scope gpos) X.env) :: starEach [] X.env := by rfl) :
    PD X K E (.Call (.Name "all" p) [.GeneratorExp (.Call (.Name fx p1) [.Name x p2] [] p3) [⟨.Name x px, iter, [], 0⟩] scope gpos] [] pos) (tAllG K.T b te) (gAll b ge) := by
  refine ⟨pe_allG hr hg hm TB hcode S hi.pe hmT hu hfx hmf hkf hT hdf hdx hs he, fun c0 H0 G0 σ H G ρ cu Q s q => ?_⟩
  refine hi.sem c0 H0 G0 σ H G ρ cu _ s (q.bind.imp fun d H1 G1 cu1 x1 w1 q1 v rv => ?_)
  split at q1
  · rename_i ds
    obtain ⟨a, xs, rfl, e1, r1⟩ := rv.tup_of
    refine ⟨a, xs, ds, rfl, w1.sub _ _ e1, r1.mono w1.sub, w1.tab, fun H2 k2 T2 => ?_⟩
    have x2 : Ext c0 H1 G1 H2 G1 := ⟨fun b o e n _ => k2 b o e n, fun b o e n => ⟨o, k2 b o e n, n⟩, fun _ _ e => e, fun _ _ _ _ e => e⟩
    have w2 : Wd K c0 H2 G1 cu1 := by
      refine ⟨fun b o e => k2 b o (w1.sub _ _ e) fun ps z => w1.nt b ps (by rw [← z]; exact e), T2, w1.nt, fun a ha => ?_⟩
      obtain ⟨h1, h2⟩ := w1.cup a ha
      exact ⟨k2 _ _ h1 nt_lst, h2⟩
    exact q1 H2 G1 x2 w2 _ (.bl _)
  · exact q1.elim
end
/-- the def is one that tells whether its value is an integer -/
theorem tells_int {prog : Program} {w : World} {F : PySem.W.Frag} {mg : Str → Option Value} {base : Heap} {st : Stmt} {f : Addr} {fd : FuncData} (M : L2.Mod F mg base) (Fn : Fun F "is_integer" "is_integer" st f fd) (hb : L2.Binds F fd ["value"] [])
    (hst : ∃ q1 q2 q3 q4 q5 q6 q7 q8 q9 q10 q11 : Pos, defBody st = isIntBody q1 q2 q3 q4 q5 q6 q7 q8 q9 q10 q11) (hsc : defScope st = { kind := .function, names := [("value", .local), ("isinstance", .globalImplicit), ("int", .globalImplicit), ("bool", .globalImplicit)], isGenerator := false, isCoroutine := false })
    (m1 : mg "isinstance" = none) (m2 : mg "int" = none) (m3 : mg "bool" = none) : Tells prog w F base f isIntD := by
  obtain ⟨q1, q2, q3, q4, q5, q6, q7, q8, q9, q10, q11, hst⟩ := hst
  obtain ⟨mb, hbl, hbb⟩ := M.blt
  have B : BaseOk F mg mb base := ⟨M.kin, M.glob, hbl, hbb, M.nolimit⟩
  obtain ⟨oc, od, kV, doc, pm, an, cdv, ct, osl, rfl, lk, hcd⟩ := Fn.ex
  rw [hst] at lk hb
  intro A R s v d P hd kp kd hR
  exact isInt_call B lk hcd m1 m2 m3 (hb s [v] (B.kin.keeps kp) rfl) hsc hd kp kd hR
theorem gens_by {env : Env} {scope : Scope} {x : Str} (h1 : scope.kind = .function) (h2 : scope.isCoroutine = false) (h3 : ∀ y ∈ scope.names, y.2 ≠ .cell ∧ y.2 ≠ .free) (h4 : scope.names.lookup (".0" : Str) = some NameKind.local) (h5 : scope.names.lookup x = some .local) : GxR.GenS env scope x :=
  ⟨h1, h2, fun y hy => (h3 y hy).1, h4, h5, fun y hy e => absurd e (h3 y hy).2⟩
/-- a def whose code object is known -/
structure FunK (K : PySem.W.Frag) (x qual : Str) (st : Stmt) (f : Addr) (fd : FuncData) (c : Addr) : Prop where
  ex : ∃ (oc : Value) (od : Option Addr) (kV doc pm : Value) (an : Option Addr) (ct : Value) (osl : Array (Option Value)),
    fd = PySem.W.fnOf x qual (defArgs st) (defBody st) (defScope st) .none kV doc pm an (.ref c) ct ∧ K.lookup f = some ⟨oc, od, .func fd, osl⟩ ∧ PySem.W.codeIn K (.ref c) qual = true
  kp : PySem.W.keepIn K (.ref f) = true
theorem FunK.fn {K : PySem.W.Frag} {x qual : Str} {st : Stmt} {f : Addr} {fd : FuncData} {c : Addr} (F : FunK K x qual st f fd c) : Fun K x qual st f fd := by
  obtain ⟨oc, od, kV, doc, pm, an, ct, osl, h1, h2, h3⟩ := F.ex
  exact ⟨⟨oc, od, kV, doc, pm, an, .ref c, ct, osl, h1, h2, h3⟩, F.kp⟩
theorem ok_defK {P : Program} {w : World} {F : PySem.W.Frag} {mg : Str → Option Value} {base : Heap} {K : Kx} {x qual : Str} {st : Stmt} {f c : Addr} {fd : FuncData} {N ps : List Str} {k : Nat} {g : GS} (Fn : FunK F x qual st f fd c) (S : FnScope N ps (defScope st))
    (hbody : ∀ (A : Around) (outer : List Env) (s : Shared) (H : Hp) (E : XK), Room k (A.deeper (envOfC qual (defScope st) s.heap.objs.size f (.ref c))) →
      ∃ t, PSsD (cxOf (L2.CX P w) P w F mg base N qual (defScope st) f (.ref c) A outer s H E) K E (defBody st) t g) :
    FnOk P w F mg base (L2.CX P w) (k + 1) f fd ps (spG K ps.length (gFn N.length g)) := by
  obtain ⟨oc, od, kV, doc, pm, an, ct, osl, rfl, lk, hcd⟩ := Fn.ex
  refine fn_of lk hcd S (fun vs H Q E h => ?_) (fun A outer s H vs Q E hr h => ?_)
  · obtain ⟨c, G, as, cu, h1, _, h3, _⟩ := h
    rw [h3.length, h1]
  · obtain ⟨c, G, as, cu, h1, wd, h3, q⟩ := h
    obtain ⟨t, ht⟩ := hbody A outer s H E hr
    refine ⟨t, ht.ps, ht.sem c H G (L2.start N vs) H G _ cu _ ⟨wd, Ext.refl, rep_start h3⟩ ?_⟩
    unfold gFn at q
    cases hg : g (as ++ List.replicate (N.length - as.length) .un) cu with
    | stuck => rw [hg] at q; exact q
    | exc k cu1 => rw [hg] at q; exact q
    | ok o cu1 =>
      rw [hg] at q
      cases o with
      | nx ρ' => exact fun σ' H' G' s' => q H' G' s'.ext s'.wd _ .non
      | ret d => exact fun v H' G' x w r => q H' G' x w v r
      | brk ρ' => exact q.elim
      | ct ρ' => exact q.elim
end DL

set_option Elab.async false
set_option linter.all false
set_option maxRecDepth 100000
set_option maxHeartbeats 2000000
set_option autoImplicit false
namespace DL
open PySem PySem.Spec PyProof.Rows L2
/-! ### at one state -/
def AtE (K : Kx) (E : XK) (c : Option Addr) (σ : L2.St) (H G : Hp) (t : TE) (r : Rs PyData) : Prop := ∀ Q : VK, Post K E c H G r (QD Q) → t σ H Q
section
variable {K : Kx} {E : XK} {c : Option Addr} {H0 G0 H G : Hp} {σ : L2.St} {ρ : En} {cu : Cu} {ta tb : TE} {ra : Rs PyData}
theorem at_op {r : R2} {f : PyData → PyData → Option PyData} {gb : GE} (s : SRep K c H0 G0 σ H G ρ cu) (hf : OpD K r f) (ha : AtE K E c σ H G ta ra) (hb : SemE K E tb gb) :
    AtE K E c σ H G (tOp r ta tb) (ra.bind fun a cu1 => (gb ρ cu1).bind fun b cu2 => .ofO (f a b) cu2) := by
  intro Q q
  refine ha _ (q.bind.imp fun a H1 G1 cu1 x1 w1 q1 v rv => ?_)
  have s1 := s.go x1 w1
  refine hb c H0 G0 σ H1 G1 ρ cu1 _ s1 (q1.bind.imp fun b H2 G2 cu2 x2 w2 q2 w rw' => ?_)
  obtain ⟨z, e, q3⟩ := q2.ofO
  exact hf c H2 G2 cu2 v w a b z Q w2 (rv.mono x2.g) rw' e fun v' H' G' x w => q3 H' G' x w v'
theorem at_call1 {r : List V → Hp → VK → Prop} {f : List PyData → Option PyData} (hf : CallD K r f) (ha : AtE K E c σ H G ta ra) : AtE K E c σ H G (tCB r (tCons ta tNil)) (ra.bind fun a cu1 => .ofO (f [a]) cu1) := by
  intro Q q
  refine ha _ (q.bind.imp fun a H1 G1 cu1 x1 w1 q1 v rv => ?_)
  obtain ⟨z, ez, q2⟩ := q1.ofO
  exact hf c H1 G1 cu1 [v] [a] z Q w1 (.cons rv .nil) ez fun v' H' G' x w rr => q2 H' G' x w v' rr
end
/-! ### the cup -/
def cup0 (cell : Int) : Cu := (if cell ≥ 10 ^ 18 then cell.fdiv 67 else 0, (cell * 277 + 2609).fmod 2077503167 + 163)
def cell0 (ns : List Int) : Int := match ns with
  | [] => 0
  | i :: _ => if i < 0 then -i else i
theorem rpl_ints {G : Hp} : ∀ ns : List Int, RpL G (ns.map V.int) (ns.map PyData.int)
  | [] => .nil
  | i :: r => .cons (.int i) (rpl_ints r)
/-- list(script) -/
theorem at_script {K : Kx} {E : XK} {F : PySem.W.Frag} {H : Hp} {σ : L2.St} {a : Addr} {ns : List Int} {cu : Cu} {i : Nat} {G : Hp} (w : Wd K none H G cu) (hs : σ[i]? = some (some (V.ref a))) (hS : SqL F H a (ns.map V.int)) :
    AtE K E none σ H G (tCB (fun xs H Q => ∃ p ys, xs = [.ref p] ∧ (SqL F H p ys ∨ SqT F H p ys) ∧ ∀ l, H l = none → Q (.ref l) (upd H l (.lst ys))) (tCons (tVar i) tNil)) (.ok (.list (ns.map .int)) cu) :=
  fun Q q => ⟨_, hs, a, _, rfl, .inl hS, fun l hl => new_lst w (rpl_ints ns) (fun v' H' G' x w' r => q H' G' x w' v' r) hl⟩
/-- what is wanted of a def that makes the cup -/
def spCup (K : Kx) (F : PySem.W.Frag) : Sp := fun vs H Q _ => ∃ (a : Addr) (ns : List Int), vs = [.ref a] ∧ SqL F H a (ns.map V.int) ∧ ns.length ≤ 63 ∧ LamX.Tabs K.T H ∧
  ∀ (p : Addr) (H' : Hp), H' p = some (.lst [.int (cup0 (cell0 ns)).1, .int (cup0 (cell0 ns)).2]) → LamX.Tabs K.T H' → Q (.ref p) H'
/-- nothing known, no cup -/
theorem srep0 {K : Kx} {H : Hp} {σ : L2.St} {n : Nat} {cu : Cu} (hT : LamX.Tabs K.T H) (hl : σ.length = n) : SRep K none H (fun _ => none) σ H (fun _ => none) (List.replicate n .un) cu := by
  have un : ∀ (i : Nat) (s : Sl), (List.replicate n Sl.un)[i]? = some s → s = .un := fun i s e => by
    rw [List.getElem?_replicate] at e
    split at e
    · exact (Option.some.inj e).symm
    · cases e
  have w : Wd K none H (fun _ => none) cu := ⟨fun b o e => (nomatch e), hT, fun b ps z => (nomatch z), fun a z => (nomatch z)⟩
  refine ⟨w, Ext.refl, by rw [List.length_replicate, hl], fun i d e => (nomatch un i _ e), fun i e => (nomatch un i _ e), fun _ => 0, fun i ds e => (nomatch un i _ e), fun i j ds es e => (nomatch un i _ e)⟩
/-- a list that nothing else knows, as the cup -/
theorem sem_cup {K : Kx} {E : XK} {t : TE} {g : GI} (h : SemF K E t g) {c : Option Addr} {H0 G0 H G : Hp} {σ : L2.St} {ρ : En} {cu cu1 : Cu} {x y : Int} (s : SRep K c H0 G0 σ H G ρ cu) (hg : g ρ cu = .ok [.int x, .int y] cu1) {Q : VK}
    (hQ : ∀ (p : Addr) (H' : Hp), H' p = some (.lst [.int x, .int y]) → LamX.Tabs K.T H' → Q (.ref p) H') : t σ H Q := by
  refine h c H0 G0 σ H G ρ cu Q s ?_
  rw [hg]
  intro H' G' x' w a xs ha e r _
  obtain ⟨v, v2, rfl, r1, r2⟩ := r.two
  rw [r1.int_of, r2.int_of] at e
  exact hQ a H' e w.tab
theorem at_seq_set {K : Kx} {E : XK} {c : Option Addr} {σ : L2.St} {H G : Hp} {te : TE} {r : Rs PyData} {i : Nat} {u : TS} {D : Ends} (h : AtE K E c σ H G te r) (q : Post K E c H G r (fun d H1 G1 _ => ∀ v, Rp G1 v d → u D (σ.set i (some v)) H1)) : tSeq (tAsg te (gName i)) u D σ H := h _ q
theorem ret_cup {K : Kx} {E : XK} {t : TE} {g : GI} (h : SemF K E t g) {c : Option Addr} {H0 G0 H G : Hp} {σ : L2.St} {ρ : En} {cu cu1 : Cu} {x y : Int} (s : SRep K c H0 G0 σ H G ρ cu) (hg : g ρ cu = .ok [.int x, .int y] cu1) {D : Ends}
    (hQ : ∀ (p : Addr) (H' : Hp), H' p = some (.lst [.int x, .int y]) → LamX.Tabs K.T H' → D.rt (.ref p) H') : tRet t D σ H := sem_cup h s hg hQ
theorem ret_own {X : Cx} {K : Kx} {E : XK} {e : Expr} {t : TE} {g : GI} {pos : Pos} (h : PFD X K E e t g) : ∃ t2, PSs X [.Return (some e) pos] (tRet t2) ∧ SemF K E t2 g := ⟨t, pss_one (ps_ret h.pe), h.sem⟩
theorem passLam {X : Cx} {A : Around} {outer : List Env} {s : Shared} {H : Hp} {E : XK} {scope : Scope} {f c' : Addr} : Passes (L2.CX (LamX.lamCx X A outer s H E scope f c').prog (LamX.lamCx X A outer s H E scope f c').w) (LamX.lamCx X A outer s H E scope f c') E := passes_call (takes_of rfl rfl rfl rfl) fun _ _ _ _ h => h
/-- what a law's own def keeps: the cup made of the script, then g -/
def spLaw (K : Kx) (F : PySem.W.Frag) : Sp := fun vs H Q _ => ∃ (a : Addr) (ns : List Int), vs = [.ref a] ∧ SqL F H a (ns.map V.int) ∧ ns.length ≤ 63 ∧ LamX.Tabs K.T H ∧ ∀ H', Q (.bl true) H'
theorem srep_cup {K : Kx} {H : Hp} {σ : L2.St} {n : Nat} {p : Addr} {x y : Int} (hT : LamX.Tabs K.T H) (hp : H p = some (.lst [.int x, .int y])) (hl : σ.length = n + 2) (hs : σ[1]? = some (some (V.ref p))) :
    SRep K (some p) H (fun _ => none) σ H (fun _ => none) (.un :: .cup :: List.replicate n .un) (x, y) := by
  have un : ∀ (i : Nat) (s : Sl), (Sl.un :: Sl.cup :: List.replicate n Sl.un)[i]? = some s → s = .un ∨ (s = .cup ∧ i = 1) := fun i s e => by
    match i, e with
    | 0, e => exact .inl (Option.some.inj e).symm
    | 1, e => exact .inr ⟨(Option.some.inj e).symm, rfl⟩
    | i + 2, e =>
      have e' : (List.replicate n Sl.un)[i]? = some s := e
      rw [List.getElem?_replicate] at e'
      split at e'
      · exact .inl (Option.some.inj e').symm
      · cases e'
  have w : Wd K (some p) H (fun _ => none) (x, y) := ⟨fun b o e => (nomatch e), hT, fun b ps z => (nomatch z), fun a z => by cases z; exact ⟨hp, rfl⟩⟩
  refine ⟨w, Ext.refl, ⟨by rw [hl]; simp, fun i d e => ?_, fun i e => ?_, fun _ => 0, fun i ds e => ?_, fun i j ds es e => ?_⟩⟩
  · rcases un i _ e with z | z
    · cases z
    · cases z.1
  · rcases un i _ e with z | z
    · cases z
    · rw [z.2]; exact ⟨p, rfl, hs⟩
  · rcases un i _ e with z | z
    · cases z
    · cases z.1
  · rcases un i _ e with z | z
    · cases z
    · cases z.1
theorem ok_law {P : Program} {w : World} {F : PySem.W.Frag} {mg : Str → Option Value} {base : Heap} {K : Kx} {st : Stmt} {f c fc : Addr} {fd fdc : FuncData} {N : List Str} {n k kc : Nat} {g : GS} {px pe pc pp sp : Pos} {rest : List Stmt}
    (Fn : FunK F "law" "law" st f fd c) (S : FnScope N ["_law_script"] (defScope st)) (hN : N.length = n + 2) (hN1 : N[1]? = some ("_law_cup_here" : Str)) (hN0 : N[0]? = some ("_law_script" : Str)) (hl1 : Loc (defScope st) ("_law_cup_here" : Str)) (hl0 : Vis (defScope st) ("_law_script" : Str))
    (hgl : (defScope st).names.lookup ("_law_cup" : Str) = some NameKind.globalImplicit)
    (hst : defBody st = .Assign [.Name "_law_cup_here" px] (.Call (.Name "_law_cup" pc) [.Name "_law_script" pe] [] pp) sp :: rest) (hcup : FnOk P w F mg base (L2.CX P w) kc fc fdc ["_law_script"] (spCup K F)) (hmc : mg "_law_cup" = some (.ref fc)) (hkc : PySem.W.keepIn F (.ref fc) = true) (hbc : L2.Binds F fdc ["_law_script"] []) (hkk : kc ≤ k)
    (hsw : ∀ (L : Nat), swapsWith (.Call (.Name "_law_cup" pc) [.Name "_law_script" pe] [] pp) (some (.Name "_law_cup_here" px)) sp.line (envOfC "law" (defScope st) L f (.ref c)) = pure false)
    (hbody : ∀ (A : Around) (outer : List Env) (s : Shared) (H : Hp) (E : XK), Room k (A.deeper (envOfC "law" (defScope st) s.heap.objs.size f (.ref c))) →
      ∃ t, PSsD (cxOf (L2.CX P w) P w F mg base N "law" (defScope st) f (.ref c) A outer s H E) K E rest t g)
    (hg : ∀ ns : List Int, ns.length ≤ 63 → ∃ cu, g (.un :: .cup :: List.replicate n .un) (cup0 (cell0 ns)) = .ok (.ret (.bool true)) cu) :
    FnOk P w F mg base (L2.CX P w) (k + 1) f fd ["_law_script"] (spLaw K F) := by
  obtain ⟨oc, od, kV, doc, pm, an, ct, osl, rfl, lk, hcd⟩ := Fn.ex
  refine fn_of lk hcd S (fun vs H Q E h => ?_) (fun A outer s H vs Q E hr h => ?_)
  · obtain ⟨a, ns, rfl, _⟩ := h
    rfl
  · obtain ⟨a, ns, rfl, hS, hl, hT, hQ⟩ := h
    obtain ⟨t, ht⟩ := hbody A outer s H E hr
    have hx : Passes (L2.CX P w) (cxOf (L2.CX P w) P w F mg base N "law" (defScope st) f (.ref c) A outer s H E) E := passes_call (takes_of rfl rfl rfl rfl) fun _ _ _ _ h => h
    rw [hst]
    refine ⟨_, pss_cons (ps_set (i := 1) S.nd hN1 hl1 (pe_call hcup (hr.mono hkk) hgl hmc hkc hbc .nil hx (pa_cons (pe_var (i := 0) hN0 hl0) pa_nil)) (hsw _) (.inl rfl)) ht.ps, ?_⟩
    have h0 : (L2.start N [V.ref a])[0]? = some (some (V.ref a)) := by
      unfold L2.start; rfl
    refine ⟨_, h0, a, ns, rfl, hS, hl, hT, fun p H' hp hT' => ?_⟩
    obtain ⟨cu, e⟩ := hg ns hl
    have hlen : (L2.start N [V.ref a]).length = n + 2 := by
      unfold L2.start
      rw [List.length_append, List.length_replicate, List.length_map, hN]
      simp
      omega
    refine ht.sem (some p) H' (fun _ => none) ((L2.start N [V.ref a]).set 1 (some (V.ref p))) H' (fun _ => none) (.un :: .cup :: List.replicate n .un) (cup0 (cell0 ns)) _ (srep_cup hT' hp (by rw [List.length_set]; exact hlen) (List.getElem?_set_self (by rw [hlen]; omega))) ?_
    rw [e]
    intro v H1 G1 _ _ rv
    rw [rv.bl_of]
    exact hQ H1
end DL

set_option Elab.async false
set_option linter.all false
set_option maxRecDepth 100000
set_option maxHeartbeats 2000000
set_option autoImplicit false
/-! reckoning: the functions of the layer at written environments -/
namespace DL
open PySem PySem.Spec L2
section
variable {α β : Type} {cu : Cu}
theorem Rs.bind_ok (a : α) (f : α → Cu → Rs β) : (Rs.ok a cu).bind f = f a cu := rfl
theorem Rs.bind_exc (k : Nat) (f : α → Cu → Rs β) : (Rs.exc k cu : Rs α).bind f = .exc k cu := rfl
theorem Rs.bind_stuck (f : α → Cu → Rs β) : (Rs.stuck : Rs α).bind f = .stuck := rfl
theorem Rs.ofO_some (a : α) : Rs.ofO (some a) cu = .ok a cu := rfl
theorem Rs.nox_ok (a : α) : (Rs.ok a cu).nox = .ok a cu := rfl
end
section
variable {ρ : En} {cu : Cu} {i j : Int} {x y : Str} {xs ys ds : List PyData} {a b c d : PyData} {k m n : Nat}
theorem gC_eq : gC d ρ cu = .ok d cu := rfl
theorem gVar_eq (h : ρ[n]? = some (.dat d)) : gVar n ρ cu = .ok d cu := by unfold gVar; rw [h]
theorem gVar_un : gVar n ρ cu = (match ρ[n]? with | some (.dat d) => .ok d cu | _ => .stuck) := rfl
theorem gCupF_un : gCup n false ρ cu = (match ρ[n]? with | some .cup => .ok (.int cu.1) cu | _ => .stuck) := rfl
theorem gCupT_un : gCup n true ρ cu = (match ρ[n]? with | some .cup => .ok (.int cu.2) cu | _ => .stuck) := rfl
theorem gCupF (h : ρ[n]? = some .cup) : gCup n false ρ cu = .ok (.int cu.1) cu := by unfold gCup; rw [h]; rfl
theorem gCupT (h : ρ[n]? = some .cup) : gCup n true ρ cu = .ok (.int cu.2) cu := by unfold gCup; rw [h]; rfl
theorem dAdd_int : dAdd (.int i) (.int j) = some (.int (i + j)) := rfl
theorem dAdd_lst (h : xs.length + ys.length ≤ 16777216) : dAdd (.list xs) (.list ys) = some (.list (xs ++ ys)) := if_pos h
theorem dAdd_tup (h : xs.length + ys.length ≤ 16777216) : dAdd (.tuple xs) (.tuple ys) = some (.tuple (xs ++ ys)) := if_pos h
theorem dMul_int (h : mulOk i j = true) : dMul (.int i) (.int j) = some (.int (i * j)) := if_pos h
theorem fI0_int {g : Int → Int → Int} : fI0 g (.int i) (.int j) = some (.int (g i j)) := rfl
theorem fB0_int {g : Int → Int → Bool} : fB0 g (.int i) (.int j) = some (.bool (g i j)) := rfl
theorem fI_int {C : Int → Int → Bool} {g : Int → Int → Int} (h : C i j = true) : fI C g (.int i) (.int j) = some (.int (g i j)) := if_pos h
theorem mulOk_l (h : i.natAbs < 2 ^ 64) : mulOk i j = true := by unfold mulOk; rw [decide_eq_true h]; rfl
theorem mulOk_r (h : j.natAbs < 2 ^ 64) : mulOk i j = true := by unfold mulOk; rw [decide_eq_true h, Bool.true_or, Bool.or_true]
theorem log2_lt {n k : Nat} (h : n < 2 ^ k) (hk : 0 < k) : n.log2 < k := by
  by_cases h0 : n = 0
  · rw [h0]; exact hk
  · exact (Nat.log2_lt h0).mpr h
theorem mulOk_b {p q : Nat} (hi : i.natAbs < 2 ^ p) (hj : j.natAbs < 2 ^ q) (hp : 0 < p) (hq : 0 < q) (h : p + q ≤ 1000000) : mulOk i j = true := by
  unfold mulOk
  have h1 := log2_lt hi hp
  have h2 := log2_lt hj hq
  rw [decide_eq_true (show i.natAbs.log2 + j.natAbs.log2 < 1000000 by omega), Bool.or_true, Bool.or_true]
theorem divOk_b {p : Nat} (h0 : j ≠ 0) (h : j.natAbs < 2 ^ p) (hp : 0 < p) (hq : p ≤ 9000) : divOk i j = true := by
  unfold divOk
  have h1 := log2_lt h hp
  rw [decide_eq_true h0, decide_eq_true (show j.natAbs.log2 < 9000 by omega)]; rfl
theorem modOk_b (h0 : j ≠ 0) : modOk i j = true := decide_eq_true h0
theorem powOk_b (h0 : 0 ≤ j) (h1 : j ≤ 1000000) (h2 : i.natAbs < 2 ^ 64) : powOk i j = true := by
  unfold powOk; rw [decide_eq_true h0, decide_eq_true h1, decide_eq_true h2]; rfl
theorem dEq_int : dEq (.int i) (.int j) = some (.bool (decide (i = j))) := rfl
theorem dNe_int : dNe (.int i) (.int j) = some (.bool (!decide (i = j))) := rfl
theorem dEq_str : dEq (.str x) (.str y) = some (.bool (decide (x = y))) := rfl
theorem dNe_str : dNe (.str x) (.str y) = some (.bool (!decide (x = y))) := rfl
theorem dEq_bl {p q : Bool} : dEq (.bool p) (.bool q) = some (.bool (decide (p = q))) := rfl
theorem dBool_bl {p : Bool} : dBool (.bool p) = some p := rfl
theorem dTru_bl {p : Bool} : dTru (.bool p) = some p := rfl
theorem dNeg_int : dNeg (.int i) = some (.int (-i)) := rfl
theorem dAbs_int : dAbs [.int i] = some (.int (if i < 0 then -i else i)) := rfl
theorem dToInt_int : dToInt [.int i] = some (.int i) := rfl
theorem dToInt_bl {p : Bool} : dToInt [.bool p] = some (.int (if p then 1 else 0)) := rfl
theorem dLen_tup : dLen [.tuple xs] = some (.int (xs.length : Int)) := rfl
theorem dLen_lst : dLen [.list xs] = some (.int (xs.length : Int)) := rfl
theorem dMin2_int : dMin2 [.int i, .int j] = some (.int (if j < i then j else i)) := rfl
theorem dToTup_lst : dToTup [.list xs] = some (.tuple xs) := rfl
theorem dToTup_tup : dToTup [.tuple xs] = some (.tuple xs) := rfl
theorem dToLst_lst : dToLst [.list xs] = some (.list xs) := rfl
theorem dToLst_tup : dToLst [.tuple xs] = some (.list xs) := rfl
theorem dats_nil : dats [] = some [] := rfl
theorem dats_cons {as : List Sl} : dats (.dat d :: as) = (dats as).map fun ds => d :: ds := rfl
theorem dIx_tup : dIx (.tuple xs) (.int i) = atI xs i := rfl
theorem dIx_lst : dIx (.list xs) (.int i) = atI xs i := rfl
theorem atI_at {α : Type} {xs : List α} {n : Nat} {z : α} (h : xs[n]? = some z) : atI xs (n : Int) = some z := atI_nat h
theorem atI0 {α : Type} {z : α} {r : List α} : atI (z :: r) (0 : Int) = some z := atI_nat (j := 0) rfl
theorem atI1 {α : Type} {z z1 : α} {r : List α} : atI (z :: z1 :: r) (1 : Int) = some z1 := atI_nat (j := 1) rfl
theorem atI2 {α : Type} {z z1 z2 : α} {r : List α} : atI (z :: z1 :: z2 :: r) (2 : Int) = some z2 := atI_nat (j := 2) rfl
theorem atI3 {α : Type} {z z1 z2 z3 : α} {r : List α} : atI (z :: z1 :: z2 :: z3 :: r) (3 : Int) = some z3 := atI_nat (j := 3) rfl
theorem atI4 {α : Type} {z z1 z2 z3 z4 : α} {r : List α} : atI (z :: z1 :: z2 :: z3 :: z4 :: r) (4 : Int) = some z4 := atI_nat (j := 4) rfl
theorem atI5 {α : Type} {z z1 z2 z3 z4 z5 : α} {r : List α} : atI (z :: z1 :: z2 :: z3 :: z4 :: z5 :: r) (5 : Int) = some z5 := atI_nat (j := 5) rfl
theorem dInt_int : dInt (.int i) = some i := rfl
end
end DL

set_option Elab.async false
set_option linter.all false
set_option maxRecDepth 100000
set_option maxHeartbeats 2000000
set_option autoImplicit false
/-! the head: facts by names, tables of code objects -/
namespace DL
open PySem PySem.Spec PyProof.Rows L2
def tabP (K : PySem.W.Frag) (x : Str) : Addr × Addr := match PySem.W.tabIn K x with
  | some q => q
  | none => (0, 0)
def tabB (K : PySem.W.Frag) (x : Str) : Bool := match PySem.W.tabIn K x with
  | some (c, P) => PySem.W.codeHdIn K c P && (K.lookup P).isNone
  | none => false
abbrev AlT : Type := He.AlD × (Bool × List (Option Obj))
def tabO (xs : List Str) (K : PySem.W.Frag) (g : Addr → Option Obj) : Bool × List (Option Obj) := ((xs.all fun x => tabB K x) && decide (xs.map fun x => (tabP K x).2).Nodup, xs.map fun x => g (tabP K x).2)
def tabV (xs : List Str) : Bool × List (Option Obj) := (true, xs.map fun _ => some (PySem.W.tabObj #[]))
def obsT (n : Nat) (fa : List He.Fa) (fn : List He.DefD) (xs : List Str) (g : Addr → Option Obj) : AlT := (He.obsD fa fn (He.frG g (He.asD g n)), tabO xs (He.frG g (He.asD g n)) g)
structure SaysT (fa : List He.Fa) (fn : List He.DefD) (xs : List Str) (K : PySem.W.Frag) (h : Heap) : Prop where
  kin : K.In h
  facts : He.SaysD fa fn K
  tab : ∀ x ∈ xs, tabB K x = true ∧ h.get? (tabP K x).2 = some (PySem.W.tabObj #[])
  nd : (xs.map fun x => (tabP K x).2).Nodup
def hookT (n : Nat) (fa : List He.Fa) (fn : List He.DefD) (xs : List Str) : PySem.W.Hook where
  α := AlT
  obs := fun s => obsT n fa fn xs s.heap.get?
  val := fun _ => (He.valD fn, tabV xs)
  says := fun _ h => ∃ K : PySem.W.Frag, SaysT fa fn xs K h
  of := fun w s e => by
    have e1 := congrArg (fun z : AlT => z.1) e
    have e2 := congrArg (fun z : AlT => z.2.1) e
    have e3 := congrArg (fun z : AlT => z.2.2) e
    have e2 : ((xs.all fun x => tabB (He.frG s.heap.get? (He.asD s.heap.get? n)) x) && decide (xs.map fun x => (tabP (He.frG s.heap.get? (He.asD s.heap.get? n)) x).2).Nodup) = true := e2
    rw [Bool.and_eq_true, List.all_eq_true, decide_eq_true_eq] at e2
    have e3 : (xs.map fun x => s.heap.get? (tabP (He.frG s.heap.get? (He.asD s.heap.get? n)) x).2) = xs.map fun _ => some (PySem.W.tabObj #[]) := e3
    exact ⟨_, He.frG_in, e1, fun x hx => ⟨e2.1 x hx, List.map_inj_left.mp e3 x hx⟩, e2.2⟩
  keeps := fun w h h' ⟨K, S⟩ k => ⟨K, PySem.W.Frag.In.keeps S.kin k, S.facts, fun x hx => ⟨(S.tab x hx).1, k _ _ (S.tab x hx).2⟩, S.nd⟩
theorem obsT_eq {n : Nat} {fa : List He.Fa} {fn : List He.DefD} {xs : List Str} {g : Addr → Option Obj} {s : Shared} (h : ∀ a, g a = s.heap.get? a) : obsT n fa fn xs g = (hookT n fa fn xs).obs s := by
  have e : g = s.heap.get? := funext h
  rw [e] <;> rfl
section
variable {fa : List He.Fa} {fn : List He.DefD} {xs : List Str} {K : PySem.W.Frag} {h : Heap}
theorem SaysT.code (S : SaysT fa fn xs K h) {x : Str} (hx : x ∈ xs) : PySem.W.CodeHd h (tabP K x).1 (tabP K x).2 ∧ K.lookup (tabP K x).2 = none := by
  have hb := (S.tab x hx).1
  unfold tabB at hb
  unfold tabP
  split at hb
  · rename_i c P e
    rw [Bool.and_eq_true] at hb
    rw [e]
    refine ⟨PySem.W.codeHd_of_K S.kin hb.1, ?_⟩
    cases q : K.lookup P with
    | none => rfl
    | some o => have := hb.2; rw [q] at this; cases this
  · cases hb
theorem tabIn_of {x : Str} (hb : tabB K x = true) : PySem.W.tabIn K x = some (tabP K x) := by
  unfold tabB at hb
  unfold tabP
  split at hb
  · rename_i c P e; rw [e]
  · cases hb
/-- the def's code object is that of the table -/
theorem code_of {x : Str} {c P : Addr} (ht : PySem.W.tabIn K x = some (c, P)) {fd : FuncData} {oc : Value} {od : Option Addr} {osl : Array (Option Value)} (lk : K.lookup (He.ga K x) = some ⟨oc, od, .func fd, osl⟩) : fd.code = .ref c := by
  unfold PySem.W.tabIn at ht
  unfold He.ga at lk
  split at ht
  · rename_i f hf
    rw [hf] at lk
    dsimp only at lk
    rw [lk] at ht
    dsimp only at ht
    split at ht
    · rename_i c2 hc
      split at ht
      · split at ht
        · cases ht; exact hc
        · cases ht
      · cases ht
    · cases ht
  · cases ht
/-- a plain def of the text -/
structure DefIs (d : He.DefD) (x : Str) (st : Stmt) : Prop where
  e : d = ⟨(x, none), x, x, defArgs st, defBody st, defScope st, [], []⟩
theorem fun_of {x : Str} {st : Stmt} {ps : List Str} (c : He.SaysD fa fn K) {h : Heap} {mg : Str → Option Value} (X : K.In h) (G : h.Ns mainGlobals mg) (i : Nat) (hd : fn[i]? = some ⟨(x, none), x, x, defArgs st, defBody st, defScope st, [], []⟩) (j : Nat) (hf : fa[j]? = some (.glo x))
    (hb : ∀ (kV doc pm : Value) (an : Option Addr) (cdv ct : Value) (us : List Value), us.length = ps.length → bindArgs (PySem.W.fnOf x x (defArgs st) (defBody st) (defScope st) .none kV doc pm an cdv ct) ⟨us, []⟩ = pure (ps.zip us)) :
    ∃ (f : Addr) (fd : FuncData), Fun K x x st f fd ∧ mg x = some (.ref f) ∧ Binds K fd ps [] := by
  obtain ⟨fd, F⟩ := c.def_ i hd
  have b := F.bindsN hb
  obtain ⟨oc, od, dV, kV, doc, pm, an, cdv, ct, osl, rfl, lk, hcd, hD, hK⟩ := F.ex
  rcases hD with ⟨_, rfl⟩ | ⟨e, _⟩
  · exact ⟨He.ga K x, _, ⟨⟨oc, od, kV, doc, pm, an, cdv, ct, osl, rfl, lk, hcd⟩, F.kp⟩, He.glo_ok X G (c.fact j hf), b⟩
  · exact absurd rfl e
theorem funK_of {x : Str} {st : Stmt} {ps : List Str} (c : He.SaysD fa fn K) {h : Heap} {mg : Str → Option Value} (X : K.In h) (G : h.Ns mainGlobals mg) (hb : tabB K x = true) (i : Nat) (hd : fn[i]? = some ⟨(x, none), x, x, defArgs st, defBody st, defScope st, [], []⟩) (j : Nat) (hf : fa[j]? = some (.glo x))
    (hbi : ∀ (kV doc pm : Value) (an : Option Addr) (cdv ct : Value) (us : List Value), us.length = ps.length → bindArgs (PySem.W.fnOf x x (defArgs st) (defBody st) (defScope st) .none kV doc pm an cdv ct) ⟨us, []⟩ = pure (ps.zip us)) :
    ∃ (f : Addr) (fd : FuncData), FunK K x x st f fd (tabP K x).1 ∧ mg x = some (.ref f) ∧ Binds K fd ps [] := by
  obtain ⟨fd, F⟩ := c.def_ i hd
  have b := F.bindsN hbi
  obtain ⟨oc, od, dV, kV, doc, pm, an, cdv, ct, osl, rfl, lk, hcd, hD, hK⟩ := F.ex
  rcases hD with ⟨_, rfl⟩ | ⟨e, _⟩
  · have ec : cdv = .ref (tabP K x).1 := code_of (tabIn_of hb) lk
    subst ec
    exact ⟨He.ga K x, _, ⟨⟨oc, od, kV, doc, pm, an, ct, osl, rfl, lk, hcd⟩, F.kp⟩, He.glo_ok X G (c.fact j hf), b⟩
  · exact absurd rfl e
end
theorem walk_ofX {l : PySem.W.OpenLaw} {n k : Nat} {q : Program} {loose : List Str} {XP : (Str → Option Value) → Heap → Prop} {YP : World → Heap → Prop} {d : DefRec} {CX : World → CXT} {x : Str}
    (hn : l.most = some n) (hn2 : n ≤ sizeLine) (hdf : d.params.defaults = []) (hr : Room k callerA)
    (F : ∀ (w : World) (mg : Str → Option Value) (fa : Addr) (h : Heap), YP w h → h.Ns mainGlobals mg → mg d.name = some (.ref fa) → ∃ K : PySem.W.Frag, K.In h ∧ LamX.LawAtS l w K (CX w) k n x mg fa h)
    (hCX : ∀ (w : World) (H : Hp) (s : Shared) (e : Value) (s' : Shared), CX w [] H s (fun _ _ _ => False) e s' → False) :
    PySem.W.WalkO q loose XP YP l.row.toRowW d [] (fun f vs => PySem.call f vs) := by
  refine Att.attach_callB hn hdf fun w s₀ s₁ mg mb fa o pm cd doc a vs ns G Y ho hd hcd hmg hobj hints hlen hbits hg => ?_
  obtain ⟨K, KX, fd, cs, sp, hT, nT, C, hb, hsp, hF⟩ := F w mg fa _ Y G.T.g hmg
  exact LamX.law_callTs KX G.T.g G.T.b G.T.builtins G.T.nolimit hg hT nT C G.T.bmain hobj hints (Nat.le_trans hlen hn2) hr hF hb (fun H hH hS => hsp H a ns hlen hbits hH hS) fun H e s' => hCX w H s₁ e s'
theorem cx_no (P : Program) (w : World) (H : Hp) (s : Shared) (e : Value) (s' : Shared) (h : L2.CX P w [] H s (fun _ _ _ => False) e s') : False := by
  obtain ⟨_, _, _, _, _, _, _, _, _, _, _, _, z⟩ := h
  exact z
end DL

set_option Elab.async false
set_option linter.all false
set_option maxRecDepth 100000
set_option maxHeartbeats 2000000
set_option autoImplicit false
/-! isinstance of each kind of data -/
namespace DL
open PySem
theorem isi_int_int {i : Int} : isiOf "int" (.int i) = some true := rfl
theorem isi_int_bool {i : Int} : isiOf "bool" (.int i) = some false := rfl
theorem isi_int_str {i : Int} : isiOf "str" (.int i) = some false := rfl
theorem isi_int_tuple {i : Int} : isiOf "tuple" (.int i) = some false := rfl
theorem isi_bool_int {b : Bool} : isiOf "int" (.bool b) = some true := rfl
theorem isi_bool_bool {b : Bool} : isiOf "bool" (.bool b) = some true := rfl
theorem isi_bool_str {b : Bool} : isiOf "str" (.bool b) = some false := rfl
theorem isi_bool_tuple {b : Bool} : isiOf "tuple" (.bool b) = some false := rfl
theorem isi_str_int {x : PySem.Str} : isiOf "int" (.str x) = some false := rfl
theorem isi_str_bool {x : PySem.Str} : isiOf "bool" (.str x) = some false := rfl
theorem isi_str_str {x : PySem.Str} : isiOf "str" (.str x) = some true := rfl
theorem isi_str_tuple {x : PySem.Str} : isiOf "tuple" (.str x) = some false := rfl
theorem isi_tup_int {xs : List PySem.PyData} : isiOf "int" (.tuple xs) = some false := rfl
theorem isi_tup_bool {xs : List PySem.PyData} : isiOf "bool" (.tuple xs) = some false := rfl
theorem isi_tup_str {xs : List PySem.PyData} : isiOf "str" (.tuple xs) = some false := rfl
theorem isi_tup_tuple {xs : List PySem.PyData} : isiOf "tuple" (.tuple xs) = some true := rfl
theorem isi_lst_int {xs : List PySem.PyData} : isiOf "int" (.list xs) = some false := rfl
theorem isi_lst_bool {xs : List PySem.PyData} : isiOf "bool" (.list xs) = some false := rfl
theorem isi_lst_str {xs : List PySem.PyData} : isiOf "str" (.list xs) = some false := rfl
theorem isi_lst_tuple {xs : List PySem.PyData} : isiOf "tuple" (.list xs) = some false := rfl
theorem isi_none_int : isiOf "int" .none = some false := rfl
theorem isi_none_bool : isiOf "bool" .none = some false := rfl
theorem isi_none_str : isiOf "str" .none = some false := rfl
theorem isi_none_tuple : isiOf "tuple" .none = some false := rfl
end DL

set_option Elab.async false
set_option linter.all false
set_option maxRecDepth 100000
set_option maxHeartbeats 2000000
set_option autoImplicit false
set_option exponentiation.threshold 4000
/-! whole numbers of a size, loops and comprehensions one item on -/
namespace DL
open PySem PySem.Spec L2
def Sm (x : Int) : Prop := x.natAbs < 2 ^ 2000
section
variable {a b m x y : Int} {cu : Cu} {ρ : En}
theorem mulOk_sm (ha : Sm a) (hb : Sm b) : mulOk a b = true := mulOk_b ha hb (by decide) (by decide) (by decide)
theorem divOk_sm (h0 : b ≠ 0) (hb : Sm b) : divOk a b = true := divOk_b h0 hb (by decide) (by decide)
theorem Sm.of {B : Nat} (h : x.natAbs ≤ B) (hB : B < 2 ^ 2000 := by decide) : Sm x := Nat.lt_of_le_of_lt h hB
theorem fdiv_lo (hm : 0 < m) : a.fdiv m * m ≤ a := by
  have h := Int.mul_fdiv_add_fmod a m
  have h2 := Int.fmod_nonneg_of_pos a hm
  rw [Int.mul_comm] at h
  omega
theorem fdiv_hi (hm : 0 < m) : a < a.fdiv m * m + m := by
  have h := Int.mul_fdiv_add_fmod a m
  have h2 := Int.fmod_lt_of_pos a hm
  rw [Int.mul_comm] at h
  omega
theorem fmod_spec : a.fmod m = a - a.fdiv m * m := by
  have h := Int.mul_fdiv_add_fmod a m
  rw [Int.mul_comm] at h
  omega
theorem fmod_lo (hm : 0 < m) : 0 ≤ a.fmod m := Int.fmod_nonneg_of_pos a hm
theorem fmod_hi (hm : 0 < m) : a.fmod m < m := Int.fmod_lt_of_pos a hm
/-- a rest is the only number of its kind between nought and the modulus -/
theorem rest_one {k : Int} (hm : 0 < m) (h0 : 0 ≤ a - k * m) (h1 : a - k * m < m) : a.fmod m = a - k * m ∧ a.fdiv m = k := by
  have e := Int.mul_fdiv_add_fmod a m
  have l0 := Int.fmod_nonneg_of_pos a hm
  have l1 := Int.fmod_lt_of_pos a hm
  have ek : a.fdiv m = k := by
    have z : m * (a.fdiv m - k) = (a - k * m) - a.fmod m := by rw [Int.mul_sub, Int.mul_comm m k]; omega
    have z1 : m * (a.fdiv m - k) < m * 1 := by omega
    have z2 : m * (-1) < m * (a.fdiv m - k) := by omega
    have z3 := Int.lt_of_mul_lt_mul_left z1 (Int.le_of_lt hm)
    have z4 := Int.lt_of_mul_lt_mul_left z2 (Int.le_of_lt hm)
    omega
  refine ⟨?_, ek⟩
  rw [ek, Int.mul_comm] at e
  omega
def ab (i : Int) : Int := if i < 0 then -i else i
theorem dAbs_ab : dAbs [.int x] = some (.int (ab x)) := rfl
theorem ab_nn : 0 ≤ ab x := by unfold ab; split <;> omega
theorem ab_le : ab x ≤ b ↔ -b ≤ x ∧ x ≤ b := by unfold ab; split <;> omega
theorem ab_lo (h : 0 ≤ x) : ab x = x := by unfold ab; split <;> omega
theorem ab_hi (h : x ≤ 0) : ab x = -x := by unfold ab; split <;> omega
theorem ab_neg : ab (-x) = ab x := by unfold ab; split <;> split <;> omega
theorem Sm.ab (h : Sm x) : Sm (ab x) := by unfold Sm DL.ab at *; split <;> omega
theorem Sm.neg (h : Sm x) : Sm (-x) := by unfold Sm at *; omega
theorem gForL_nil {gg : GG} {g : GS} : gForL gg g [] ρ cu = .ok (.nx ρ) cu := rfl
theorem gForL_cons {gg : GG} {g : GS} {d : PyData} {r : List PyData} : gForL gg g (d :: r) ρ cu = (Rs.ofO (gg d ρ) cu).bind fun ρ1 cu1 => (g ρ1 cu1).bind fun o cu2 => match o with
      | .nx ρ' => gForL gg g r ρ' cu2
      | .ct ρ' => gForL gg g r ρ' cu2
      | .brk ρ' => .ok (.nx ρ') cu2
      | .ret d => .ok (.ret d) cu2 := rfl
theorem gLcL_nil {gg : GG} {gt : GT} {ge : GE} : gLcL gg gt ge [] ρ cu = .ok [] cu := rfl
theorem gLcL_cons {gg : GG} {gt : GT} {ge : GE} {d : PyData} {r : List PyData} : gLcL gg gt ge (d :: r) ρ cu = (Rs.ofO (gg d ρ) cu).bind fun ρ1 cu1 => (gt ρ1 cu1).nox.bind fun b cu2 => if b = true then (ge ρ1 cu2).nox.bind fun y cu3 => (gLcL gg gt ge r ρ cu3).bind fun ys cu4 => .ok (y :: ys) cu4 else gLcL gg gt ge r ρ cu2 := rfl
/-- a comprehension that asks and tells without moving the cup -/
theorem gLcL_pure {gg : GG} {gt : GT} {ge : GE} (p : PyData → Bool) (f : PyData → PyData) : ∀ {ds : List PyData}, (∀ d ∈ ds, ∃ ρ1, gg d ρ = some ρ1 ∧ gt ρ1 cu = .ok (p d) cu ∧ (p d = true → ge ρ1 cu = .ok (f d) cu)) → gLcL gg gt ge ds ρ cu = .ok ((ds.filter p).map f) cu
  | [], _ => rfl
  | d :: r, h => by
    obtain ⟨ρ1, h1, h2, h3⟩ := h d (List.mem_cons_self ..)
    have ih := gLcL_pure (gg := gg) (gt := gt) (ge := ge) p f (ds := r) fun d hd => h d (List.mem_cons_of_mem _ hd)
    rw [gLcL_cons, h1, Rs.ofO_some, Rs.bind_ok, h2, Rs.nox_ok, Rs.bind_ok]
    cases hp : p d with
    | true => rw [if_pos rfl, h3 hp, Rs.nox_ok, Rs.bind_ok, ih, Rs.bind_ok, List.filter_cons_of_pos hp, List.map_cons]
    | false => rw [if_neg Bool.false_ne_true, ih, List.filter_cons_of_neg (by rw [hp]; exact Bool.false_ne_true)]
theorem gWhileF_zero {gt : GT} {g : GS} : gWhileF gt g 0 ρ cu = .stuck := rfl
theorem gWhileF_succ {gt : GT} {g : GS} {n : Nat} : gWhileF gt g (n + 1) ρ cu = (gt ρ cu).bind fun b cu1 => if b = true then (g ρ cu1).bind fun o cu2 => match o with
      | .nx ρ' => gWhileF gt g n ρ' cu2
      | .ct ρ' => gWhileF gt g n ρ' cu2
      | .brk ρ' => .ok (.nx ρ') cu2
      | .ret d => .ok (.ret d) cu2 else .ok (.nx ρ) cu1 := rfl
theorem dZip_tup {xs ys : List PyData} : dZip [.tuple xs, .tuple ys] = some (zipD xs ys) := rfl
theorem dZip_lst {xs ys : List PyData} : dZip [.list xs, .list ys] = some (zipD xs ys) := rfl
theorem zipD_cc {x y : PyData} {xs ys : List PyData} : zipD (x :: xs) (y :: ys) = .tuple [x, y] :: zipD xs ys := rfl
theorem zipD_nil : zipD [] [] = [] := rfl
theorem dRng1_ok (h : -(2 ^ 62) ≤ a ∧ a < 2 ^ 62) : dRng1 [.int a] = some (rngD 0 a.toNat) := if_pos h
theorem dRng2_ok (h : -(2 ^ 62) ≤ a ∧ a < 2 ^ 62 ∧ -(2 ^ 62) ≤ b ∧ b < 2 ^ 62) : dRng2 [.int a, .int b] = some (rngD a (b - a).toNat) := if_pos h
theorem cutD_1 {z : PyData} {r : List PyData} : cutD (z :: r) (some 1) none = r := by
  unfold cutD HT.sIx
  simp
theorem dCut_tup {xs : List PyData} {lo hi : Option Int} : dCut (.tuple xs) lo hi = some (.tuple (cutD xs lo hi)) := rfl
theorem dCut_lst {xs : List PyData} {lo hi : Option Int} : dCut (.list xs) lo hi = some (.list (cutD xs lo hi)) := rfl
end
end DL

set_option Elab.async false
set_option linter.all false
set_option maxRecDepth 100000
set_option maxHeartbeats 2000000
set_option autoImplicit false
/-! sum, max, min and all of a list -/
namespace DL
open PySem PySem.Spec PyProof.Rows L2
section
variable {X : Cx} {K : Kx}
def intsD : List PyData → Option (List Int)
  | [] => some []
  | .int i :: r => (intsD r).map fun ns => i :: ns
  | _ :: _ => none
def blsD : List PyData → Option (List Bool)
  | [] => some []
  | .bool i :: r => (blsD r).map fun ns => i :: ns
  | _ :: _ => none
theorem ints_rp {G : Hp} : ∀ {xs : List V} {ds : List PyData} {ns : List Int}, RpL G xs ds → intsD ds = some ns → xs = ns.map V.int
  | _, _, _, .nil, e => by cases e; rfl
  | v :: vs, d :: ds, ns, .cons h r, e => by
    cases d with
    | int i =>
      rw [intsD] at e
      cases ei : intsD ds with
      | none => rw [ei] at e; cases e
      | some ms =>
        rw [ei] at e
        cases e
        rw [List.map_cons, h.int_of, ints_rp r ei]
    | _ => cases e
theorem bls_rp {G : Hp} : ∀ {xs : List V} {ds : List PyData} {ns : List Bool}, RpL G xs ds → blsD ds = some ns → xs = ns.map V.bl
  | _, _, _, .nil, e => by cases e; rfl
  | v :: vs, d :: ds, ns, .cons h r, e => by
    cases d with
    | bool i =>
      rw [blsD] at e
      cases ei : blsD ds with
      | none => rw [ei] at e; cases e
      | some ms =>
        rw [ei] at e
        cases e
        rw [List.map_cons, h.bl_of, bls_rp r ei]
    | _ => cases e
def dSum : List PyData → Option PyData
  | [.list ds] => (intsD ds).map fun ns => .int ns.sum
  | _ => none
def dMaxL : List PyData → Option PyData
  | [.list ds] => (intsD ds).bind fun ns => ns.max?.map .int
  | _ => none
def dMinL : List PyData → Option PyData
  | [.list ds] => (intsD ds).bind fun ns => ns.min?.map .int
  | _ => none
def dAllL : List PyData → Option PyData
  | [.list ds] => (blsD ds).map fun bs => .bool (bs.all id)
  | _ => none
theorem callD_sum : CallD K (rSum X.K) dSum := by
  intro c H G cu vs ds z Q wd r hz q
  unfold dSum at hz
  split at hz
  · rename_i es
    obtain ⟨v, rfl, rv⟩ := r.one
    obtain ⟨a, xs, rfl, ha, ra⟩ := rv.lst_of
    cases ei : intsD es with
    | none => rw [ei] at hz; cases hz
    | some ns =>
      rw [ei] at hz
      cases hz
      refine ⟨a, ns, rfl, ?_, q _ H G Ext.refl wd (.int _)⟩
      rw [← ints_rp ra ei]
      exact SqL.of (wd.sub _ _ ha)
  · cases hz
theorem callD_maxL : CallD K (rMax X.K) dMaxL := by
  intro c H G cu vs ds z Q wd r hz q
  unfold dMaxL at hz
  split at hz
  · rename_i es
    obtain ⟨v, rfl, rv⟩ := r.one
    obtain ⟨a, xs, rfl, ha, ra⟩ := rv.lst_of
    cases ei : intsD es with
    | none => rw [ei] at hz; cases hz
    | some ns =>
      rw [ei] at hz
      have hz' : ns.max?.map PyData.int = some z := hz
      cases em : ns.max? with
      | none => rw [em] at hz'; cases hz'
      | some m =>
        rw [em] at hz'
        cases hz'
        obtain ⟨h1, h2⟩ := List.max?_eq_some_iff.mp em
        refine ⟨a, ns, rfl, ?_, List.length_pos_of_mem h1, fun m' k1 k2 => ?_⟩
        · rw [← ints_rp ra ei]
          exact SqL.of (wd.sub _ _ ha)
        · have : m' = m := Int.le_antisymm (h2 _ k1) (k2 _ h1)
          subst this
          exact q _ H G Ext.refl wd (.int _)
  · cases hz
theorem callD_minL : CallD K (rMin X.K) dMinL := by
  intro c H G cu vs ds z Q wd r hz q
  unfold dMinL at hz
  split at hz
  · rename_i es
    obtain ⟨v, rfl, rv⟩ := r.one
    obtain ⟨a, xs, rfl, ha, ra⟩ := rv.lst_of
    cases ei : intsD es with
    | none => rw [ei] at hz; cases hz
    | some ns =>
      rw [ei] at hz
      have hz' : ns.min?.map PyData.int = some z := hz
      cases em : ns.min? with
      | none => rw [em] at hz'; cases hz'
      | some m =>
        rw [em] at hz'
        cases hz'
        obtain ⟨h1, h2⟩ := List.min?_eq_some_iff.mp em
        refine ⟨a, ns, rfl, ?_, List.length_pos_of_mem h1, fun m' k1 k2 => ?_⟩
        · rw [← ints_rp ra ei]
          exact SqL.of (wd.sub _ _ ha)
        · have : m' = m := Int.le_antisymm (k2 _ h1) (h2 _ k1)
          subst this
          exact q _ H G Ext.refl wd (.int _)
  · cases hz
theorem callD_allL : CallD K (rAll X.K) dAllL := by
  intro c H G cu vs ds z Q wd r hz q
  unfold dAllL at hz
  split at hz
  · rename_i es
    obtain ⟨v, rfl, rv⟩ := r.one
    obtain ⟨a, xs, rfl, ha, ra⟩ := rv.lst_of
    cases ei : blsD es with
    | none => rw [ei] at hz; cases hz
    | some ns =>
      rw [ei] at hz
      cases hz
      refine ⟨a, ns, rfl, ?_, q _ H G Ext.refl wd (.bl _)⟩
      rw [← bls_rp ra ei]
      exact SqL.of (wd.sub _ _ ha)
  · cases hz
end
end DL

set_option Elab.async false
set_option linter.all false
set_option maxRecDepth 100000
set_option maxHeartbeats 2000000
set_option autoImplicit false
/-! a in range(..), tuples repeated, tuple(.. for .. in a tuple) of numbers -/
namespace DL
open PySem PySem.Spec PyProof.Rows L2
section
variable {X : Cx} {pins : List (Addr × Obj)} {σ : L2.St} {H : Hp} {s : Shared}
/-- a value told by what it holds, one tuple deep -/
def DV (h : Heap) (u : Value) : PyData → Prop
  | .int i => ∃ t, u = .int i t
  | .tuple ds => ∃ (a : Addr) (its : List Value), u = .ref a ∧ h.IsTuple a its.toArray ∧ its.length = ds.length ∧ ∀ (j : Nat) (i : Int), ds[j]? = some (.int i) → ∃ t, its[j]? = some (.int i t)
  | _ => True
theorem DV.keep {h h' : Heap} {u : Value} {P : Addr} {ps : Array Value} (hP : h.get? P = some { cls := .none, data := .fields ps }) (k : ∀ b o, b ≠ P → h.get? b = some o → h'.get? b = some o) {d : PyData} (x : DV h u d) : DV h' u d := by
  cases d with
  | int i => exact x
  | tuple ds =>
    obtain ⟨a, its, e, ⟨o, e1, e2, e3⟩, r⟩ := x
    exact ⟨a, its, e, ⟨o, k a o (fun z => by
      rw [z, hP] at e1
      cases e1
      cases e2) e1, e2, e3⟩, r⟩
  | _ => trivial
theorem dv_of {x : V} {u : Value} {d : PyData} (I : Inv X pins σ H s) (rv : RelV x u) (r : Rp H x d) : DV s.heap u d := by
  cases r with
  | int i => obtain ⟨t, q⟩ := (show ∃ t, u = Value.int i t from rv); cases q; exact ⟨t, rfl⟩
  | @tup a xs ds ea rl =>
    cases (show u = Value.ref a from rv)
    obtain ⟨_, its, hvs, o, h1, h2, h3⟩ := (show ObjOk X.prog X.w H s.heap a (.tup xs) from I.hok a _ ea)
    refine ⟨a, its, rfl, ⟨o, h1, h2, by first | exact h3 | exact ⟨_, h3⟩ | exact h3.1⟩, by rw [← hvs.length, rl.length], fun j i e => ?_⟩
    obtain ⟨v, e1, rp⟩ := rl.get e
    obtain ⟨u', e2, rv'⟩ := hvs.get e1
    cases rp
    obtain ⟨t, rfl⟩ := (show ∃ t, u' = Value.int i t from rv')
    exact ⟨t, e2⟩
  | _ => trivial
/-- the numbers that the inner block reads of the def -/
def CellsOk (X : Cx) (scope : Scope) (σ : L2.St) (cells : List (Str × Addr)) (h : Heap) : Prop := ∀ (i : Nat) (y : Str) (zc : Int), X.N[i]? = some y → σ[i]? = some (some (.int zc)) → scope.names.lookup y = some .free → ∃ c t, cells.lookup y = some c ∧ h.IsCell c (some (.int zc t))
/-- the element of d is the number z -/
def EltZ (X : Cx) (scope : Scope) (x : Str) (elt : Expr) (σ : L2.St) (d : PyData) (z : Int) : Prop := ∀ (cenv : Env) (A' : Around) (E' : Value → Shared → Prop) (s₂ : Shared) (m₂ : Str → Option Value) (v : Value), cenv.scope = scope → CellsOk X scope σ cenv.cells s₂.heap →
  s₂.heap.Ns cenv.locals m₂ → m₂ x = some v → DV s₂.heap v d → wpAny (model X.prog X.w) A' (eval elt cenv) (fun y s₃ => (∃ t, y = .int z t) ∧ Keeps s₂ s₃) E' s₂
def EltsZ (X : Cx) (scope : Scope) (x : Str) (elt : Expr) (σ : L2.St) (ds : List PyData) (zs : List Int) : Prop := ds.length = zs.length ∧ ∀ (i : Nat) (d : PyData) (z : Int), ds[i]? = some d → zs[i]? = some z → EltZ X scope x elt σ d z
/-- the generator g over the numbers zs, ready to be walked -/
def ReadyZ (X : Cx) (pins : List (Addr × Obj)) (σ : L2.St) (H1 : Hp) (T : List (Addr × Str)) (zs : List Int) (g : Addr) (s5 : Shared) : Prop :=
  ∃ (fp wr : List Addr) (G : Array GenState → Array GenState → Prop) (F : Nat → Value → Prop) (St : Nat → Shared → Prop),
    WalksS X.prog X.w X.A.in1.in1.in1 g fp wr G zs.length F St ∧ St 0 s5 ∧ (∀ i s, St i s → s.TypeIs (.ref g) "generator") ∧ (∀ b ∈ fp, b < s5.heap.objs.size) ∧ g ∈ fp ∧ (∀ j y, F j y → ∃ z t, zs[j]? = some z ∧ y = .int z t) ∧
    ∀ s', Moved wr G s5 s' → ∃ H2, (∀ b o, H1 b = some o → NT o → H2 b = some o) ∧ LamX.Tabs T H2 ∧ Inv X pins σ H2 s'
theorem gen_tupz {c P : Addr} {iter elt : Expr} {x : Str} {px gpos : Pos} {scope : Scope} {te : TE} {k : Nat} {Q' : Value → Shared → Prop} {R : List PyData → List Int → Hp → Prop} {T : List (Addr × Str)}
    (hr : Room (k + 2) X.A) (TB : LamX.TabB X.base X.mg c P) (hcode : X.env.code = .ref c) (S : GxR.GenS X.env scope x) (hfs : ∀ y ∈ scope.names, y.2 = .free → X.env.scope.names.lookup y.1 = some .cell ∨ X.env.scope.names.lookup y.1 = some .free) (hi : PE X iter te) (hmT : (P, X.env.qual ++ "<genexpr>") ∈ T) (hu : ∀ p ∈ T, p.1 = P → p.2 = X.env.qual ++ "<genexpr>")
    (hs : ∀ v, genFold iter X.env v = pure v) (I : Inv X pins σ H s) (h : te σ H fun v H1 => ∃ a xs ds zs, v = .ref a ∧ H1 a = some (.tup xs) ∧ RpL H1 xs ds ∧ LamX.Tabs T H1 ∧ EltsZ X scope x elt σ ds zs ∧ R ds zs H1)
    (hQ : ∀ ds zs H1 g s5, ds.length = zs.length → R ds zs H1 → ReadyZ X pins σ H1 T zs g s5 → Q' (.ref g) s5) :
    wpAny (model X.prog X.w) X.A (eval (.GeneratorExp elt [⟨.Name x px, iter, [], 0⟩] scope gpos) X.env) Q' X.xe s := by
  refine wpAny_GeneratorExp_walksQD hr.hd S.co (closure_ok S.free) S.cell S.dot S.loc S.kind (by have := hr.dp; omega) ?_ hs
  refine thn (hi.run pins s σ H _ I h) fun xv s1 ⟨v, H1, I1, r1, q1⟩ => ?_
  obtain ⟨a, xs, ds, zs, rfl, ha, hds, hTs, ⟨hzl, helt⟩, q1⟩ := q1
  obtain rfl : xv = .ref a := r1
  obtain ⟨_, its, hvs, ht⟩ := (show ObjOk X.prog X.w H1 s1.heap a (.tup xs) from I1.hok a _ ha)
  have htI : s1.heap.IsTuple a its.toArray := by
    obtain ⟨o, e1, e2, e3⟩ := ht
    exact ⟨o, e1, e2, by first | exact e3 | exact ⟨_, e3⟩ | exact e3.1⟩
  obtain ⟨ps, hP, htr, hamong⟩ := hTs _ hmT
  refine wpAny_pyIter_tuple htI ?_
  have hPs : s1.heap.get? P = some { cls := .none, data := .fields ps } := I1.hok P _ hP
  have hPlt : P < s1.heap.objs.size := Heap.lt_size hPs
  have haP : a ≠ P := fun z => by
    have hP2 : H1 P = some (.tbl ps) := hP
    rw [z, hP2] at ha; cases ha
  have hlen : its.length = ds.length := by rw [← hvs.length, hds.length]
  have hal : a < s1.heap.objs.size := let ⟨o, e, _⟩ := htI; Heap.lt_size e
  have hkit : ∀ (i : Nat) (u : Value), its[i]? = some u → ∃ d, ds[i]? = some d ∧ DV s1.heap u d := fun i u e => by
    have hi := (List.getElem?_eq_some_iff.mp e).1
    have hd : ds[i]? = some (ds[i]'(by omega)) := List.getElem?_eq_getElem _
    obtain ⟨v, e1, rp⟩ := hds.get hd
    obtain ⟨u', e2, rv⟩ := hvs.get e1
    rw [e] at e2
    cases e2
    exact ⟨_, hd, dv_of I1 rv rp⟩
  generalize ho : ({ cls := .type "tuple_iterator", data := .fields #[.ref a, .int 0 0] } : Obj) = o
  have hP2 : (s1.heap.push o).get? P = some { cls := .none, data := .fields ps } := Heap.get?_push_of_some _ hPs
  have cd : PySem.W.CodeHd (s1.heap.push o) c P := TB.code.keeps fun b u e => Heap.get?_push_of_some _ (I1.bk b u e)
  have lim2 : (s1.heap.push o).NoLimit := I1.nolimit.push o
  have hit2 : (s1.heap.push o).IsTupleIter s1.heap.objs.size a 0 := ⟨o, Heap.get?_push_size _ (by rw [← ho]; rfl), by rw [← ho], by rw [← ho]; rfl⟩
  have hti2 : (s1.heap.push o).IsTuple a its.toArray := let ⟨u, e, r⟩ := htI; ⟨u, Heap.get?_push_of_some _ e, r⟩
  have sz2 : (s1.heap.push o).objs.size = s1.heap.objs.size + 1 := Heap.size_push ..
  -- behind the making of the code object: h3, with the code at `code`
  have cont : ∀ (code : Value) (h3 : Heap) (tk : Nat), Heap.ExtBut P (s1.heap.push o) h3 → (s1.heap.push o).objs.size ≤ h3.objs.size →
      (∀ s' : Shared, s'.os = s1.os → AllBare s'.gens → (∀ b u, b < h3.objs.size → b ≠ s1.heap.objs.size → h3.get? b = some u → s'.heap.get? b = some u) → ∃ H2, (∀ b o, H1 b = some o → NT o → H2 b = some o) ∧ LamX.Tabs T H2 ∧ Inv X pins σ H2 s') →
      wpAny (model X.prog X.w) X.A (builtinsFor X.env.globals X.env.builtins) (fun bi s₄ =>
        ∃ Ia fp wr n₀ Pf St₀ pz F, Value.ref s1.heap.objs.size = .ref Ia ∧ (∀ A' : Around, A'.handled = none → Walks X.prog X.w A' Ia fp wr n₀ Pf St₀) ∧ St₀ 0 s₄.heap ∧ (∀ b ∈ fp, b < s₄.heap.objs.size) ∧ s₄.heap.NoLimit ∧ cStatics ∉ wr ∧
          (∀ href : Heap, (∀ b o, s₄.heap.get? b = some o → href.get? b = some o) →
            QuietGenD X.prog X.w (genEnv scope (cloFrom X.env.cells scope.names []) s₄.heap.objs.size code bi X.env) x [] elt (List.range s₄.heap.objs.size) wr Pf pz F href (X.A.depth + 1) (X.A.units + 8)) ∧
          (∀ a h₅ tk gs, gs.bare = true → s₄.heap.objs.size < a → h₅.objs.size = a + 1 → (∀ b o, s₄.heap.get? b = some o → h₅.get? b = some o) →
            WalksS X.prog X.w X.A.in4 a (a :: s₄.heap.objs.size :: List.range s₄.heap.objs.size) (s₄.heap.objs.size :: wr) (GenOnlyQ s₄.gens.size) (passing pz n₀ 0).length
              (fun j y => ∃ i, (passing pz n₀ 0)[j]? = some i ∧ F i y) (GenAt X.prog X.w X.A.in4 a s₄.gens.size s₄.heap.objs.size (List.range s₄.heap.objs.size) wr pz n₀ F) →
            GenAt X.prog X.w X.A.in4 a s₄.gens.size s₄.heap.objs.size (List.range s₄.heap.objs.size) wr pz n₀ F 0 { s₄ with gens := s₄.gens.push gs, toks := tk, heap := h₅ } →
            Q' (.ref a) { s₄ with gens := s₄.gens.push gs, toks := tk, heap := h₅ })) X.xe { s1 with heap := h3, toks := tk } := by
    intro code h3 tk hx hsz hfin
    obtain ⟨bm, ob, e1, e2, e3, e4, e5, e6, e7, e8⟩ := TB.bm
    have hcP : cStatics ≠ P := fun e => by
      obtain ⟨_, hns, _⟩ := I1.nolimit
      obtain ⟨o', es, ep, ho, hd, _⟩ := hns
      rw [e, hPs] at ho
      cases ho
      cases hd
    have hcl : cStatics < s1.heap.objs.size := let ⟨_, hns, _⟩ := I1.nolimit; hns.lt
    have keep3 : ∀ b u, b ≠ P → s1.heap.get? b = some u → h3.get? b = some u := fun b u hb e => hx b u hb (Heap.get?_push_of_some _ e)
    have lim3 : h3.NoLimit := lim2.extBut hx hcP
    refine wpAny_builtinsFor (m := X.mg) (by rw [I1.ok.glob]; exact ((I1.mod.glob.keeps I1.bk).push o).extBut hx TB.gP) e1 e2 (keep3 _ _ e4 (I1.bk _ _ e5)) e6 e7 e8 ?_
    refine ⟨s1.heap.objs.size, [s1.heap.objs.size, a], [s1.heap.objs.size], its.toArray.size, (fun i v => its.toArray[i]? = some v), (fun i h => h.IsTupleIter s1.heap.objs.size a i ∧ h.IsTuple a its.toArray), (fun _ => true), (fun i y => ∃ z t, zs[i]? = some z ∧ y = .int z t), rfl,
      fun A' hA => Walks.tuple hA _ _ (Nat.ne_of_lt hal) _, ⟨?_, ?_⟩, ?_, lim3, ?_, ?_, ?_⟩
    · obtain ⟨u, e, r⟩ := hit2
      exact ⟨u, hx _ u (Nat.ne_of_gt hPlt) e, r⟩
    · obtain ⟨u, e, r⟩ := hti2
      exact ⟨u, hx _ u haP e, r⟩
    · intro b hb
      show b < h3.objs.size
      rcases List.mem_cons.mp hb with z | z
      · rw [z]; exact Nat.lt_of_lt_of_le (by rw [sz2]; exact Nat.lt_succ_self _) hsz
      · rcases List.mem_cons.mp z with z | z
        · rw [z]; exact Nat.lt_of_lt_of_le (Nat.lt_trans hal (by rw [sz2]; exact Nat.lt_succ_self _)) hsz
        · cases z
    · intro z
      rcases List.mem_cons.mp z with z | z
      · exact Nat.ne_of_lt hcl z
      · cases z
    · intro href hhref
      refine ⟨fun A' E' i v s₂ m₂ hA _ _ hPv hn hm hk => ?_, fun A' E' i v s₂ m₂ hA hdep huni hPv hp hn hm hk => ?_⟩
      · simp only [List.forIn_nil]
        exact wpAny_pure ⟨rfl, GxR.keeps_refl _⟩
      · have hPv' : its[i]? = some v := by rw [← List.getElem?_toArray]; exact hPv
        obtain ⟨d, hd, kd⟩ := hkit i v hPv'
        have up : ∀ b u, b ≠ P → s1.heap.get? b = some u → s₂.heap.get? b = some u := fun b u hb e => by
          have e3 := keep3 b u hb e
          have hl := Heap.lt_size e
          refine hk b (List.mem_range.mpr (Heap.lt_size e3)) (fun z => ?_) u (hhref b u e3)
          rcases List.mem_cons.mp z with z | z
          · rw [z] at hl; exact Nat.lt_irrefl _ hl
          · cases z
        have bsk : ∀ b u, X.base.get? b = some u → s₂.heap.get? b = some u := fun b u e => up b u (fun z => by
          have h0 := (I1.bs b u e).2
          have h1 : H1 P = some (.tbl ps) := hP
          rw [z, h1] at h0; cases h0) (I1.bk b u e)
        have hz : zs[i]? = some (zs[i]'(by have := (List.getElem?_eq_some_iff.mp hd).1; omega)) := List.getElem?_eq_getElem _
        refine wpAny_mono (helt i d _ hd hz _ A' E' s₂ m₂ v rfl (fun j y zc f1 f2 f3 => ?_) hn hm (kd.keep hPs up)) (fun y s₃ hy => ?_) fun _ _ e => e
        · obtain ⟨m, hn1, hl1⟩ := I1.loc
          have hvis : Vis X.env.scope y := (hfs _ (PySem.mem_of_lookup f3) rfl).elim (fun k => .inr (.inl k)) (fun k => .inr (.inr k))
          obtain ⟨w', r, q⟩ := hl1 j y (.int zc) f1 f2 hvis
          obtain ⟨t, rfl⟩ := r
          obtain ⟨c2, h2⟩ : ∃ c2, (cloFrom X.env.cells scope.names []).lookup y = some c2 := mem_lookup (cloFrom_has (cells := X.env.cells) (acc := []) (PySem.mem_of_lookup f3))
          refine ⟨c2, t, h2, ?_⟩
          have c1 : X.env.cells.lookup y = some c2 := by
            rcases cloFrom_mem (PySem.mem_of_lookup h2) with hm' | ⟨_, g2⟩
            · cases hm'
            · obtain ⟨c1, hc⟩ := S.free _ (PySem.mem_of_lookup f3) rfl
              have hc : X.env.cells.lookup y = some c1 := hc
              have e2 : c2 = c1 := by
                rw [g2, hc] <;> rfl
              rw [e2]
              exact hc
          rcases q with ⟨k', _⟩ | ⟨_, c3, e', ⟨o3, g3, g4⟩⟩
          · have k' : X.env.scope.names.lookup y = some .local := k'
            rcases hfs _ (PySem.mem_of_lookup f3) rfl with k2 | k2 <;> rw [show X.env.scope.names.lookup y = _ from k2] at k' <;> cases k'
          · rw [c1] at e'
            cases e'
            exact ⟨o3, up _ _ (fun z => by rw [z, hPs] at g3; cases g3; cases g4) g3, g4⟩
        · obtain ⟨⟨t, rfl⟩, hk3⟩ := hy
          exact ⟨⟨_, t, hz, rfl⟩, hk3⟩
    · intro g h5 tk5 gs hgb hag hsz5 hk5 W5 hat
      simp only [GxR.passing_true, List.length_range] at W5
      have hn0 : its.toArray.size = ds.length := by rw [List.size_toArray, hlen]
      rw [hn0] at W5 hat
      have W6 := W5.in4_3
      rw [hzl] at W6 hat
      refine hQ ds zs H1 g _ hzl q1 ⟨_, _, _, _, _, W6, hat, fun i s' h' => ?_, fun b hb => ?_, List.mem_cons_self .., ?_, fun s' hm => ?_⟩
      · exact Heap.IsGen.typeIs h'.1
      · show b < h5.objs.size
        rw [hsz5]
        rcases List.mem_cons.mp hb with z | z
        · rw [z]; exact Nat.lt_succ_self _
        · rcases List.mem_cons.mp z with z | z
          · rw [z]; exact Nat.lt_succ_of_lt hag
          · exact Nat.lt_succ_of_lt (Nat.lt_trans (List.mem_range.mp z) hag)
      · intro j y hy
        obtain ⟨i, hij, z, t, hz, rfl⟩ := hy
        obtain ⟨hj, ej⟩ := List.getElem?_eq_some_iff.mp hij
        rw [List.getElem_range] at ej
        subst ej
        exact ⟨z, t, hz, rfl⟩
      · refine hfin s' hm.os (AllBare.movedS (I1.bare.push hgb) hm) fun b u hl hne e => hm.heap b u (fun z => ?_) (hk5 b u e)
        rcases List.mem_cons.mp z with z | z
        · rw [z] at hl
          exact Nat.lt_irrefl _ hl
        · rcases List.mem_cons.mp z with z | z
          · exact hne z
          · cases z
  refine ⟨lim2, ?_⟩
  cases hf : codeAmong gpos ps.toList with
  | none =>
    refine wpAny_genexprCodeX hcode (cd.code hP2 htr) (cd.tab hP2) hf fun c' h' tk hx hge hlt hco' hrec htab' _ => ?_
    obtain ⟨o1, vs, f1, tf, fl, tg, inF, tx, tt, op, _, _, _, _, _, _, _, _, _, htr', _⟩ := hco'
    refine cont _ h' tk hx (Nat.le_trans hge (Nat.le_of_lt hlt)) fun s' hos hgb hk => ?_
    have hge' : s1.heap.objs.size + 1 ≤ c' := Nat.le_trans (Nat.le_of_eq sz2.symm) hge
    have hcge : s1.heap.objs.size ≤ c' := Nat.le_trans (Nat.le_succ _) hge'
    have nC : H1 c' = none := I1.hok.fresh hcge
    obtain ⟨c2, oc, vs2, t2, e2, hoc, hdc, hvc⟩ := hrec
    cases e2
    have J := inv_table' (c := c') (q := X.env.qual ++ "<genexpr>") (more := #[rawInt gpos.line, rawInt gpos.col, .ref c']) (h' := s'.heap) (g' := s'.gens) (d' := s'.drawn) (t' := s'.toks) I1 hP
      (fun b u hb e => hk b u (Heap.lt_size (hx b u hb (Heap.get?_push_of_some _ e))) (Nat.ne_of_lt (Heap.lt_size e)) (hx b u hb (Heap.get?_push_of_some _ e)))
      (hk P _ (Nat.lt_trans (Nat.lt_of_lt_of_le hPlt hcge) hlt) (Nat.ne_of_lt hPlt) htab'.2) hcge ⟨oc, vs2, t2, hk c' _ hlt (Nat.ne_of_gt hge') hoc, hdc, hvc⟩ hgb
    rw [GxR.sh_eta s1 s' hos] at J
    refine ⟨_, fun b u e n => ?_, fun p hp => ?_, J⟩
    · rw [upd_ne (ne_of_none e nC), upd_ne (fun z => n ps (Option.some.inj (e.symm.trans (by rw [z]; exact hP))))]
      exact e
    · by_cases hb : p.1 = P
      · rw [hu p hp hb, hb]
        have eL : (ps ++ #[rawInt gpos.line, rawInt gpos.col, .ref c']).toList = ps.toList ++ [rawInt gpos.line, rawInt gpos.col, .ref c'] := by simp
        refine ⟨_, by rw [upd_ne (ne_of_none hP nC), upd_same], by rw [eL]; exact PySem.TriplesOk_snoc _ _ _ _ htr, fun p' cv hcv => ?_⟩
        rw [eL] at hcv
        rcases LamX.among_app _ htr hcv with z | z
        · obtain ⟨c0, e1, e2⟩ := hamong p' cv z
          refine ⟨c0, e1, ?_⟩
          rw [upd_ne (ne_of_none e2 nC), upd_ne (fun z => by rw [z] at e2; have h1 : H1 P = some (.tbl ps) := hP; rw [h1] at e2; exact LamX.codeO_ne ps (Option.some.inj e2).symm)]
          exact e2
        · exact ⟨c', z, upd_same⟩
      · obtain ⟨ps', a1, a2, a3⟩ := hTs p hp
        refine ⟨ps', by rw [upd_ne (ne_of_none a1 nC), upd_ne hb]; exact a1, a2, fun p' cv hcv => ?_⟩
        obtain ⟨c0, e1, e2⟩ := a3 p' cv hcv
        refine ⟨c0, e1, ?_⟩
        rw [upd_ne (ne_of_none e2 nC), upd_ne (fun z => by rw [z] at e2; have h1 : H1 P = some (.tbl ps) := hP; rw [h1] at e2; exact LamX.codeO_ne ps (Option.some.inj e2).symm)]
        exact e2
  | some cv =>
    refine wpAny_genexprCode_hit hcode (cd.code hP2 htr) hf ?_
    refine cont cv (s1.heap.push o) s1.toks (Heap.ExtBut.refl _ _) (Nat.le_refl _) fun s' hos hgb hk => ?_
    have J := inv_gens (h' := s'.heap) (g' := s'.gens) (d' := s'.drawn) (t' := s'.toks) I1 (fun b u e => hk b u (Nat.lt_trans (Heap.lt_size e) (by rw [sz2]; exact Nat.lt_succ_self _)) (Nat.ne_of_lt (Heap.lt_size e)) (Heap.get?_push_of_some _ e)) hgb
    rw [GxR.sh_eta s1 s' hos] at J
    exact ⟨H1, fun _ _ e _ => e, hTs, J⟩theorem vals_ints : ∀ (zs : List Int) (ys : List Value), ys.length = zs.length → (∀ (j : Nat) (y : Value), ys[j]? = some y → ∃ z t, zs[j]? = some z ∧ y = .int z t) → Vals (zs.map V.int) ys
  | [], [], _, _ => .nil
  | [], _ :: _, h, _ => by cases h
  | _ :: _, [], h, _ => by cases h
  | z :: zs, y :: ys, h, k => by
    obtain ⟨z', t, e1, e2⟩ := k 0 y rfl
    cases e1
    exact .cons ⟨t, e2⟩ (vals_ints zs ys (Nat.succ.inj h) fun j y' e => by
      obtain ⟨z', t', e1, e2⟩ := k (j + 1) y' (by simpa using e)
      exact ⟨z', t', by simpa using e1, e2⟩)
def tTupZ (X : Cx) (scope : Scope) (x : Str) (elt : Expr) (T : List (Addr × Str)) (te : TE) : TE := fun σ H Q => te σ H fun v H1 => ∃ a xs ds zs, v = .ref a ∧ H1 a = some (.tup xs) ∧ RpL H1 xs ds ∧ LamX.Tabs T H1 ∧ EltsZ X scope x elt σ ds zs ∧
  (zs.length ≤ sizeLine ∧ ∀ H2, (∀ b o, H1 b = some o → NT o → H2 b = some o) → LamX.Tabs T H2 → ∀ q, H2 q = none → Q (.ref q) (upd H2 q (.tup (zs.map V.int))))
end
section
variable {X : Cx}
def gxB (sc scope : Scope) (x : Str) : Bool :=
  decide (scope.kind = .function) && !scope.isCoroutine && decide (scope.names.lookup (".0" : Str) = some .local) && decide (scope.names.lookup x = some .local) && scope.names.all fun y => !decide (y.2 = .cell) && (!decide (y.2 = .free) || decide (sc.names.lookup y.1 = some .cell) || decide (sc.names.lookup y.1 = some .free))
theorem gx_of {scope : Scope} {x : Str} (ok : X.Ok) (h : gxB X.env.scope scope x = true) : GxR.GenS X.env scope x ∧ ∀ y ∈ scope.names, y.2 = .free → X.env.scope.names.lookup y.1 = some .cell ∨ X.env.scope.names.lookup y.1 = some .free := by
  unfold gxB at h
  simp only [Bool.and_eq_true, Bool.or_eq_true, Bool.not_eq_true', decide_eq_true_eq, decide_eq_false_iff_not, List.all_eq_true] at h
  obtain ⟨⟨⟨⟨h1, h2⟩, h3⟩, h4⟩, h5⟩ := h
  have hf : ∀ y ∈ scope.names, y.2 = .free → X.env.scope.names.lookup y.1 = some .cell ∨ X.env.scope.names.lookup y.1 = some .free := fun y hy e => by
    rcases (h5 y hy).2 with (z | z) | z
    · exact absurd e z
    · exact .inl z
    · exact .inr z
  exact ⟨⟨h1, h2, fun y hy => (h5 y hy).1, h3, h4, fun y hy e => (hf y hy e).elim (fun k => ok.has _ (.inl k)) (fun k => ok.has _ (.inr k))⟩, hf⟩
theorem pe_tupZ {c P : Addr} {iter elt : Expr} {x : Str} {px p pos gpos : Pos} {scope : Scope} {te : TE} {k : Nat} {T : List (Addr × Str)}
    (hr : Room (k + 2) X.A) (hg : Gl X "tuple") (hm : X.mg "tuple" = none) (TB : LamX.TabB X.base X.mg c P) (hcode : X.env.code = .ref c) (S0 : gxB X.env.scope scope x = true) (hi : PE X iter te)
    (hmT : (P, X.env.qual ++ "<genexpr>") ∈ T) (hu : ∀ p ∈ T, p.1 = P → p.2 = X.env.qual ++ "<genexpr>") (hs : ∀ v, genFold iter X.env v = pure v)
    (he : starEach [.GeneratorExp elt [⟨.Name x px, iter, [], 0⟩] scope gpos] X.env = (false, eval (.GeneratorExp elt [⟨.Name x px, iter, [], 0⟩] scope gpos) X.env) :: starEach [] X.env := by rfl) :
    PE X (.Call (.Name "tuple" p) [.GeneratorExp elt [⟨.Name x px, iter, [], 0⟩] scope gpos] [] pos) (tTupZ X scope x elt T te) := by
  refine ⟨fun pins s σ H Q I h => ?_⟩
  obtain ⟨S, hfs⟩ := gx_of I.ok S0
  refine wpAny_Call_Name_kw (ld_blt I hg hm bb_tuple ?_)
  refine PyProof.Rows.callWith_type1 ?_ he rfl
  rw [he]
  show wpAny _ _ (spliced ((false, eval (.GeneratorExp elt [⟨.Name x px, iter, [], 0⟩] scope gpos) X.env) :: backTo pos (starEach [] X.env))) _ _ s
  refine Calls.spliced_cons (gen_tupz (R := fun ds zs H1 => zs.length ≤ sizeLine ∧ ∀ H2 : Hp, (∀ (b : Addr) (o : HO), H1 b = some o → NT o → H2 b = some o) → LamX.Tabs T H2 → ∀ q, H2 q = none → Q (.ref q) (upd H2 q (.tup (zs.map V.int)))) hr TB hcode S hfs hi hmT hu hs I h fun ds zs H1 g s5 hl hR hG => ?_)
  obtain ⟨fp, wr, G, F, St, W, hst, hT, hfp, hgf, hF, hI⟩ := hG
  refine Calls.spliced_nil ?_
  refine call_tuple_gen (hsz := hR.1) W hT hst hfp hgf fun s' acc hmv hacc => ?_
  obtain ⟨H2, hK, hT2, J⟩ := hI s' hmv
  refine ⟨.ref s'.heap.objs.size, upd H2 s'.heap.objs.size (.tup (zs.map V.int)), J.laid (t' := s'.toks) (fun b o e => Heap.get?_push_of_some _ e) (Nat.le_refl _) ?_, rfl, hR.2 H2 hK hT2 _ (J.hok.fresh (Nat.le_refl _))⟩
  refine ⟨by rw [List.length_map]; exact hR.1, acc.toList, vals_ints zs acc.toList (by rw [Array.length_toList]; exact hacc.1) fun j y e => hF j y (hacc.2 j y (by simpa using e)), ?_⟩
  exact ⟨_, Heap.get?_push_size _ rfl, rfl, 0, by simp⟩
/-! the elements -/
def EltD (X : Cx) (scope : Scope) (x : Str) (elt : Expr) (f : En → PyData → Option Int) : Prop := ∀ (c : Option Addr) (H0 : Hp) (σ : L2.St) (H G : Hp) (ρ : En), Rep c H0 σ H G ρ → ∀ d z, f ρ d = some z → EltZ X scope x elt σ d z
section
variable {scope : Scope} {x y : Str} {p p1 p2 : Pos} {fa fb ft : En → PyData → Option Int} {a b e : Expr}
theorem ei_item (hk : scope.kind = .function) (hl : scope.names.lookup x = some .local) (hd : (x == ("__debug__" : Str)) = false := by decide) : EltD X scope x (.Name x p) (fun _ d => dInt d) := by
  intro c H0 σ H G ρ r d z hz cenv A' E' s m v hsc hc hn hm hv
  have hz : dInt d = some z := hz
  have ed : d = .int z := by cases d <;> first | (cases hz; rfl) | cases hz
  subst ed
  obtain ⟨t, rfl⟩ := (show ∃ t, v = Value.int z t from hv)
  exact wpAny_Name (wpAny_loadName_local (by rw [hsc]; exact hk) (show cenv.scope.names.lookup x = some .local by rw [hsc]; exact hl) hn hm ⟨⟨t, rfl⟩, GxR.keeps_refl _⟩) hd
def atZ (i : Nat) (ρ : En) : Option Int := match ρ[i]? with
  | some (.dat (.int z)) => some z
  | _ => none
theorem ei_cell {i : Nat} (hk : scope.kind = .function) (hN : X.N[i]? = some y) (hl : scope.names.lookup y = some .free) (hd : (y == ("__debug__" : Str)) = false := by decide) (hcd : (y == ("__classdict__" : Str)) = false := by decide) : EltD X scope x (.Name y p) (fun ρ _ => atZ i ρ) := by
  intro c H0 σ H G ρ r d z hz cenv A' E' s m v hsc hc hn hm hv
  have e : ρ[i]? = some (.dat (.int z)) := by
    have hz : atZ i ρ = some z := hz
    unfold atZ at hz
    split at hz
    · rename_i e; cases hz; exact e
    · cases hz
  obtain ⟨w, e1, rw'⟩ := r.dat i _ e
  have ew := rw'.int_of
  subst ew
  obtain ⟨cc, t, h1, h2⟩ := hc i y z hN e1 hl
  exact wpAny_Name (wpAny_loadName_free (by rw [hsc]; exact hk) (show cenv.scope.names.lookup y = some .free by rw [hsc]; exact hl) h1 h2 ⟨⟨t, rfl⟩, GxR.keeps_refl _⟩ hcd) hd
theorem ei_const {i : Int} {j : Nat} : EltD X scope x (.Constant (.int i) j p) (fun _ _ => some i) := by
  intro c H0 σ H G ρ r d z hz cenv A' E' s m v hsc hc hn hm hv
  cases hz
  exact wpAny_Constant_int ⟨⟨_, rfl⟩, GxR.keeps_tok _ _⟩
theorem CellsOk.keep {σ : L2.St} {cells : List (Str × Addr)} {h h' : Heap} (k : CellsOk X scope σ cells h) (e : ∀ b o, h.get? b = some o → h'.get? b = some o) : CellsOk X scope σ cells h' := fun i y z h1 h2 h3 =>
  let ⟨c, t, e1, e2⟩ := k i y z h1 h2 h3
  ⟨c, t, e1, e2.keeps e⟩
theorem DV.keeps {h h' : Heap} {u : Value} (k : ∀ b o, h.get? b = some o → h'.get? b = some o) {d : PyData} (x : DV h u d) : DV h' u d := by
  cases d with
  | int i => exact x
  | tuple ds =>
    obtain ⟨a, its, e, ⟨o, e1, e2, e3⟩, r⟩ := x
    exact ⟨a, its, e, ⟨o, k a o e1, e2, e3⟩, r⟩
  | _ => trivial
theorem ei_div (ha : EltD X scope x a fa) (hb : EltD X scope x b fb) : EltD X scope x (.BinOp a .FloorDiv b p) (fun ρ d => (fa ρ d).bind fun i => (fb ρ d).bind fun j => if divOk i j = true then some (i.fdiv j) else none) := by
  intro c H0 σ H G ρ r d z hz cenv A' E' s m v hsc hc hn hm hv
  obtain ⟨i, e1, hz⟩ := Option.bind_eq_some_iff.mp hz
  obtain ⟨j, e2, hz⟩ := Option.bind_eq_some_iff.mp hz
  split at hz
  case isFalse => cases hz
  rename_i ho
  cases hz
  unfold divOk at ho
  rw [Bool.and_eq_true, decide_eq_true_eq, decide_eq_true_eq] at ho
  refine wpAny_BinOp (wpAny_mono (ha c H0 σ H G ρ r d i e1 cenv A' E' s m v hsc hc hn hm hv) (fun u s1 hu => ?_) fun _ _ e => e)
  obtain ⟨⟨t, rfl⟩, h1, t1, rfl, k1⟩ := hu
  refine wpAny_mono (hb c H0 σ H G ρ r d j e2 cenv A' E' _ m v hsc (hc.keep k1) (hn.keeps k1) hm (hv.keeps k1)) (fun u s1 hu => ?_) fun _ _ e => e
  obtain ⟨⟨t2, rfl⟩, h2, t3, rfl, k2⟩ := hu
  exact floordiv_int ho.1 ⟨⟨_, rfl⟩, ⟨h2, _, rfl, fun b o e => k2 b o (k1 b o e)⟩⟩ (.inl (PyProof.noPylong_of_log2 ho.2))
theorem ei_ifc (ht : EltD X scope x e ft) (ha : EltD X scope x a fa) (hb : EltD X scope x b fb) (he : ∀ (cenv : Env) whole, isTrue e cenv whole = (do let v ← whole; standAt e.pos; holding [v] (truthy v)) := by intro _ _; rfl) :
    EltD X scope x (.IfExp e a b p) (fun ρ d => (ft ρ d).bind fun i => if i ≠ 0 then fa ρ d else fb ρ d) := by
  intro c H0 σ H G ρ r d z hz cenv A' E' s m v hsc hc hn hm hv
  obtain ⟨i, e1, hz⟩ := Option.bind_eq_some_iff.mp hz
  refine wpAny_IfExp (isTrue_plain (wpAny_mono (ht c H0 σ H G ρ r d i e1 cenv A' E' s m v hsc hc hn hm hv) (fun u s1 hu => ?_) fun _ _ e => e) (he _ _))
  obtain ⟨⟨t, rfl⟩, h1, t1, rfl, k1⟩ := hu
  refine PySem.P.truthy_int ?_
  by_cases h0 : i = 0
  · rw [if_neg (fun z => z h0)] at hz
    subst h0
    refine wpAny_mono (hb c H0 σ H G ρ r d z hz cenv A' E' _ m v hsc (hc.keep k1) (hn.keeps k1) hm (hv.keeps k1)) (fun u s1 hu => ?_) fun _ _ e => e
    obtain ⟨⟨t2, rfl⟩, h2, t3, rfl, k2⟩ := hu
    exact ⟨⟨_, rfl⟩, ⟨h2, _, rfl, fun b o e => k2 b o (k1 b o e)⟩⟩
  · rw [if_pos h0] at hz
    have hb' : (i != 0) = true := by simpa using h0
    rw [hb']
    refine wpAny_mono (ha c H0 σ H G ρ r d z hz cenv A' E' _ m v hsc (hc.keep k1) (hn.keeps k1) hm (hv.keeps k1)) (fun u s1 hu => ?_) fun _ _ e => e
    obtain ⟨⟨t2, rfl⟩, h2, t3, rfl, k2⟩ := hu
    exact ⟨⟨_, rfl⟩, ⟨h2, _, rfl, fun b o e => k2 b o (k1 b o e)⟩⟩
def pickZ (k : Nat) : PyData → Option Int
  | .tuple ds => (match ds[k]? with
    | some (.int z) => some z
    | _ => none)
  | _ => none
theorem ei_pick {k : Nat} {j : Nat} (hk : scope.kind = .function) (hl : scope.names.lookup x = some .local) (h63 : k < 1000) (hd : (x == ("__debug__" : Str)) = false := by decide) : EltD X scope x (.Subscript (.Name x p1) (.Constant (.int k) j p2) p) (fun _ d => pickZ k d) := by
  intro c H0 σ H G ρ r d z hz cenv A' E' s m v hsc hc hn hm hv
  cases d with
  | tuple ds =>
    have e : ds[k]? = some (.int z) := by
      have hz : pickZ k (.tuple ds) = some z := hz
      unfold pickZ at hz
      dsimp only at hz
      split at hz
      · rename_i e; cases hz; exact e
      · cases hz
    obtain ⟨a, its, rfl, ht, hlen, hz2⟩ := hv
    obtain ⟨t, ei⟩ := hz2 k z e
    refine Subscript_ (wpAny_Name (wpAny_loadName_local (by rw [hsc]; exact hk) (show cenv.scope.names.lookup x = some .local by rw [hsc]; exact hl) hn hm ?_) hd)
    refine wpAny_Constant_int ?_
    have hlt : k < its.length := (List.getElem?_eq_some_iff.mp ei).1
    refine subscriptTail_builtinR (s := { s with toks := s.toks + 1 }) (x := .int z t) (IsTup.typeIs ht) slot_tuple_getitem.lookup
      (getItem_tuple (j := k) (Q := fun r s' => r = .int z t ∧ ((∃ t, r = .int z t) ∧ Keeps s s')) ht (by omega) (by omega) ?_ (by simpa using ei) ⟨rfl, ⟨t, rfl⟩, GxR.keeps_tok _ _⟩) rfl
    rw [List.size_toArray]
    unfold seqIndex?
    have h1 : ¬ ((k : Int) < 0) := by omega
    simp [h1]
    omega
  | _ => cases hz
end
def mapO (f : PyData → Option Int) : List PyData → Option (List Int)
  | [] => some []
  | d :: r => (f d).bind fun z => (mapO f r).map fun zs => z :: zs
theorem mapO_get {f : PyData → Option Int} : ∀ {ds : List PyData} {zs : List Int}, mapO f ds = some zs → ds.length = zs.length ∧ ∀ (i : Nat) (d : PyData) (z : Int), ds[i]? = some d → zs[i]? = some z → f d = some z
  | [], zs, h => by cases h; exact ⟨rfl, fun i d z e => by simp at e⟩
  | d :: r, zs, h => by
    obtain ⟨z, e1, h⟩ := Option.bind_eq_some_iff.mp h
    obtain ⟨zs', e2, rfl⟩ := Option.map_eq_some_iff.mp h
    obtain ⟨h1, h2⟩ := mapO_get e2
    refine ⟨by simp [h1], fun i d' z' e3 e4 => ?_⟩
    cases i with
    | zero => cases e3; cases e4; exact e1
    | succ i => exact h2 i d' z' (by simpa using e3) (by simpa using e4)
def gTupZ (f : En → PyData → Option Int) (g : GE) : GE := fun ρ cu => (g ρ cu).bind fun d cu1 => match d with
  | .tuple ds => .ofO ((mapO (f ρ) ds).bind fun zs => if zs.length ≤ 16777216 then some (.tuple (zs.map .int)) else none) cu1
  | _ => .stuck
theorem pd_tupZ {K : Kx} {E : XK} {c P : Addr} {iter elt : Expr} {x : Str} {px p pos gpos : Pos} {scope : Scope} {te : TE} {ge : GE} {k : Nat} {f : En → PyData → Option Int}
    (hr : Room (k + 2) X.A) (hg : Gl X "tuple") (hm : X.mg "tuple" = none) (TB : LamX.TabB X.base X.mg c P) (hcode : X.env.code = .ref c) (S0 : gxB X.env.scope scope x = true) (hi : PD X K E iter te ge)
    (hmT : (P, X.env.qual ++ "<genexpr>") ∈ K.T) (hu : ∀ p ∈ K.T, p.1 = P → p.2 = X.env.qual ++ "<genexpr>") (hel : EltD X scope x elt f) (hs : ∀ v, genFold iter X.env v = pure v)
    (he : starEach [.GeneratorExp elt [⟨.Name x px, iter, [], 0⟩] scope gpos] X.env = (false, eval (.GeneratorExp elt [⟨.Name x px, iter, [], 0⟩] scope gpos) X.env) :: starEach [] X.env := by rfl) :
    PD X K E (.Call (.Name "tuple" p) [.GeneratorExp elt [⟨.Name x px, iter, [], 0⟩] scope gpos] [] pos) (tTupZ X scope x elt K.T te) (gTupZ f ge) := by
  refine ⟨pe_tupZ hr hg hm TB hcode S0 hi.pe hmT hu hs he, fun c0 H0 G0 σ H G ρ cu Q s q => ?_⟩
  refine hi.sem c0 H0 G0 σ H G ρ cu _ s (q.bind.imp fun d H1 G1 cu1 x1 w1 q1 v rv => ?_)
  split at q1
  · rename_i ds
    obtain ⟨a, xs, rfl, e1, r1⟩ := rv.tup_of
    obtain ⟨z, ez, q2⟩ := q1.ofO
    obtain ⟨zs, em, ez⟩ := Option.bind_eq_some_iff.mp ez
    split at ez
    case isFalse => cases ez
    rename_i hle
    cases ez
    obtain ⟨m1, m2⟩ := mapO_get em
    refine ⟨a, xs, ds, zs, rfl, w1.sub _ _ e1, r1.mono w1.sub, w1.tab, ⟨m1, fun i d z e2 e3 => hel c0 H0 σ H G ρ s.rep d z (m2 i d z e2 e3)⟩, hle, fun H2 k2 T2 l hl => ?_⟩
    have x2 : Ext c0 H1 G1 H2 G1 := ⟨fun b o e n _ => k2 b o e n, fun b o e n => ⟨o, k2 b o e n, n⟩, fun _ _ e => e, fun _ _ _ _ e => e⟩
    have w2 : Wd K c0 H2 G1 cu1 := by
      refine ⟨fun b o e => k2 b o (w1.sub _ _ e) fun ps z => w1.nt b ps (by rw [← z]; exact e), T2, w1.nt, fun a ha => ?_⟩
      obtain ⟨h1, h2⟩ := w1.cup a ha
      exact ⟨k2 _ _ h1 nt_lst, h2⟩
    have rz : RpL G1 (zs.map V.int) (zs.map PyData.int) := rpl_ints zs
    exact new_tup (Q := Q) w2 rz (fun v' H' G' x w r => q2 H' G' (x2.trans x) w v' r) hl
  · exact q1.elim
end
end DL

set_option Elab.async false
set_option linter.all false
set_option maxRecDepth 100000
set_option maxHeartbeats 2000000
set_option autoImplicit false
/-! a in range(..), tuples repeated -/
namespace DL
open PySem PySem.Spec PyProof.Rows L2
section
variable {X : Cx} {K : Kx} {E : XK} {a : Expr} {ta : TE} {ga : GE} {pos : Pos}
theorem Post.ofB {c : Option Addr} {H G : Hp} {α β : Type} {o : Option α} {f : α → Option β} {cu : Cu} {Q : β → Hp → Hp → Cu → Prop} (h : Post K E c H G (Rs.ofO (o.bind f) cu) Q) : ∃ a b, o = some a ∧ f a = some b ∧ ∀ H' G', Ext c H G H' G' → Wd K c H' G' cu → Q b H' G' cu := by
  obtain ⟨b, e, q⟩ := h.ofO
  obtain ⟨x, e1, e2⟩ := Option.bind_eq_some_iff.mp e
  exact ⟨x, b, e1, e2, q⟩
def dInR : PyData → List PyData → Option PyData
  | .int i, [.int lo, .int hi] => some (.bool (decide (lo ≤ i ∧ i < hi)))
  | _, _ => none
def gInR (ga : GE) (g : GA) : GE := fun ρ cu => (ga ρ cu).bind fun d cu1 => (g ρ cu1).bind fun as cu2 => .ofO ((dats as).bind fun ds => dInR d ds) cu2
abbrev rInR : R2 := fun x y H Q => ∃ i a lo hi, x = V.int i ∧ y = V.ref a ∧ H a = some (.rng lo hi) ∧ Q (.bl (decide (lo ≤ i ∧ i < hi))) H
abbrev rRg2 : List V → Hp → VK → Prop := fun vs H Q => ∃ i j, vs = [V.int i, V.int j] ∧ ∀ p, H p = none → Q (.ref p) (upd H p (.rng i j))
theorem sem_inR {t : TA} {g : GA} (ha : SemE K E ta ga) (hb : SemA K E t g) : SemE K E (tOp rInR ta (tCB rRg2 t)) (gInR ga g) := by
  intro c H0 G0 σ H G ρ cu Q s q
  refine ha c H0 G0 σ H G ρ cu _ s (q.bind.imp fun d H1 G1 cu1 x1 w1 q1 v rv => ?_)
  have s1 := s.go x1 w1
  refine hb c H0 G0 σ H1 G1 ρ cu1 _ s1 (q1.bind.imp fun as H2 G2 cu2 x2 w2 q2 vs rvs => ?_)
  obtain ⟨ds, z, e1, e2, q3⟩ := q2.ofB
  have rr := dats_rp rvs e1
  unfold dInR at e2
  split at e2
  · rename_i i lo hi
    cases e2
    obtain ⟨v1, v2, rfl, r1, r2⟩ := rr.two
    refine ⟨lo, hi, by rw [r1.int_of, r2.int_of], fun p hp => ?_⟩
    have hp2 : H2 p = none := hp
    obtain ⟨x3, w3, _⟩ := w2.newH (o := .rng lo hi) hp2
    exact ⟨i, p, lo, hi, rv.int_of, rfl, upd_same, q3 _ _ x3 w3 _ (.bl _)⟩
  · cases e2
section
variable {b d : Expr} {p : Pos} {pos2 : Pos} {t : TA} {g : GA}
theorem pd_inR (ha : PD X K E a ta ga) (hg : Gl X "range") (hm : X.mg "range" = none) (hb : PAD X K E [b, d] t g) (hmk : behindInMarks .In (.Call (.Name "range" p) [b, d] [] pos2) = false := by rfl)
    (he : starEach [b, d] X.env = (false, eval b X.env) :: starEach [d] X.env := by rfl) (hpl : (backTo pos2 (starEach [d] X.env)).any (·.1) = false := by rfl) :
    PD X K E (.Compare a [.In] [.Call (.Name "range" p) [b, d] [] pos2] pos) (tOp rInR ta (tCB rRg2 t)) (gInR ga g) :=
  ⟨pe_cmpR op_in_rng ha.pe (pe_callTy cr_range2 hg hm (show bootBuiltins "range" = some (.type "range") from by decide +kernel) hb.pa (by decide) (by decide) he hpl) hmk, sem_inR ha.sem hb.sem⟩
theorem ptd_inR (ha : PD X K E a ta ga) (hg : Gl X "range") (hm : X.mg "range" = none) (hb : PAD X K E [b, d] t g) (hmk : behindInMarks .In (.Call (.Name "range" p) [b, d] [] pos2) = false := by rfl)
    (he : starEach [b, d] X.env = (false, eval b X.env) :: starEach [d] X.env := by rfl) (hpl : (backTo pos2 (starEach [d] X.env)).any (·.1) = false := by rfl) :
    PTD X K E (.Compare a [.In] [.Call (.Name "range" p) [b, d] [] pos2] pos) (tTest (tOp rInR ta (tCB rRg2 t))) (gBool (gInR ga g)) :=
  ⟨pt_cmpR op_in_rng ha.pe (pe_callTy cr_range2 hg hm (show bootBuiltins "range" = some (.type "range") from by decide +kernel) hb.pa (by decide) (by decide) he hpl) hmk, sem_test (sem_inR ha.sem hb.sem)⟩
end
/-! tuples repeated -/
def dMulT : PyData → PyData → Option PyData
  | .tuple xs, .int k => if 2 ≤ k ∧ k ≤ 1000 ∧ xs.length ≤ 1000 ∧ xs ≠ [] then some (.tuple (List.replicate k.toNat xs).flatten) else none
  | d, e => dMul d e
theorem op_mulDT : OpR X (binaryOp .Mult) (fun x y H Q => rMulD x y H Q ∨ rRepT X.K x y H Q) := OpR.or op_mulD op_repT
theorem opD_mulT : OpD K (fun x y H Q => rMulD x y H Q ∨ rRepT X.K x y H Q) dMulT := by
  intro c H G cu v w d e z Q wd r1 r2 hz q
  unfold dMulT at hz
  split at hz
  · split at hz
    · rename_i xs k hc
      cases hz
      obtain ⟨a, vs, rfl, ha, ra⟩ := r1.tup_of
      have hl := ra.length
      refine .inr ⟨a, k, vs, rfl, r2.int_of, SqT.of (wd.sub _ _ ha), fun z => hc.2.2.2 ?_, hc.1, hc.2.1, by omega, fun p hp => new_tup wd (ra.rep _) q hp⟩
      rw [z] at hl
      exact List.eq_nil_of_length_eq_zero (by rw [← hl]; rfl)
    · cases hz
  · exact .inl (opD_mul c H G cu v w d e z Q wd r1 r2 hz q)
theorem dMulT_int {i j : Int} (h : mulOk i j = true) : dMulT (.int i) (.int j) = some (.int (i * j)) := if_pos h
end
end DL

set_option Elab.async false
set_option linter.all false
set_option maxRecDepth 100000
set_option maxHeartbeats 2000000
set_option autoImplicit false
set_option exponentiation.threshold 4000
/-! reckoning: tuples and lists of numbers -/
namespace DL
open PySem PySem.Spec L2
abbrev tupI (zs : List Int) : PyData := .tuple (zs.map .int)
abbrev lstI (zs : List Int) : PyData := .list (zs.map .int)
section
variable {i j lo hi : Int} {xs ys ds : List PyData} {zs ws : List Int} {n : Nat} {cu : Cu} {ρ : En}
theorem dMax2_int : dMax2 [.int i, .int j] = some (.int (if j > i then j else i)) := rfl
theorem dInR_int : dInR (.int i) [.int lo, .int hi] = some (.bool (decide (lo ≤ i ∧ i < hi))) := rfl
theorem cutD_take (h : n ≤ xs.length) : cutD xs none (some (n : Int)) = xs.take n := by
  unfold cutD
  rw [HT.sIx_none, HT.sIx_nat, List.drop_zero, Nat.min_eq_left h, Nat.sub_zero]
theorem cutD_drop (h : n ≤ xs.length) : cutD xs (some (n : Int)) none = xs.drop n := by
  unfold cutD
  rw [HT.sIx_nat, HT.sIx_none, Nat.min_eq_left h, ← List.length_drop, List.take_length]
theorem cutI_take (h0 : 0 ≤ i) (h : i ≤ zs.length) : cutD (zs.map .int) none (some i) = (zs.take i.toNat).map .int := by
  have := cutD_take (xs := zs.map PyData.int) (n := i.toNat) (by rw [List.length_map]; omega)
  rw [Int.toNat_of_nonneg h0] at this
  rw [this, List.map_take]
theorem cutI_drop (h0 : 0 ≤ i) (h : i ≤ zs.length) : cutD (zs.map .int) (some i) none = (zs.drop i.toNat).map .int := by
  have := cutD_drop (xs := zs.map PyData.int) (n := i.toNat) (by rw [List.length_map]; omega)
  rw [Int.toNat_of_nonneg h0] at this
  rw [this, List.map_drop]
theorem intsD_map : intsD (zs.map .int) = some zs := by
  induction zs with
  | nil => rfl
  | cons z r ih => rw [List.map_cons, intsD, ih]; rfl
theorem dSum_ints : dSum [lstI zs] = some (.int zs.sum) := by
  show (intsD (zs.map .int)).map _ = _
  rw [intsD_map]; rfl
theorem dMaxL_of {m : Int} (h1 : m ∈ zs) (h2 : ∀ z ∈ zs, z ≤ m) : dMaxL [lstI zs] = some (.int m) := by
  show (intsD (zs.map .int)).bind _ = _
  rw [intsD_map]
  show (zs.max?.map PyData.int) = _
  rw [List.max?_eq_some_iff.mpr ⟨h1, h2⟩]; rfl
theorem dMinL_of {m : Int} (h1 : m ∈ zs) (h2 : ∀ z ∈ zs, m ≤ z) : dMinL [lstI zs] = some (.int m) := by
  show (intsD (zs.map .int)).bind _ = _
  rw [intsD_map]
  show (zs.min?.map PyData.int) = _
  rw [List.min?_eq_some_iff.mpr ⟨h1, h2⟩]; rfl
theorem all_ints : (zs.map PyData.int).all isIntD = true := by
  rw [List.all_eq_true]
  intro d hd
  obtain ⟨z, _, rfl⟩ := List.mem_map.mp hd
  rfl
theorem blsD_map {bs : List Bool} : blsD (bs.map .bool) = some bs := by
  induction bs with
  | nil => rfl
  | cons z r ih => rw [List.map_cons, blsD, ih]; rfl
theorem dAllL_bls {bs : List Bool} : dAllL [.list (bs.map .bool)] = some (.bool (bs.all id)) := by
  show (blsD (bs.map .bool)).map _ = _
  rw [blsD_map]; rfl
theorem zipI : zipD (zs.map .int) (ws.map .int) = (List.zip zs ws).map fun p => .tuple [.int p.1, .int p.2] := by
  unfold zipD
  induction zs generalizing ws with
  | nil => rfl
  | cons z r ih =>
    cases ws with
    | nil => rfl
    | cons w s => simp only [List.map_cons, List.zipWith_cons_cons, List.zip_cons_cons, ih]
theorem dZip_ints : dZip [tupI zs, tupI ws] = some ((List.zip zs ws).map fun p => .tuple [.int p.1, .int p.2]) := by
  show some (zipD _ _) = _
  rw [zipI]
theorem dLen_tupI : dLen [tupI zs] = some (.int zs.length) := by
  show some (PyData.int ((zs.map PyData.int).length : Int)) = _
  rw [List.length_map]
theorem atI_map {n : Nat} {z : Int} (h : zs[n]? = some z) : atI (zs.map PyData.int) (n : Int) = some (.int z) := atI_nat (by rw [List.getElem?_map, h]; rfl)
/-- a comprehension whose element is a number -/
theorem gLcL_map {gg : GG} {ge : GE} (f : PyData → PyData) (h : ∀ d ∈ ds, ∃ ρ1, gg d ρ = some ρ1 ∧ ge ρ1 cu = .ok (f d) cu) : gLcL gg gYes ge ds ρ cu = .ok (ds.map f) cu := by
  have z := gLcL_pure (gg := gg) (gt := gYes) (ge := ge) (cu := cu) (ρ := ρ) (fun _ => true) f (ds := ds) fun d hd => by
    obtain ⟨ρ1, h1, h2⟩ := h d hd
    exact ⟨ρ1, h1, rfl, fun _ => h2⟩
  rw [z, List.filter_eq_self.mpr fun _ _ => rfl]
theorem eqL_nil' : dNe (.list []) (.list []) = some (.bool false) := rfl
theorem eqL_nil2 : dEq (.list []) (.list []) = some (.bool true) := rfl
theorem lay_ints : ∀ {ds : List PyData}, (∀ d ∈ ds, ∃ i, d = .int i) → PyData.canLayAll0 ds = true ∧ PyData.depthAll ds = 0
  | [], _ => by simp [PyData.canLayAll0, PyData.depthAll]
  | d :: r, h => by
    obtain ⟨i, rfl⟩ := h d (List.mem_cons_self ..)
    have := lay_ints (ds := r) fun d hd => h d (List.mem_cons_of_mem _ hd)
    simp [PyData.canLayAll0, PyData.depthAll, PyData.canLay0, PyData.depth, this]
theorem shaped_lst (h : ∀ d ∈ ds, ∃ i, d = .int i) : SeqAt.shaped (.list ds) = true := by
  obtain ⟨h1, h2⟩ := lay_ints h
  cases ds with
  | nil => simp [SeqAt.shaped, PyData.canLay0, PyData.canLayAll0, PyData.depth, PyData.depthAll]
  | cons d r =>
    unfold SeqAt.shaped
    rw [show (PyData.list (d :: r)).canLay0 = PyData.canLayAll0 (d :: r) from by simp only [PyData.canLay0], h1, show (PyData.list (d :: r)).depth = PyData.depthAll (d :: r) + 1 from by simp only [PyData.depth], h2]
    rfl
theorem dNe_nil {ds : List PyData} (h : ∀ d ∈ ds, ∃ i, d = .int i) : dNe (.list ds) (.list []) = some (.bool (!ds.isEmpty)) := by
  have s1 := shaped_lst h
  have s2 : SeqAt.shaped (.list []) = true := shaped_lst (ds := []) fun d hd => nomatch hd
  cases ds with
  | nil => rfl
  | cons d r => simp [dNe, eqD, s1, s2, PyData.eqv, PyData.eqvAll]
theorem dEq_nil {ds : List PyData} (h : ∀ d ∈ ds, ∃ i, d = .int i) : dEq (.list ds) (.list []) = some (.bool ds.isEmpty) := by
  have s1 := shaped_lst h
  have s2 : SeqAt.shaped (.list []) = true := shaped_lst (ds := []) fun d hd => nomatch hd
  cases ds with
  | nil => rfl
  | cons d r => simp [dEq, eqD, s1, s2, PyData.eqv, PyData.eqvAll]
theorem rng_mem {lo : Int} {n : Nat} {d : PyData} : d ∈ rngD lo n ↔ ∃ i : Nat, i < n ∧ d = .int (lo + (i : Int)) := by
  unfold rngD
  rw [List.mem_map]
  constructor
  · rintro ⟨i, hi, rfl⟩; exact ⟨i, List.mem_range.mp hi, rfl⟩
  · rintro ⟨i, hi, rfl⟩; exact ⟨i, List.mem_range.mpr hi, rfl⟩
theorem rng_len {lo : Int} {n : Nat} : (rngD lo n).length = n := by unfold rngD; rw [List.length_map, List.length_range]
end
theorem up {x : Int} {n m : Nat} (h : x.natAbs < 2 ^ n) (hm : n ≤ m := by decide) : x.natAbs < 2 ^ m := Nat.lt_of_lt_of_le h (Nat.pow_le_pow_right (by decide) hm)
theorem le_mul1 {a b : Int} (ha : 1 ≤ a) (hb : 0 ≤ b) : b ≤ a * b := by
  have := Int.mul_le_mul_of_nonneg_right ha hb
  omega
theorem pos_l {a b : Int} (h : 0 < a * b) (hb : 0 ≤ b) : 1 ≤ a := by
  have hb' : 0 < b := by
    rcases Int.lt_or_eq_of_le hb with h1 | h1
    · exact h1
    · rw [← h1, Int.mul_zero] at h; omega
  have := Int.pos_of_mul_pos_left h hb'
  omega
end DL

set_option Elab.async false
set_option linter.all false
set_option maxRecDepth 100000
set_option maxHeartbeats 4000000
set_option autoImplicit false
namespace Prog
open PySem PySem.Spec PyProof.Rows L2 DL
def topS (i : Nat) : Stmt := PySem.Challenge.pw_towerback_k10_whole_common_divisors.main.body.getD i (.Pass ⟨0, 0, 0, 0⟩)
abbrev s_is_integer : Stmt := topS 8
abbrev s_is_integer_in : Stmt := topS 9
abbrev s_are_integers : Stmt := topS 10
abbrev s_bezout : Stmt := topS 11
abbrev s_need_integer : Stmt := topS 13
abbrev s_need_two_integers : Stmt := topS 16
abbrev s_need_integer_row : Stmt := topS 17
abbrev s_gcd_paper : Stmt := topS 18
abbrev s_takes_gcd : Stmt := topS 19
abbrev s_lcm_of : Stmt := topS 20
abbrev s_lcm_paper : Stmt := topS 21
abbrev s_shows_lcm : Stmt := topS 22
abbrev s_takes_lcm : Stmt := topS 23
abbrev s_gcd_row_of : Stmt := topS 24
abbrev s_gcd_row_paper : Stmt := topS 25
abbrev s_shows_gcd_row : Stmt := topS 26
abbrev s_takes_gcd_row : Stmt := topS 27
abbrev s__law_cup : Stmt := topS 29
abbrev s__law_roll : Stmt := topS 30
abbrev s__law_some : Stmt := topS 31
abbrev s__law_integers : Stmt := topS 32
abbrev s__law_common : Stmt := topS 33
abbrev s__law_same : Stmt := topS 34
abbrev s__law_error : Stmt := topS 35
abbrev s__law_integer : Stmt := topS 36
abbrev s__law_is_gcd : Stmt := topS 37
abbrev s__law_is_lcm : Stmt := topS 38
abbrev s__law_is_row : Stmt := topS 39
abbrev s__law_spoilt : Stmt := topS 40
abbrev s__law_gcd_right : Stmt := topS 41
abbrev s__law_lcm_right : Stmt := topS 42
abbrev s__law_row_right : Stmt := topS 43
abbrev s__law_written : Stmt := topS 44
abbrev s_law : Stmt := topS 45
structure Txt (P : Program) (w : World) (F : PySem.W.Frag) (mg : Str → Option Value) (base : Heap) (K : Kx) : Prop where
  b_abs : mg "abs" = none
  b_len : mg "len" = none
  b_min : mg "min" = none
  b_max : mg "max" = none
  b_sum : mg "sum" = none
  b_isinstance : mg "isinstance" = none
  b_range : mg "range" = none
  b_zip : mg "zip" = none
  b_all : mg "all" = none
  b_int : mg "int" = none
  b_bool : mg "bool" = none
  b_str : mg "str" = none
  b_tuple : mg "tuple" = none
  b_list : mg "list" = none
  c_GREATEST : ∃ u : Tok, mg "GREATEST" = some (.int (10 ^ 50 * 10 ^ 50) u)
  c_LONGEST_ROW : ∃ u : Tok, mg "LONGEST_ROW" = some (.int 6 u)
  g_InvalidField : mg "InvalidField" = some (.ref (K.CL 0))
  g_InvalidNumber : mg "InvalidNumber" = some (.ref (K.CL 1))
  g_InvalidRow : mg "InvalidRow" = some (.ref (K.CL 2))
  g_InvalidTable : mg "InvalidTable" = some (.ref (K.CL 3))
  g_PaperError : mg "PaperError" = some (.ref (K.CL 4))
  x_InvalidNumber : PySem.W.excIn F (K.CL 1) [.type "ValueError", .type "Exception", .type "BaseException", .type "object"] "ValueError.__new__" = true
  k_InvalidNumber : PySem.W.keepIn F (.ref (K.CL 1)) = true
  s_InvalidNumber : PySem.W.subIn F (.ref (K.CL 1)) (.type "BaseException") = some true
  t_InvalidNumber : PySem.W.typeIn F (.ref (K.CL 1)) = some (.type "type")
  m_InvalidNumber_InvalidField : PySem.W.exmOne F (.ref (K.CL 1)) (.ref (K.CL 0)) = some false
  m_InvalidNumber_InvalidNumber : PySem.W.exmOne F (.ref (K.CL 1)) (.ref (K.CL 1)) = some true
  x_InvalidRow : PySem.W.excIn F (K.CL 2) [.type "ValueError", .type "Exception", .type "BaseException", .type "object"] "ValueError.__new__" = true
  k_InvalidRow : PySem.W.keepIn F (.ref (K.CL 2)) = true
  s_InvalidRow : PySem.W.subIn F (.ref (K.CL 2)) (.type "BaseException") = some true
  t_InvalidRow : PySem.W.typeIn F (.ref (K.CL 2)) = some (.type "type")
  m_InvalidRow_InvalidField : PySem.W.exmOne F (.ref (K.CL 2)) (.ref (K.CL 0)) = some false
  m_InvalidRow_InvalidNumber : PySem.W.exmOne F (.ref (K.CL 2)) (.ref (K.CL 1)) = some false
  m_InvalidRow_InvalidRow : PySem.W.exmOne F (.ref (K.CL 2)) (.ref (K.CL 2)) = some true
  f_is_integer : ∃ (f : Addr) (fd : FuncData), Fun F "is_integer" "is_integer" s_is_integer f fd ∧ mg "is_integer" = some (.ref f) ∧ Binds F fd ["value"] []
  f_is_integer_in : ∃ (f : Addr) (fd : FuncData), Fun F "is_integer_in" "is_integer_in" s_is_integer_in f fd ∧ mg "is_integer_in" = some (.ref f) ∧ Binds F fd ["value", "low", "high"] []
  f_are_integers : ∃ (f : Addr) (fd : FuncData), Fun F "are_integers" "are_integers" s_are_integers f fd ∧ mg "are_integers" = some (.ref f) ∧ Binds F fd ["value", "many"] []
  f_bezout : ∃ (f : Addr) (fd : FuncData), Fun F "bezout" "bezout" s_bezout f fd ∧ mg "bezout" = some (.ref f) ∧ Binds F fd ["one", "other"] []
  f_need_integer : ∃ (f : Addr) (fd : FuncData), Fun F "need_integer" "need_integer" s_need_integer f fd ∧ mg "need_integer" = some (.ref f) ∧ Binds F fd ["value", "low", "high"] []
  f_need_two_integers : ∃ (f : Addr) (fd : FuncData), Fun F "need_two_integers" "need_two_integers" s_need_two_integers f fd ∧ mg "need_two_integers" = some (.ref f) ∧ Binds F fd ["one", "other"] []
  f_need_integer_row : ∃ (f : Addr) (fd : FuncData), Fun F "need_integer_row" "need_integer_row" s_need_integer_row f fd ∧ mg "need_integer_row" = some (.ref f) ∧ Binds F fd ["row"] []
  f_gcd_paper : ∃ (f : Addr) (fd : FuncData), Fun F "gcd_paper" "gcd_paper" s_gcd_paper f fd ∧ mg "gcd_paper" = some (.ref f) ∧ Binds F fd ["one", "other"] []
  f_takes_gcd : ∃ (f : Addr) (fd : FuncData), Fun F "takes_gcd" "takes_gcd" s_takes_gcd f fd ∧ mg "takes_gcd" = some (.ref f) ∧ Binds F fd ["one", "other", "paper"] []
  f_lcm_of : ∃ (f : Addr) (fd : FuncData), Fun F "lcm_of" "lcm_of" s_lcm_of f fd ∧ mg "lcm_of" = some (.ref f) ∧ Binds F fd ["one", "other"] []
  f_lcm_paper : ∃ (f : Addr) (fd : FuncData), Fun F "lcm_paper" "lcm_paper" s_lcm_paper f fd ∧ mg "lcm_paper" = some (.ref f) ∧ Binds F fd ["one", "other"] []
  f_shows_lcm : ∃ (f : Addr) (fd : FuncData), Fun F "shows_lcm" "shows_lcm" s_shows_lcm f fd ∧ mg "shows_lcm" = some (.ref f) ∧ Binds F fd ["one", "other", "paper"] []
  f_takes_lcm : ∃ (f : Addr) (fd : FuncData), Fun F "takes_lcm" "takes_lcm" s_takes_lcm f fd ∧ mg "takes_lcm" = some (.ref f) ∧ Binds F fd ["one", "other", "paper"] []
  f_gcd_row_of : ∃ (f : Addr) (fd : FuncData), Fun F "gcd_row_of" "gcd_row_of" s_gcd_row_of f fd ∧ mg "gcd_row_of" = some (.ref f) ∧ Binds F fd ["row"] []
  f_gcd_row_paper : ∃ (f : Addr) (fd : FuncData), Fun F "gcd_row_paper" "gcd_row_paper" s_gcd_row_paper f fd ∧ mg "gcd_row_paper" = some (.ref f) ∧ Binds F fd ["row"] []
  f_shows_gcd_row : ∃ (f : Addr) (fd : FuncData), Fun F "shows_gcd_row" "shows_gcd_row" s_shows_gcd_row f fd ∧ mg "shows_gcd_row" = some (.ref f) ∧ Binds F fd ["row", "paper"] []
  f_takes_gcd_row : ∃ (f : Addr) (fd : FuncData), Fun F "takes_gcd_row" "takes_gcd_row" s_takes_gcd_row f fd ∧ mg "takes_gcd_row" = some (.ref f) ∧ Binds F fd ["row", "paper"] []
  f__law_cup : ∃ (f : Addr) (fd : FuncData), Fun F "_law_cup" "_law_cup" s__law_cup f fd ∧ mg "_law_cup" = some (.ref f) ∧ Binds F fd ["_law_script"] []
  f__law_roll : ∃ (f : Addr) (fd : FuncData), Fun F "_law_roll" "_law_roll" s__law_roll f fd ∧ mg "_law_roll" = some (.ref f) ∧ Binds F fd ["_law_cup_here", "_law_many"] []
  f__law_some : ∃ (f : Addr) (fd : FuncData), Fun F "_law_some" "_law_some" s__law_some f fd ∧ mg "_law_some" = some (.ref f) ∧ Binds F fd ["_law_cup_here", "_law_things"] []
  f__law_integers : ∃ (f : Addr) (fd : FuncData), Fun F "_law_integers" "_law_integers" s__law_integers f fd ∧ mg "_law_integers" = some (.ref f) ∧ Binds F fd ["_law_value", "_law_many"] []
  f__law_common : ∃ (f : Addr) (fd : FuncData), Fun F "_law_common" "_law_common" s__law_common f fd ∧ mg "_law_common" = some (.ref f) ∧ Binds F fd ["_law_one", "_law_other"] []
  f__law_same : ∃ (f : Addr) (fd : FuncData), Fun F "_law_same" "_law_same" s__law_same f fd ∧ mg "_law_same" = some (.ref f) ∧ Binds F fd ["_law_told", "_law_due"] []
  f__law_error : ∃ (f : Addr) (fd : FuncData), Fun F "_law_error" "_law_error" s__law_error f fd ∧ mg "_law_error" = some (.ref f) ∧ Binds F fd ["_law_call"] []
  f__law_integer : ∃ (f : Addr) (fd : FuncData), Fun F "_law_integer" "_law_integer" s__law_integer f fd ∧ mg "_law_integer" = some (.ref f) ∧ Binds F fd ["_law_cup_here"] []
  f__law_is_gcd : ∃ (f : Addr) (fd : FuncData), Fun F "_law_is_gcd" "_law_is_gcd" s__law_is_gcd f fd ∧ mg "_law_is_gcd" = some (.ref f) ∧ Binds F fd ["_law_one", "_law_other", "_law_paper"] []
  f__law_is_lcm : ∃ (f : Addr) (fd : FuncData), Fun F "_law_is_lcm" "_law_is_lcm" s__law_is_lcm f fd ∧ mg "_law_is_lcm" = some (.ref f) ∧ Binds F fd ["_law_one", "_law_other", "_law_paper"] []
  f__law_is_row : ∃ (f : Addr) (fd : FuncData), Fun F "_law_is_row" "_law_is_row" s__law_is_row f fd ∧ mg "_law_is_row" = some (.ref f) ∧ Binds F fd ["_law_row", "_law_paper"] []
  f__law_spoilt : ∃ (f : Addr) (fd : FuncData), Fun F "_law_spoilt" "_law_spoilt" s__law_spoilt f fd ∧ mg "_law_spoilt" = some (.ref f) ∧ Binds F fd ["_law_cup_here", "_law_paper"] []
  f__law_gcd_right : ∃ (f : Addr) (fd : FuncData), Fun F "_law_gcd_right" "_law_gcd_right" s__law_gcd_right f fd ∧ mg "_law_gcd_right" = some (.ref f) ∧ Binds F fd ["_law_cup_here", "_law_one", "_law_other"] []
  f__law_lcm_right : ∃ (f : Addr) (fd : FuncData), Fun F "_law_lcm_right" "_law_lcm_right" s__law_lcm_right f fd ∧ mg "_law_lcm_right" = some (.ref f) ∧ Binds F fd ["_law_cup_here", "_law_one", "_law_other"] []
  f__law_row_right : ∃ (f : Addr) (fd : FuncData), Fun F "_law_row_right" "_law_row_right" s__law_row_right f fd ∧ mg "_law_row_right" = some (.ref f) ∧ Binds F fd ["_law_cup_here", "_law_row"] []
  f__law_written : ∃ (f : Addr) (fd : FuncData), Fun F "_law_written" "_law_written" s__law_written f fd ∧ mg "_law_written" = some (.ref f) ∧ Binds F fd [] []
  f_law : ∃ (f : Addr) (fd : FuncData), Fun F "law" "law" s_law f fd ∧ mg "law" = some (.ref f) ∧ Binds F fd ["_law_script"] []
  k_gcd_row_of : ∃ (f : Addr) (fd : FuncData) (c P : Addr), FunK F "gcd_row_of" "gcd_row_of" s_gcd_row_of f fd c ∧ mg "gcd_row_of" = some (.ref f) ∧ Binds F fd ["row"] [] ∧ LamX.TabB base mg c P ∧ (P, ("gcd_row_of" : Str) ++ ".<locals>." ++ "<genexpr>") ∈ K.T ∧ ∀ p ∈ K.T, p.1 = P → p.2 = ("gcd_row_of" : Str) ++ ".<locals>." ++ "<genexpr>"
  k_are_integers : ∃ (f : Addr) (fd : FuncData) (c P : Addr), FunK F "are_integers" "are_integers" s_are_integers f fd c ∧ mg "are_integers" = some (.ref f) ∧ Binds F fd ["value", "many"] [] ∧ LamX.TabB base mg c P ∧ (P, ("are_integers" : Str) ++ ".<locals>." ++ "<genexpr>") ∈ K.T ∧ ∀ p ∈ K.T, p.1 = P → p.2 = ("are_integers" : Str) ++ ".<locals>." ++ "<genexpr>"
  k_law : ∃ (f : Addr) (fd : FuncData) (c P : Addr), FunK F "law" "law" s_law f fd c ∧ mg "law" = some (.ref f) ∧ Binds F fd ["_law_script"] [] ∧ LamX.TabB base mg c P ∧ (P, ("law" : Str) ++ ".<locals>." ++ "<lambda>") ∈ K.T ∧ ∀ p ∈ K.T, p.1 = P → p.2 = ("law" : Str) ++ ".<locals>." ++ "<lambda>"
section
variable {P : Program} {w : World} {F : PySem.W.Frag} {mg : Str → Option Value} {base : Heap} {K : Kx}
def slI (ρ : En) (i : Nat) : Nat := match ρ[i]? with
  | some (.dat (.int z)) => z.natAbs
  | _ => 0
def slI0 (ρ : En) (i k : Nat) : Nat := match ρ[i]? with
  | some (.dat (.tuple ds)) => (match ds[k]? with | some (.int z) => z.natAbs | _ => 0)
  | _ => 0
def fuelBez (ρ : En) : Nat := slI0 ρ 3 0 + 2
def fuelCommon (ρ : En) : Nat := slI ρ 1 + 2
theorem sc_is_integer : FnScope ["value"] ["value"] (defScope s_is_integer) := ⟨rfl, rfl, rfl, by decide +kernel, rfl, by decide +kernel, by decide +kernel⟩
def g_is_integer : GS := (gRet (gAndV (gIsi "int" (gVar 0)) (gNotV (gIsi "bool" (gVar 0)))))
def G_is_integer : GF := gFn 1 g_is_integer
theorem d_is_integer (T : Txt P w F mg base K) : DefOk P w F mg base K "is_integer" 1 1 G_is_integer := by
  obtain ⟨f, fd, Fn, hm, hb⟩ := T.f_is_integer
  refine ⟨f, fd, ["value"], ok_def (N := ["value"]) (g := g_is_integer) Fn sc_is_integer ?body, hm, Fn.kp, hb⟩
  intro cdv A outer s H E hr
  have nd := sc_is_integer.nd
  have hu := hr.units
  have tk : Takes (cxOf (L2.CX P w) P w F mg base ["value"] "is_integer" (defScope s_is_integer) f cdv A outer s H E) (fun cls d _ H => E cls d H) := takes_of rfl rfl rfl rfl
  have hx : Passes (L2.CX P w) (cxOf (L2.CX P w) P w F mg base ["value"] "is_integer" (defScope s_is_integer) f cdv A outer s H E) E := passes_call tk fun _ _ _ _ h => h
  have hp : PassesOwn (model P w) (cxOf (L2.CX P w) P w F mg base ["value"] "is_integer" (defScope s_is_integer) f cdv A outer s H E).A (cxOf (L2.CX P w) P w F mg base ["value"] "is_integer" (defScope s_is_integer) f cdv A outer s H E).env (cxOf (L2.CX P w) P w F mg base ["value"] "is_integer" (defScope s_is_integer) f cdv A outer s H E).xe := passes_of rfl
  have hc : (cxOf (L2.CX P w) P w F mg base ["value"] "is_integer" (defScope s_is_integer) f cdv A outer s H E).calm = true := rfl
  exact ⟨_, (pssd_one (psd_ret (pd_and (pd_isi (T := "int") (pd_var (pv 0)) (by rfl) T.b_isinstance (by rfl) T.b_int bb_int) (pd_one (pd_not (pd_isi (T := "bool") (pd_var (pv 0)) (by rfl) T.b_isinstance (by rfl) T.b_bool bb_bool))))))⟩
theorem sc_is_integer_in : FnScope ["value", "low", "high"] ["value", "low", "high"] (defScope s_is_integer_in) := ⟨rfl, rfl, rfl, by decide +kernel, rfl, by decide +kernel, by decide +kernel⟩
def g_is_integer_in : GS := (gRet (gAndV (gApp 1 G_is_integer (gaCons (gVar 0) gaNil)) (gChain (fB0 fun i j => decide (i ≤ j)) (fB0 fun i j => decide (i ≤ j)) (gVar 1) (gVar 0) (gVar 2))))
def G_is_integer_in : GF := gFn 3 g_is_integer_in
theorem d_is_integer_in (T : Txt P w F mg base K) : DefOk P w F mg base K "is_integer_in" 2 3 G_is_integer_in := by
  obtain ⟨f, fd, Fn, hm, hb⟩ := T.f_is_integer_in
  refine ⟨f, fd, ["value", "low", "high"], ok_def (N := ["value", "low", "high"]) (g := g_is_integer_in) Fn sc_is_integer_in ?body, hm, Fn.kp, hb⟩
  intro cdv A outer s H E hr
  have nd := sc_is_integer_in.nd
  have hu := hr.units
  have tk : Takes (cxOf (L2.CX P w) P w F mg base ["value", "low", "high"] "is_integer_in" (defScope s_is_integer_in) f cdv A outer s H E) (fun cls d _ H => E cls d H) := takes_of rfl rfl rfl rfl
  have hx : Passes (L2.CX P w) (cxOf (L2.CX P w) P w F mg base ["value", "low", "high"] "is_integer_in" (defScope s_is_integer_in) f cdv A outer s H E) E := passes_call tk fun _ _ _ _ h => h
  have hp : PassesOwn (model P w) (cxOf (L2.CX P w) P w F mg base ["value", "low", "high"] "is_integer_in" (defScope s_is_integer_in) f cdv A outer s H E).A (cxOf (L2.CX P w) P w F mg base ["value", "low", "high"] "is_integer_in" (defScope s_is_integer_in) f cdv A outer s H E).env (cxOf (L2.CX P w) P w F mg base ["value", "low", "high"] "is_integer_in" (defScope s_is_integer_in) f cdv A outer s H E).xe := passes_of rfl
  have hc : (cxOf (L2.CX P w) P w F mg base ["value", "low", "high"] "is_integer_in" (defScope s_is_integer_in) f cdv A outer s H E).calm = true := rfl
  exact ⟨_, (pssd_one (psd_ret (pd_and (pd_callD (d_is_integer T) (hr.mono (by decide)) (by rfl) hx (pad_cons (pd_var (pv 0)) pad_nil)) (pd_one (pd_chain op_le opD_le op_le opD_le (pd_var (pv 1)) (pd_var (pv 0)) (pd_var (pv 2)))))))⟩
theorem sc_are_integers : FnScope ["value", "many"] ["value", "many"] (defScope s_are_integers) := ⟨rfl, rfl, rfl, by decide +kernel, rfl, by decide +kernel, by decide +kernel⟩
theorem tells_is_integer (T : Txt P w F mg base K) : ∃ f : Addr, mg "is_integer" = some (.ref f) ∧ PySem.W.keepIn F (.ref f) = true ∧ (L2.Mod F mg base → Tells P w F base f isIntD) := by
  obtain ⟨f, fd, Fn, hm, hb⟩ := T.f_is_integer
  exact ⟨f, hm, Fn.kp, fun M => tells_int M Fn hb ⟨_, _, _, _, _, _, _, _, _, _, _, rfl⟩ rfl T.b_isinstance T.b_int T.b_bool⟩
def g_are_integers : GS := (gRet (gAndV (gIsi "tuple" (gVar 0)) (gAndV (gBin dEq (gCall dLen (gaCons (gVar 0) gaNil)) (gVar 1)) (gAll isIntD (gVar 0)))))
def G_are_integers : GF := gFn 2 g_are_integers
theorem d_are_integers (T : Txt P w F mg base K) : DefOk P w F mg base K "are_integers" 4 2 G_are_integers := by
  obtain ⟨f, fd, c, Pt, Fn, hm, hb, TB, hmT, hu0⟩ := T.k_are_integers
  obtain ⟨fi, hmi, hki, hTi⟩ := tells_is_integer T
  refine ⟨f, fd, ["value", "many"], ok_defK (N := ["value", "many"]) (g := g_are_integers) Fn sc_are_integers ?body, hm, Fn.kp, hb⟩
  intro A outer s H E hr
  have nd := sc_are_integers.nd
  have hu := hr.units
  exact ⟨_, (pssd_one (psd_ret (pd_and (pd_isi (T := "tuple") (pd_var (pv 0)) (by rfl) T.b_isinstance (by rfl) T.b_tuple bb_tuple) (pd_and (pd_cmp (op_eqX hu) opD_eq (pd_callB call_len_seq callD_len (by rfl) T.b_len bb_len (pad_cons (pd_var (pv 0)) pad_nil)) (pd_var (pv 1)) (nomark _)) (pd_one (pd_all (k := 1) hr (by rfl) T.b_all TB rfl (gens_by rfl rfl (by decide +kernel) rfl rfl) (pd_var (pv 0)) hmT hu0 (by rfl) hmi hki hTi (by decide) (by decide) (fun _ => rfl)))))))⟩
theorem sc_bezout : FnScope ["one", "other", "row", "behind", "many", "common", "by_one", "by_other", "a", "b"] ["one", "other"] (defScope s_bezout) := ⟨rfl, rfl, rfl, by decide +kernel, rfl, by decide +kernel, by decide +kernel⟩
def le_bezout_0 : GE := (gBin (fI0 fun i j => i - j) (gVar 8) (gBin dMul (gVar 4) (gVar 9)))
def wt_bezout_0 : GT := (gTru (gBin dIx (gVar 3) (gC (.int 0))))
def wb_bezout_0 : GS := (gSeq (gSet 4 (gBin (fI divOk fun i j => i.fdiv j) (gBin dIx (gVar 2) (gC (.int 0))) (gBin dIx (gVar 3) (gC (.int 0)))))
    (gPar 2 3 (gaCons (gVar 3) (gaCons (gCall dToTup (gaCons (gL (gLc (giArg dZip (gaCons (gVar 2) (gaCons (gVar 3) gaNil))) [8, 9] (ggTup 2 (ggCons (ggName 8) (ggCons (ggName 9) ggNil))) gYes le_bezout_0)) gaNil)) gaNil))))
def g_bezout : GS := (gSeq (gSet 2 (gDisp .tuple (gaCons (gCall dAbs (gaCons (gVar 0) gaNil)) (gaCons (gC (.int 1)) (gaCons (gC (.int 0)) gaNil)))))
    (gSeq (gSet 3 (gDisp .tuple (gaCons (gCall dAbs (gaCons (gVar 1) gaNil)) (gaCons (gC (.int 0)) (gaCons (gC (.int 1)) gaNil)))))
    (gSeq (gWhile (fun ρ _ => fuelBez ρ) wt_bezout_0 wb_bezout_0)
    (gSeq (gAsg (gVar 2) (ggTup 3 (ggCons (ggName 5) (ggCons (ggName 6) (ggCons (ggName 7) ggNil)))))
    (gRet (gDisp .tuple (gaCons (gVar 5) (gaCons (gIfE (gBool (gBin (fB0 fun i j => decide (i < j)) (gVar 0) (gC (.int 0)))) (gUn dNeg (gVar 6)) (gVar 6)) (gaCons (gIfE (gBool (gBin (fB0 fun i j => decide (i < j)) (gVar 1) (gC (.int 0)))) (gUn dNeg (gVar 7)) (gVar 7)) gaNil)))))))))
def G_bezout : GF := gFn 10 g_bezout
theorem d_bezout (T : Txt P w F mg base K) : DefOk P w F mg base K "bezout" 1 2 G_bezout := by
  obtain ⟨f, fd, Fn, hm, hb⟩ := T.f_bezout
  refine ⟨f, fd, ["one", "other"], ok_def (N := ["one", "other", "row", "behind", "many", "common", "by_one", "by_other", "a", "b"]) (g := g_bezout) Fn sc_bezout ?body, hm, Fn.kp, hb⟩
  intro cdv A outer s H E hr
  have nd := sc_bezout.nd
  have hu := hr.units
  have tk : Takes (cxOf (L2.CX P w) P w F mg base ["one", "other", "row", "behind", "many", "common", "by_one", "by_other", "a", "b"] "bezout" (defScope s_bezout) f cdv A outer s H E) (fun cls d _ H => E cls d H) := takes_of rfl rfl rfl rfl
  have hx : Passes (L2.CX P w) (cxOf (L2.CX P w) P w F mg base ["one", "other", "row", "behind", "many", "common", "by_one", "by_other", "a", "b"] "bezout" (defScope s_bezout) f cdv A outer s H E) E := passes_call tk fun _ _ _ _ h => h
  have hp : PassesOwn (model P w) (cxOf (L2.CX P w) P w F mg base ["one", "other", "row", "behind", "many", "common", "by_one", "by_other", "a", "b"] "bezout" (defScope s_bezout) f cdv A outer s H E).A (cxOf (L2.CX P w) P w F mg base ["one", "other", "row", "behind", "many", "common", "by_one", "by_other", "a", "b"] "bezout" (defScope s_bezout) f cdv A outer s H E).env (cxOf (L2.CX P w) P w F mg base ["one", "other", "row", "behind", "many", "common", "by_one", "by_other", "a", "b"] "bezout" (defScope s_bezout) f cdv A outer s H E).xe := passes_of rfl
  have hc : (cxOf (L2.CX P w) P w F mg base ["one", "other", "row", "behind", "many", "common", "by_one", "by_other", "a", "b"] "bezout" (defScope s_bezout) f cdv A outer s H E).calm = true := rfl
  exact ⟨_, (pssd_cons (psd_set (i := 2) nd rfl (by first | exact .inl rfl | exact .inr rfl) (pd_tup (pad_cons (pd_callB call_abs callD_abs (by rfl) T.b_abs bb_abs (pad_cons (pd_var (pv 0)) pad_nil)) (pad_cons pd_int (pad_cons pd_int pad_nil)))))
    (pssd_cons (psd_set (i := 3) nd rfl (by first | exact .inl rfl | exact .inr rfl) (pd_tup (pad_cons (pd_callB call_abs callD_abs (by rfl) T.b_abs bb_abs (pad_cons (pd_var (pv 1)) pad_nil)) (pad_cons pd_int (pad_cons pd_int pad_nil)))))
    (pssd_cons (psd_while (fun ρ _ => fuelBez ρ) hp (ptd_truth (pd_ix ixR_D opD_ix (pd_var (pv 3)) pd_int (fun _ _ => rfl))) (pssd_cons (psd_set (i := 4) nd rfl (by first | exact .inl rfl | exact .inr rfl) (pd_op op_divD opD_div (pd_ix ixR_D opD_ix (pd_var (pv 2)) pd_int (fun _ _ => rfl)) (pd_ix ixR_D opD_ix (pd_var (pv 3)) pd_int (fun _ _ => rfl))))
    (pssd_one (psd_par (i := 2) (j := 3) hc nd rfl rfl (by decide) rfl rfl (pad_cons (pd_var (pv 3)) (pad_cons (pd_callTy call_tuple_of callD_tuple (by rfl) T.b_tuple bb_tuple (pad_cons (PFD.toD (pf_lc (own := [("a", 8), ("b", 9)]) (ws := [8, 9]) hc nd (pid_zip (by rfl) T.b_zip (pad_cons (pd_var (pv 2)) (pad_cons (pd_var (pv 3)) pad_nil)) (fun h => RZ.pi_zipA (by rfl) T.b_zip h)) (blkOk_by (N := ["one", "other", "row", "behind", "many", "common", "by_one", "by_other", "a", "b"]) (sc := defScope s_bezout) (by decide +kernel)) (fun _ _ _ _ _ => ⟨_, by exact (pgd_tup rfl (pgsd_cons (pgd_name (i := 8) nd rfl (by first | exact .inl rfl | exact .inr rfl)) (pgsd_cons (pgd_name (i := 9) nd rfl (by first | exact .inl rfl | exact .inr rfl)) pgsd_nil)))⟩) (fun _ _ _ _ _ => ⟨_, by exact ptsd_nil⟩) (fun _ _ _ _ _ => ⟨_, by exact (pd_op op_sub opD_sub (pd_var (pv 8)) (pd_op op_mulD opD_mul (pd_var (pv 4)) (pd_var (pv 9))))⟩))) pad_nil)) pad_nil))))))
    (pssd_cons (psd_asg (pd_var (pv 2)) (pgd_tup rfl (pgsd_cons (pgd_name (i := 5) nd rfl (by first | exact .inl rfl | exact .inr rfl)) (pgsd_cons (pgd_name (i := 6) nd rfl (by first | exact .inl rfl | exact .inr rfl)) (pgsd_cons (pgd_name (i := 7) nd rfl (by first | exact .inl rfl | exact .inr rfl)) pgsd_nil)))))
    (pssd_one (psd_ret (pd_tup (pad_cons (pd_var (pv 5)) (pad_cons (pd_ifExp (ptd_cmp op_lt opD_lt (pd_var (pv 0)) pd_int (nomark _)) (pd_neg (pd_var (pv 6))) (pd_var (pv 6))) (pad_cons (pd_ifExp (ptd_cmp op_lt opD_lt (pd_var (pv 1)) pd_int (nomark _)) (pd_neg (pd_var (pv 7))) (pd_var (pv 7))) pad_nil))))))))))⟩
theorem sc_need_integer : FnScope ["value", "low", "high"] ["value", "low", "high"] (defScope s_need_integer) := ⟨rfl, rfl, rfl, by decide +kernel, rfl, by decide +kernel, by decide +kernel⟩
def g_need_integer : GS := (gIf (gNot (gTru (gApp 3 G_is_integer_in (gaCons (gVar 0) (gaCons (gVar 1) (gaCons (gVar 2) gaNil)))))) (gRaise 1) gSkip)
def G_need_integer : GF := gFn 3 g_need_integer
theorem d_need_integer (T : Txt P w F mg base K) : DefOk P w F mg base K "need_integer" 3 3 G_need_integer := by
  obtain ⟨f, fd, Fn, hm, hb⟩ := T.f_need_integer
  refine ⟨f, fd, ["value", "low", "high"], ok_def (N := ["value", "low", "high"]) (g := g_need_integer) Fn sc_need_integer ?body, hm, Fn.kp, hb⟩
  intro cdv A outer s H E hr
  have nd := sc_need_integer.nd
  have hu := hr.units
  have tk : Takes (cxOf (L2.CX P w) P w F mg base ["value", "low", "high"] "need_integer" (defScope s_need_integer) f cdv A outer s H E) (fun cls d _ H => E cls d H) := takes_of rfl rfl rfl rfl
  have hx : Passes (L2.CX P w) (cxOf (L2.CX P w) P w F mg base ["value", "low", "high"] "need_integer" (defScope s_need_integer) f cdv A outer s H E) E := passes_call tk fun _ _ _ _ h => h
  have hp : PassesOwn (model P w) (cxOf (L2.CX P w) P w F mg base ["value", "low", "high"] "need_integer" (defScope s_need_integer) f cdv A outer s H E).A (cxOf (L2.CX P w) P w F mg base ["value", "low", "high"] "need_integer" (defScope s_need_integer) f cdv A outer s H E).env (cxOf (L2.CX P w) P w F mg base ["value", "low", "high"] "need_integer" (defScope s_need_integer) f cdv A outer s H E).xe := passes_of rfl
  have hc : (cxOf (L2.CX P w) P w F mg base ["value", "low", "high"] "need_integer" (defScope s_need_integer) f cdv A outer s H E).calm = true := rfl
  exact ⟨_, (pssd_one (psd_if (ptd_not (ptd_truth (pd_callD (d_is_integer_in T) (hr.mono (by decide)) (by rfl) hx (pad_cons (pd_var (pv 0)) (pad_cons (pd_var (pv 1)) (pad_cons (pd_var (pv 2)) pad_nil)))))) (pssd_one (psd_raise (k := 1) hc tk (pmk_own PySem.F.excBase_ValueError T.x_InvalidNumber T.g_InvalidNumber T.k_InvalidNumber (raises_own T.s_InvalidNumber T.t_InvalidNumber) (by rfl)) (fun _ _ _ h => h))) pssd_nil))⟩
theorem sc_need_two_integers : FnScope ["one", "other"] ["one", "other"] (defScope s_need_two_integers) := ⟨rfl, rfl, rfl, by decide +kernel, rfl, by decide +kernel, by decide +kernel⟩
def g_need_two_integers : GS := (gSeq (gDrop (gApp 3 G_need_integer (gaCons (gVar 0) (gaCons (gUn dNeg (gC (.int (10 ^ 50 * 10 ^ 50)))) (gaCons (gC (.int (10 ^ 50 * 10 ^ 50))) gaNil)))))
    (gDrop (gApp 3 G_need_integer (gaCons (gVar 1) (gaCons (gUn dNeg (gC (.int (10 ^ 50 * 10 ^ 50)))) (gaCons (gC (.int (10 ^ 50 * 10 ^ 50))) gaNil))))))
def G_need_two_integers : GF := gFn 2 g_need_two_integers
theorem d_need_two_integers (T : Txt P w F mg base K) : DefOk P w F mg base K "need_two_integers" 4 2 G_need_two_integers := by
  obtain ⟨f, fd, Fn, hm, hb⟩ := T.f_need_two_integers
  refine ⟨f, fd, ["one", "other"], ok_def (N := ["one", "other"]) (g := g_need_two_integers) Fn sc_need_two_integers ?body, hm, Fn.kp, hb⟩
  intro cdv A outer s H E hr
  have nd := sc_need_two_integers.nd
  have hu := hr.units
  have tk : Takes (cxOf (L2.CX P w) P w F mg base ["one", "other"] "need_two_integers" (defScope s_need_two_integers) f cdv A outer s H E) (fun cls d _ H => E cls d H) := takes_of rfl rfl rfl rfl
  have hx : Passes (L2.CX P w) (cxOf (L2.CX P w) P w F mg base ["one", "other"] "need_two_integers" (defScope s_need_two_integers) f cdv A outer s H E) E := passes_call tk fun _ _ _ _ h => h
  have hp : PassesOwn (model P w) (cxOf (L2.CX P w) P w F mg base ["one", "other"] "need_two_integers" (defScope s_need_two_integers) f cdv A outer s H E).A (cxOf (L2.CX P w) P w F mg base ["one", "other"] "need_two_integers" (defScope s_need_two_integers) f cdv A outer s H E).env (cxOf (L2.CX P w) P w F mg base ["one", "other"] "need_two_integers" (defScope s_need_two_integers) f cdv A outer s H E).xe := passes_of rfl
  have hc : (cxOf (L2.CX P w) P w F mg base ["one", "other"] "need_two_integers" (defScope s_need_two_integers) f cdv A outer s H E).calm = true := rfl
  exact ⟨_, (pssd_cons (psd_expr (pd_callD (d_need_integer T) (hr.mono (by decide)) (by rfl) hx (pad_cons (pd_var (pv 0)) (pad_cons (pd_neg (pd_globI (by rfl) T.c_GREATEST.choose_spec)) (pad_cons (pd_globI (by rfl) T.c_GREATEST.choose_spec) pad_nil)))))
    (pssd_one (psd_expr (pd_callD (d_need_integer T) (hr.mono (by decide)) (by rfl) hx (pad_cons (pd_var (pv 1)) (pad_cons (pd_neg (pd_globI (by rfl) T.c_GREATEST.choose_spec)) (pad_cons (pd_globI (by rfl) T.c_GREATEST.choose_spec) pad_nil)))))))⟩
theorem sc_need_integer_row : FnScope ["row", "number"] ["row"] (defScope s_need_integer_row) := ⟨rfl, rfl, rfl, by decide +kernel, rfl, by decide +kernel, by decide +kernel⟩
def fb_need_integer_row_0 : GS := (gIf (gNot (gTru (gApp 3 G_is_integer_in (gaCons (gVar 1) (gaCons (gUn dNeg (gC (.int (10 ^ 50 * 10 ^ 50)))) (gaCons (gC (.int (10 ^ 50 * 10 ^ 50))) gaNil)))))) (gRaise 2) gSkip)
def g_need_integer_row : GS := (gSeq (gIf (gOr (gNot (gTru (gIsi "tuple" (gVar 0)))) (gNot (gBool (gChain (fB0 fun i j => decide (i ≤ j)) (fB0 fun i j => decide (i ≤ j)) (gC (.int 1)) (gCall dLen (gaCons (gVar 0) gaNil)) (gC (.int 6)))))) (gRaise 2) gSkip)
    (gFor (giTup (gVar 0)) (ggName 1) fb_need_integer_row_0))
def G_need_integer_row : GF := gFn 2 g_need_integer_row
theorem d_need_integer_row (T : Txt P w F mg base K) : DefOk P w F mg base K "need_integer_row" 3 1 G_need_integer_row := by
  obtain ⟨f, fd, Fn, hm, hb⟩ := T.f_need_integer_row
  refine ⟨f, fd, ["row"], ok_def (N := ["row", "number"]) (g := g_need_integer_row) Fn sc_need_integer_row ?body, hm, Fn.kp, hb⟩
  intro cdv A outer s H E hr
  have nd := sc_need_integer_row.nd
  have hu := hr.units
  have tk : Takes (cxOf (L2.CX P w) P w F mg base ["row", "number"] "need_integer_row" (defScope s_need_integer_row) f cdv A outer s H E) (fun cls d _ H => E cls d H) := takes_of rfl rfl rfl rfl
  have hx : Passes (L2.CX P w) (cxOf (L2.CX P w) P w F mg base ["row", "number"] "need_integer_row" (defScope s_need_integer_row) f cdv A outer s H E) E := passes_call tk fun _ _ _ _ h => h
  have hp : PassesOwn (model P w) (cxOf (L2.CX P w) P w F mg base ["row", "number"] "need_integer_row" (defScope s_need_integer_row) f cdv A outer s H E).A (cxOf (L2.CX P w) P w F mg base ["row", "number"] "need_integer_row" (defScope s_need_integer_row) f cdv A outer s H E).env (cxOf (L2.CX P w) P w F mg base ["row", "number"] "need_integer_row" (defScope s_need_integer_row) f cdv A outer s H E).xe := passes_of rfl
  have hc : (cxOf (L2.CX P w) P w F mg base ["row", "number"] "need_integer_row" (defScope s_need_integer_row) f cdv A outer s H E).calm = true := rfl
  exact ⟨_, (pssd_cons (psd_if (PWD.pt (pwd_or (ptd_not (ptd_truth (pd_isi (T := "tuple") (pd_var (pv 0)) (by rfl) T.b_isinstance (by rfl) T.b_tuple bb_tuple))) (pwd_or1 (ptd_not (ptd_chain op_le opD_le op_le opD_le pd_int (pd_callB call_len_seq callD_len (by rfl) T.b_len bb_len (pad_cons (pd_var (pv 0)) pad_nil)) (pd_globI (by rfl) T.c_LONGEST_ROW.choose_spec)))))) (pssd_one (psd_raise (k := 2) hc tk (pmk_own PySem.F.excBase_ValueError T.x_InvalidRow T.g_InvalidRow T.k_InvalidRow (raises_own T.s_InvalidRow T.t_InvalidRow) (by rfl)) (fun _ _ _ h => h))) pssd_nil)
    (pssd_one (psd_for hp hc (pid_tup (pd_var (pv 0))) (pgd_name (i := 1) nd rfl (by first | exact .inl rfl | exact .inr rfl)) (pssd_one (psd_if (ptd_not (ptd_truth (pd_callD (d_is_integer_in T) (hr.mono (by decide)) (by rfl) hx (pad_cons (pd_var (pv 1)) (pad_cons (pd_neg (pd_globI (by rfl) T.c_GREATEST.choose_spec)) (pad_cons (pd_globI (by rfl) T.c_GREATEST.choose_spec) pad_nil)))))) (pssd_one (psd_raise (k := 2) hc tk (pmk_own PySem.F.excBase_ValueError T.x_InvalidRow T.g_InvalidRow T.k_InvalidRow (raises_own T.s_InvalidRow T.t_InvalidRow) (by rfl)) (fun _ _ _ h => h))) pssd_nil)))))⟩
theorem sc_gcd_paper : FnScope ["one", "other", "common", "by_one", "by_other"] ["one", "other"] (defScope s_gcd_paper) := ⟨rfl, rfl, rfl, by decide +kernel, rfl, by decide +kernel, by decide +kernel⟩
def g_gcd_paper : GS := (gSeq (gDrop (gApp 2 G_need_two_integers (gaCons (gVar 0) (gaCons (gVar 1) gaNil))))
    (gSeq (gIf (gAnd (gBool (gBin dEq (gVar 0) (gC (.int 0)))) (gBool (gBin dEq (gVar 1) (gC (.int 0))))) (gRet (gDisp .tuple (gaCons (gC (.int 0)) (gaCons (gC (.int 0)) (gaCons (gC (.int 0)) (gaCons (gC (.int 0)) (gaCons (gC (.int 0)) gaNil))))))) gSkip)
    (gSeq (gAsg (gApp 2 G_bezout (gaCons (gVar 0) (gaCons (gVar 1) gaNil))) (ggTup 3 (ggCons (ggName 2) (ggCons (ggName 3) (ggCons (ggName 4) ggNil)))))
    (gRet (gDisp .tuple (gaCons (gVar 2) (gaCons (gVar 3) (gaCons (gVar 4) (gaCons (gBin (fI divOk fun i j => i.fdiv j) (gVar 0) (gVar 2)) (gaCons (gBin (fI divOk fun i j => i.fdiv j) (gVar 1) (gVar 2)) gaNil))))))))))
def G_gcd_paper : GF := gFn 5 g_gcd_paper
theorem d_gcd_paper (T : Txt P w F mg base K) : DefOk P w F mg base K "gcd_paper" 5 2 G_gcd_paper := by
  obtain ⟨f, fd, Fn, hm, hb⟩ := T.f_gcd_paper
  refine ⟨f, fd, ["one", "other"], ok_def (N := ["one", "other", "common", "by_one", "by_other"]) (g := g_gcd_paper) Fn sc_gcd_paper ?body, hm, Fn.kp, hb⟩
  intro cdv A outer s H E hr
  have nd := sc_gcd_paper.nd
  have hu := hr.units
  have tk : Takes (cxOf (L2.CX P w) P w F mg base ["one", "other", "common", "by_one", "by_other"] "gcd_paper" (defScope s_gcd_paper) f cdv A outer s H E) (fun cls d _ H => E cls d H) := takes_of rfl rfl rfl rfl
  have hx : Passes (L2.CX P w) (cxOf (L2.CX P w) P w F mg base ["one", "other", "common", "by_one", "by_other"] "gcd_paper" (defScope s_gcd_paper) f cdv A outer s H E) E := passes_call tk fun _ _ _ _ h => h
  have hp : PassesOwn (model P w) (cxOf (L2.CX P w) P w F mg base ["one", "other", "common", "by_one", "by_other"] "gcd_paper" (defScope s_gcd_paper) f cdv A outer s H E).A (cxOf (L2.CX P w) P w F mg base ["one", "other", "common", "by_one", "by_other"] "gcd_paper" (defScope s_gcd_paper) f cdv A outer s H E).env (cxOf (L2.CX P w) P w F mg base ["one", "other", "common", "by_one", "by_other"] "gcd_paper" (defScope s_gcd_paper) f cdv A outer s H E).xe := passes_of rfl
  have hc : (cxOf (L2.CX P w) P w F mg base ["one", "other", "common", "by_one", "by_other"] "gcd_paper" (defScope s_gcd_paper) f cdv A outer s H E).calm = true := rfl
  exact ⟨_, (pssd_cons (psd_expr (pd_callD (d_need_two_integers T) (hr.mono (by decide)) (by rfl) hx (pad_cons (pd_var (pv 0)) (pad_cons (pd_var (pv 1)) pad_nil))))
    (pssd_cons (psd_if (PWD.pt (pwd_and (ptd_cmp (op_eqX hu) opD_eq (pd_var (pv 0)) pd_int (nomark _)) (pwd_and1 (ptd_cmp (op_eqX hu) opD_eq (pd_var (pv 1)) pd_int (nomark _))))) (pssd_one (psd_ret (pd_tup (pad_cons pd_int (pad_cons pd_int (pad_cons pd_int (pad_cons pd_int (pad_cons pd_int pad_nil)))))))) pssd_nil)
    (pssd_cons (psd_asg (pd_callD (d_bezout T) (hr.mono (by decide)) (by rfl) hx (pad_cons (pd_var (pv 0)) (pad_cons (pd_var (pv 1)) pad_nil))) (pgd_tup rfl (pgsd_cons (pgd_name (i := 2) nd rfl (by first | exact .inl rfl | exact .inr rfl)) (pgsd_cons (pgd_name (i := 3) nd rfl (by first | exact .inl rfl | exact .inr rfl)) (pgsd_cons (pgd_name (i := 4) nd rfl (by first | exact .inl rfl | exact .inr rfl)) pgsd_nil)))))
    (pssd_one (psd_ret (pd_tup (pad_cons (pd_var (pv 2)) (pad_cons (pd_var (pv 3)) (pad_cons (pd_var (pv 4)) (pad_cons (pd_op op_divD opD_div (pd_var (pv 0)) (pd_var (pv 2))) (pad_cons (pd_op op_divD opD_div (pd_var (pv 1)) (pd_var (pv 2))) pad_nil)))))))))))⟩
theorem sc_takes_gcd : FnScope ["one", "other", "paper", "common", "by_one", "by_other", "part", "other_part"] ["one", "other", "paper"] (defScope s_takes_gcd) := ⟨rfl, rfl, rfl, by decide +kernel, rfl, by decide +kernel, by decide +kernel⟩
def g_takes_gcd : GS := (gSeq (gDrop (gApp 2 G_need_two_integers (gaCons (gVar 0) (gaCons (gVar 1) gaNil))))
    (gSeq (gIf (gNot (gTru (gApp 2 G_are_integers (gaCons (gVar 2) (gaCons (gC (.int 5)) gaNil))))) (gRet (gC (.bool false))) gSkip)
    (gSeq (gAsg (gVar 2) (ggTup 5 (ggCons (ggName 3) (ggCons (ggName 4) (ggCons (ggName 5) (ggCons (ggName 6) (ggCons (ggName 7) ggNil)))))))
    (gSeq (gIf (gOr (gBool (gBin (fB0 fun i j => decide (i < j)) (gVar 3) (gC (.int 0)))) (gBool (gBin dNe (gBin dAdd (gBin dMul (gVar 4) (gVar 0)) (gBin dMul (gVar 5) (gVar 1))) (gVar 3)))) (gRet (gC (.bool false))) gSkip)
    (gRet (gAndV (gBin dEq (gBin dMul (gVar 6) (gVar 3)) (gVar 0)) (gBin dEq (gBin dMul (gVar 7) (gVar 3)) (gVar 1))))))))
def G_takes_gcd : GF := gFn 8 g_takes_gcd
theorem d_takes_gcd (T : Txt P w F mg base K) : DefOk P w F mg base K "takes_gcd" 5 3 G_takes_gcd := by
  obtain ⟨f, fd, Fn, hm, hb⟩ := T.f_takes_gcd
  refine ⟨f, fd, ["one", "other", "paper"], ok_def (N := ["one", "other", "paper", "common", "by_one", "by_other", "part", "other_part"]) (g := g_takes_gcd) Fn sc_takes_gcd ?body, hm, Fn.kp, hb⟩
  intro cdv A outer s H E hr
  have nd := sc_takes_gcd.nd
  have hu := hr.units
  have tk : Takes (cxOf (L2.CX P w) P w F mg base ["one", "other", "paper", "common", "by_one", "by_other", "part", "other_part"] "takes_gcd" (defScope s_takes_gcd) f cdv A outer s H E) (fun cls d _ H => E cls d H) := takes_of rfl rfl rfl rfl
  have hx : Passes (L2.CX P w) (cxOf (L2.CX P w) P w F mg base ["one", "other", "paper", "common", "by_one", "by_other", "part", "other_part"] "takes_gcd" (defScope s_takes_gcd) f cdv A outer s H E) E := passes_call tk fun _ _ _ _ h => h
  have hp : PassesOwn (model P w) (cxOf (L2.CX P w) P w F mg base ["one", "other", "paper", "common", "by_one", "by_other", "part", "other_part"] "takes_gcd" (defScope s_takes_gcd) f cdv A outer s H E).A (cxOf (L2.CX P w) P w F mg base ["one", "other", "paper", "common", "by_one", "by_other", "part", "other_part"] "takes_gcd" (defScope s_takes_gcd) f cdv A outer s H E).env (cxOf (L2.CX P w) P w F mg base ["one", "other", "paper", "common", "by_one", "by_other", "part", "other_part"] "takes_gcd" (defScope s_takes_gcd) f cdv A outer s H E).xe := passes_of rfl
  have hc : (cxOf (L2.CX P w) P w F mg base ["one", "other", "paper", "common", "by_one", "by_other", "part", "other_part"] "takes_gcd" (defScope s_takes_gcd) f cdv A outer s H E).calm = true := rfl
  exact ⟨_, (pssd_cons (psd_expr (pd_callD (d_need_two_integers T) (hr.mono (by decide)) (by rfl) hx (pad_cons (pd_var (pv 0)) (pad_cons (pd_var (pv 1)) pad_nil))))
    (pssd_cons (psd_if (ptd_not (ptd_truth (pd_callD (d_are_integers T) (hr.mono (by decide)) (by rfl) hx (pad_cons (pd_var (pv 2)) (pad_cons pd_int pad_nil))))) (pssd_one (psd_ret pd_bl)) pssd_nil)
    (pssd_cons (psd_asg (pd_var (pv 2)) (pgd_tup rfl (pgsd_cons (pgd_name (i := 3) nd rfl (by first | exact .inl rfl | exact .inr rfl)) (pgsd_cons (pgd_name (i := 4) nd rfl (by first | exact .inl rfl | exact .inr rfl)) (pgsd_cons (pgd_name (i := 5) nd rfl (by first | exact .inl rfl | exact .inr rfl)) (pgsd_cons (pgd_name (i := 6) nd rfl (by first | exact .inl rfl | exact .inr rfl)) (pgsd_cons (pgd_name (i := 7) nd rfl (by first | exact .inl rfl | exact .inr rfl)) pgsd_nil)))))))
    (pssd_cons (psd_if (PWD.pt (pwd_or (ptd_cmp op_lt opD_lt (pd_var (pv 3)) pd_int (nomark _)) (pwd_or1 (ptd_cmp (op_neX hu) opD_ne (pd_op op_addD opD_add (pd_op op_mulD opD_mul (pd_var (pv 4)) (pd_var (pv 0))) (pd_op op_mulD opD_mul (pd_var (pv 5)) (pd_var (pv 1)))) (pd_var (pv 3)) (nomark _))))) (pssd_one (psd_ret pd_bl)) pssd_nil)
    (pssd_one (psd_ret (pd_and (pd_cmp (op_eqX hu) opD_eq (pd_op op_mulD opD_mul (pd_var (pv 6)) (pd_var (pv 3))) (pd_var (pv 0)) (nomark _)) (pd_one (pd_cmp (op_eqX hu) opD_eq (pd_op op_mulD opD_mul (pd_var (pv 7)) (pd_var (pv 3))) (pd_var (pv 1)) (nomark _))))))))))⟩
theorem sc_lcm_of : FnScope ["one", "other", "common", "multiple", "by_one", "by_other"] ["one", "other"] (defScope s_lcm_of) := ⟨rfl, rfl, rfl, by decide +kernel, rfl, by decide +kernel, by decide +kernel⟩
def g_lcm_of : GS := (gSeq (gIf (gBool (gBin dEq (gVar 0) (gC (.int 0)))) (gRet (gDisp .tuple (gaCons (gC (.int 0)) (gaCons (gC (.int 1)) (gaCons (gC (.int 0)) (gaCons (gC (.int 1)) (gaCons (gC (.int 0)) gaNil))))))) gSkip)
    (gSeq (gIf (gBool (gBin dEq (gVar 1) (gC (.int 0)))) (gRet (gDisp .tuple (gaCons (gC (.int 0)) (gaCons (gC (.int 0)) (gaCons (gC (.int 1)) (gaCons (gC (.int 0)) (gaCons (gC (.int 1)) gaNil))))))) gSkip)
    (gSeq (gSet 2 (gBin dIx (gApp 2 G_bezout (gaCons (gVar 0) (gaCons (gVar 1) gaNil))) (gC (.int 0))))
    (gSeq (gSet 3 (gCall dAbs (gaCons (gBin dMul (gBin (fI divOk fun i j => i.fdiv j) (gVar 0) (gVar 2)) (gVar 1)) gaNil)))
    (gSeq (gSet 4 (gBin (fI divOk fun i j => i.fdiv j) (gVar 3) (gVar 0)))
    (gSeq (gSet 5 (gBin (fI divOk fun i j => i.fdiv j) (gVar 3) (gVar 1)))
    (gRet (gBin dAdd (gDisp .tuple (gaCons (gVar 3) (gaCons (gVar 4) (gaCons (gVar 5) gaNil)))) (gSlice (gApp 2 G_bezout (gaCons (gVar 4) (gaCons (gVar 5) gaNil))) (gPart (gC (.int 1))) gNoPart)))))))))
def G_lcm_of : GF := gFn 6 g_lcm_of
theorem d_lcm_of (T : Txt P w F mg base K) : DefOk P w F mg base K "lcm_of" 2 2 G_lcm_of := by
  obtain ⟨f, fd, Fn, hm, hb⟩ := T.f_lcm_of
  refine ⟨f, fd, ["one", "other"], ok_def (N := ["one", "other", "common", "multiple", "by_one", "by_other"]) (g := g_lcm_of) Fn sc_lcm_of ?body, hm, Fn.kp, hb⟩
  intro cdv A outer s H E hr
  have nd := sc_lcm_of.nd
  have hu := hr.units
  have tk : Takes (cxOf (L2.CX P w) P w F mg base ["one", "other", "common", "multiple", "by_one", "by_other"] "lcm_of" (defScope s_lcm_of) f cdv A outer s H E) (fun cls d _ H => E cls d H) := takes_of rfl rfl rfl rfl
  have hx : Passes (L2.CX P w) (cxOf (L2.CX P w) P w F mg base ["one", "other", "common", "multiple", "by_one", "by_other"] "lcm_of" (defScope s_lcm_of) f cdv A outer s H E) E := passes_call tk fun _ _ _ _ h => h
  have hp : PassesOwn (model P w) (cxOf (L2.CX P w) P w F mg base ["one", "other", "common", "multiple", "by_one", "by_other"] "lcm_of" (defScope s_lcm_of) f cdv A outer s H E).A (cxOf (L2.CX P w) P w F mg base ["one", "other", "common", "multiple", "by_one", "by_other"] "lcm_of" (defScope s_lcm_of) f cdv A outer s H E).env (cxOf (L2.CX P w) P w F mg base ["one", "other", "common", "multiple", "by_one", "by_other"] "lcm_of" (defScope s_lcm_of) f cdv A outer s H E).xe := passes_of rfl
  have hc : (cxOf (L2.CX P w) P w F mg base ["one", "other", "common", "multiple", "by_one", "by_other"] "lcm_of" (defScope s_lcm_of) f cdv A outer s H E).calm = true := rfl
  exact ⟨_, (pssd_cons (psd_if (ptd_cmp (op_eqX hu) opD_eq (pd_var (pv 0)) pd_int (nomark _)) (pssd_one (psd_ret (pd_tup (pad_cons pd_int (pad_cons pd_int (pad_cons pd_int (pad_cons pd_int (pad_cons pd_int pad_nil)))))))) pssd_nil)
    (pssd_cons (psd_if (ptd_cmp (op_eqX hu) opD_eq (pd_var (pv 1)) pd_int (nomark _)) (pssd_one (psd_ret (pd_tup (pad_cons pd_int (pad_cons pd_int (pad_cons pd_int (pad_cons pd_int (pad_cons pd_int pad_nil)))))))) pssd_nil)
    (pssd_cons (psd_set (i := 2) nd rfl (by first | exact .inl rfl | exact .inr rfl) (pd_ix ixR_D opD_ix (pd_callD (d_bezout T) (hr.mono (by decide)) (by rfl) hx (pad_cons (pd_var (pv 0)) (pad_cons (pd_var (pv 1)) pad_nil))) pd_int (fun _ _ => rfl)))
    (pssd_cons (psd_set (i := 3) nd rfl (by first | exact .inl rfl | exact .inr rfl) (pd_callB call_abs callD_abs (by rfl) T.b_abs bb_abs (pad_cons (pd_op op_mulD opD_mul (pd_op op_divD opD_div (pd_var (pv 0)) (pd_var (pv 2))) (pd_var (pv 1))) pad_nil)))
    (pssd_cons (psd_set (i := 4) nd rfl (by first | exact .inl rfl | exact .inr rfl) (pd_op op_divD opD_div (pd_var (pv 3)) (pd_var (pv 0))))
    (pssd_cons (psd_set (i := 5) nd rfl (by first | exact .inl rfl | exact .inr rfl) (pd_op op_divD opD_div (pd_var (pv 3)) (pd_var (pv 1))))
    (pssd_one (psd_ret (pd_op op_addD opD_add (pd_tup (pad_cons (pd_var (pv 3)) (pad_cons (pd_var (pv 4)) (pad_cons (pd_var (pv 5)) pad_nil)))) (pd_slice (pd_callD (d_bezout T) (hr.mono (by decide)) (by rfl) hx (pad_cons (pd_var (pv 4)) (pad_cons (pd_var (pv 5)) pad_nil))) (pod_some pd_int) pod_none))))))))))⟩
theorem sc_lcm_paper : FnScope ["one", "other"] ["one", "other"] (defScope s_lcm_paper) := ⟨rfl, rfl, rfl, by decide +kernel, rfl, by decide +kernel, by decide +kernel⟩
def g_lcm_paper : GS := (gSeq (gDrop (gApp 2 G_need_two_integers (gaCons (gVar 0) (gaCons (gVar 1) gaNil))))
    (gRet (gApp 2 G_lcm_of (gaCons (gVar 0) (gaCons (gVar 1) gaNil)))))
def G_lcm_paper : GF := gFn 2 g_lcm_paper
theorem d_lcm_paper (T : Txt P w F mg base K) : DefOk P w F mg base K "lcm_paper" 5 2 G_lcm_paper := by
  obtain ⟨f, fd, Fn, hm, hb⟩ := T.f_lcm_paper
  refine ⟨f, fd, ["one", "other"], ok_def (N := ["one", "other"]) (g := g_lcm_paper) Fn sc_lcm_paper ?body, hm, Fn.kp, hb⟩
  intro cdv A outer s H E hr
  have nd := sc_lcm_paper.nd
  have hu := hr.units
  have tk : Takes (cxOf (L2.CX P w) P w F mg base ["one", "other"] "lcm_paper" (defScope s_lcm_paper) f cdv A outer s H E) (fun cls d _ H => E cls d H) := takes_of rfl rfl rfl rfl
  have hx : Passes (L2.CX P w) (cxOf (L2.CX P w) P w F mg base ["one", "other"] "lcm_paper" (defScope s_lcm_paper) f cdv A outer s H E) E := passes_call tk fun _ _ _ _ h => h
  have hp : PassesOwn (model P w) (cxOf (L2.CX P w) P w F mg base ["one", "other"] "lcm_paper" (defScope s_lcm_paper) f cdv A outer s H E).A (cxOf (L2.CX P w) P w F mg base ["one", "other"] "lcm_paper" (defScope s_lcm_paper) f cdv A outer s H E).env (cxOf (L2.CX P w) P w F mg base ["one", "other"] "lcm_paper" (defScope s_lcm_paper) f cdv A outer s H E).xe := passes_of rfl
  have hc : (cxOf (L2.CX P w) P w F mg base ["one", "other"] "lcm_paper" (defScope s_lcm_paper) f cdv A outer s H E).calm = true := rfl
  exact ⟨_, (pssd_cons (psd_expr (pd_callD (d_need_two_integers T) (hr.mono (by decide)) (by rfl) hx (pad_cons (pd_var (pv 0)) (pad_cons (pd_var (pv 1)) pad_nil))))
    (pssd_one (psd_ret (pd_callD (d_lcm_of T) (hr.mono (by decide)) (by rfl) hx (pad_cons (pd_var (pv 0)) (pad_cons (pd_var (pv 1)) pad_nil))))))⟩
theorem sc_shows_lcm : FnScope ["one", "other", "paper", "multiple", "by_one", "by_other", "times_one", "times_other"] ["one", "other", "paper"] (defScope s_shows_lcm) := ⟨rfl, rfl, rfl, by decide +kernel, rfl, by decide +kernel, by decide +kernel⟩
def g_shows_lcm : GS := (gSeq (gIf (gNot (gTru (gApp 2 G_are_integers (gaCons (gVar 2) (gaCons (gC (.int 5)) gaNil))))) (gRet (gC (.bool false))) gSkip)
    (gSeq (gAsg (gVar 2) (ggTup 5 (ggCons (ggName 3) (ggCons (ggName 4) (ggCons (ggName 5) (ggCons (ggName 6) (ggCons (ggName 7) ggNil)))))))
    (gSeq (gIf (gOr (gBool (gBin (fB0 fun i j => decide (i < j)) (gVar 3) (gC (.int 0)))) (gOr (gBool (gBin dNe (gBin dMul (gVar 0) (gVar 4)) (gVar 3))) (gBool (gBin dNe (gBin dMul (gVar 1) (gVar 5)) (gVar 3))))) (gRet (gC (.bool false))) gSkip)
    (gRet (gBin dEq (gBin dAdd (gBin dMul (gVar 6) (gVar 4)) (gBin dMul (gVar 7) (gVar 5))) (gC (.int 1)))))))
def G_shows_lcm : GF := gFn 8 g_shows_lcm
theorem d_shows_lcm (T : Txt P w F mg base K) : DefOk P w F mg base K "shows_lcm" 5 3 G_shows_lcm := by
  obtain ⟨f, fd, Fn, hm, hb⟩ := T.f_shows_lcm
  refine ⟨f, fd, ["one", "other", "paper"], ok_def (N := ["one", "other", "paper", "multiple", "by_one", "by_other", "times_one", "times_other"]) (g := g_shows_lcm) Fn sc_shows_lcm ?body, hm, Fn.kp, hb⟩
  intro cdv A outer s H E hr
  have nd := sc_shows_lcm.nd
  have hu := hr.units
  have tk : Takes (cxOf (L2.CX P w) P w F mg base ["one", "other", "paper", "multiple", "by_one", "by_other", "times_one", "times_other"] "shows_lcm" (defScope s_shows_lcm) f cdv A outer s H E) (fun cls d _ H => E cls d H) := takes_of rfl rfl rfl rfl
  have hx : Passes (L2.CX P w) (cxOf (L2.CX P w) P w F mg base ["one", "other", "paper", "multiple", "by_one", "by_other", "times_one", "times_other"] "shows_lcm" (defScope s_shows_lcm) f cdv A outer s H E) E := passes_call tk fun _ _ _ _ h => h
  have hp : PassesOwn (model P w) (cxOf (L2.CX P w) P w F mg base ["one", "other", "paper", "multiple", "by_one", "by_other", "times_one", "times_other"] "shows_lcm" (defScope s_shows_lcm) f cdv A outer s H E).A (cxOf (L2.CX P w) P w F mg base ["one", "other", "paper", "multiple", "by_one", "by_other", "times_one", "times_other"] "shows_lcm" (defScope s_shows_lcm) f cdv A outer s H E).env (cxOf (L2.CX P w) P w F mg base ["one", "other", "paper", "multiple", "by_one", "by_other", "times_one", "times_other"] "shows_lcm" (defScope s_shows_lcm) f cdv A outer s H E).xe := passes_of rfl
  have hc : (cxOf (L2.CX P w) P w F mg base ["one", "other", "paper", "multiple", "by_one", "by_other", "times_one", "times_other"] "shows_lcm" (defScope s_shows_lcm) f cdv A outer s H E).calm = true := rfl
  exact ⟨_, (pssd_cons (psd_if (ptd_not (ptd_truth (pd_callD (d_are_integers T) (hr.mono (by decide)) (by rfl) hx (pad_cons (pd_var (pv 2)) (pad_cons pd_int pad_nil))))) (pssd_one (psd_ret pd_bl)) pssd_nil)
    (pssd_cons (psd_asg (pd_var (pv 2)) (pgd_tup rfl (pgsd_cons (pgd_name (i := 3) nd rfl (by first | exact .inl rfl | exact .inr rfl)) (pgsd_cons (pgd_name (i := 4) nd rfl (by first | exact .inl rfl | exact .inr rfl)) (pgsd_cons (pgd_name (i := 5) nd rfl (by first | exact .inl rfl | exact .inr rfl)) (pgsd_cons (pgd_name (i := 6) nd rfl (by first | exact .inl rfl | exact .inr rfl)) (pgsd_cons (pgd_name (i := 7) nd rfl (by first | exact .inl rfl | exact .inr rfl)) pgsd_nil)))))))
    (pssd_cons (psd_if (PWD.pt (pwd_or (ptd_cmp op_lt opD_lt (pd_var (pv 3)) pd_int (nomark _)) (pwd_or (ptd_cmp (op_neX hu) opD_ne (pd_op op_mulD opD_mul (pd_var (pv 0)) (pd_var (pv 4))) (pd_var (pv 3)) (nomark _)) (pwd_or1 (ptd_cmp (op_neX hu) opD_ne (pd_op op_mulD opD_mul (pd_var (pv 1)) (pd_var (pv 5))) (pd_var (pv 3)) (nomark _)))))) (pssd_one (psd_ret pd_bl)) pssd_nil)
    (pssd_one (psd_ret (pd_cmp (op_eqX hu) opD_eq (pd_op op_addD opD_add (pd_op op_mulD opD_mul (pd_var (pv 6)) (pd_var (pv 4))) (pd_op op_mulD opD_mul (pd_var (pv 7)) (pd_var (pv 5)))) pd_int (nomark _)))))))⟩
theorem sc_takes_lcm : FnScope ["one", "other", "paper"] ["one", "other", "paper"] (defScope s_takes_lcm) := ⟨rfl, rfl, rfl, by decide +kernel, rfl, by decide +kernel, by decide +kernel⟩
def g_takes_lcm : GS := (gSeq (gDrop (gApp 2 G_need_two_integers (gaCons (gVar 0) (gaCons (gVar 1) gaNil))))
    (gRet (gApp 3 G_shows_lcm (gaCons (gVar 0) (gaCons (gVar 1) (gaCons (gVar 2) gaNil))))))
def G_takes_lcm : GF := gFn 3 g_takes_lcm
theorem d_takes_lcm (T : Txt P w F mg base K) : DefOk P w F mg base K "takes_lcm" 6 3 G_takes_lcm := by
  obtain ⟨f, fd, Fn, hm, hb⟩ := T.f_takes_lcm
  refine ⟨f, fd, ["one", "other", "paper"], ok_def (N := ["one", "other", "paper"]) (g := g_takes_lcm) Fn sc_takes_lcm ?body, hm, Fn.kp, hb⟩
  intro cdv A outer s H E hr
  have nd := sc_takes_lcm.nd
  have hu := hr.units
  have tk : Takes (cxOf (L2.CX P w) P w F mg base ["one", "other", "paper"] "takes_lcm" (defScope s_takes_lcm) f cdv A outer s H E) (fun cls d _ H => E cls d H) := takes_of rfl rfl rfl rfl
  have hx : Passes (L2.CX P w) (cxOf (L2.CX P w) P w F mg base ["one", "other", "paper"] "takes_lcm" (defScope s_takes_lcm) f cdv A outer s H E) E := passes_call tk fun _ _ _ _ h => h
  have hp : PassesOwn (model P w) (cxOf (L2.CX P w) P w F mg base ["one", "other", "paper"] "takes_lcm" (defScope s_takes_lcm) f cdv A outer s H E).A (cxOf (L2.CX P w) P w F mg base ["one", "other", "paper"] "takes_lcm" (defScope s_takes_lcm) f cdv A outer s H E).env (cxOf (L2.CX P w) P w F mg base ["one", "other", "paper"] "takes_lcm" (defScope s_takes_lcm) f cdv A outer s H E).xe := passes_of rfl
  have hc : (cxOf (L2.CX P w) P w F mg base ["one", "other", "paper"] "takes_lcm" (defScope s_takes_lcm) f cdv A outer s H E).calm = true := rfl
  exact ⟨_, (pssd_cons (psd_expr (pd_callD (d_need_two_integers T) (hr.mono (by decide)) (by rfl) hx (pad_cons (pd_var (pv 0)) (pad_cons (pd_var (pv 1)) pad_nil))))
    (pssd_one (psd_ret (pd_callD (d_shows_lcm T) (hr.mono (by decide)) (by rfl) hx (pad_cons (pd_var (pv 0)) (pad_cons (pd_var (pv 1)) (pad_cons (pd_var (pv 2)) pad_nil)))))))⟩
theorem sc_gcd_row_of : FnScope ["row", "common", "multipliers", "number", "quotients", "by_others", "by_number", "part"] ["row"] (defScope s_gcd_row_of) := ⟨rfl, rfl, rfl, by decide +kernel, rfl, by decide +kernel, by decide +kernel⟩
def le_gcd_row_of_0 : GE := (gBin dMul (gVar 7) (gVar 5))
def fb_gcd_row_of_0 : GS := (gSeq (gAsg (gApp 2 G_bezout (gaCons (gVar 1) (gaCons (gVar 3) gaNil))) (ggTup 3 (ggCons (ggName 1) (ggCons (ggName 5) (ggCons (ggName 6) ggNil)))))
    (gSet 2 (gBin dAdd (gL (gLc (giLst (gVar 2)) [7] (ggName 7) gYes le_gcd_row_of_0)) (gDisp .list (gaCons (gVar 6) gaNil)))))
def ez_gcd_row_of_0 : En → PyData → Option Int := (fun ρ d => ((fun ρ _ => atZ 1 ρ) ρ d).bind fun i => if i ≠ 0 then (fun ρ d => ((fun _ d => dInt d) ρ d).bind fun i => ((fun ρ _ => atZ 1 ρ) ρ d).bind fun j => if divOk i j = true then some (i.fdiv j) else none) ρ d else (fun _ _ => some 0) ρ d)
def g_gcd_row_of : GS := (gSeq (gSet 1 (gC (.int 0)))
    (gSeq (gSet 2 (gDisp .list gaNil))
    (gSeq (gFor (giTup (gVar 0)) (ggName 3) fb_gcd_row_of_0)
    (gSeq (gSet 4 (gTupZ ez_gcd_row_of_0 (gVar 0)))
    (gRet (gDisp .tuple (gaCons (gVar 1) (gaCons (gCall dToTup (gaCons (gVar 2) gaNil)) (gaCons (gVar 4) gaNil)))))))))
def G_gcd_row_of : GF := gFn 8 g_gcd_row_of
theorem d_gcd_row_of (T : Txt P w F mg base K) : DefOk P w F mg base K "gcd_row_of" 4 1 G_gcd_row_of := by
  obtain ⟨f, fd, c, Pt, Fn, hm, hb, TB, hmT, hu0⟩ := T.k_gcd_row_of
  refine ⟨f, fd, ["row"], ok_defK (N := ["row", "common", "multipliers", "number", "quotients", "by_others", "by_number", "part"]) (g := g_gcd_row_of) Fn sc_gcd_row_of ?body, hm, Fn.kp, hb⟩
  intro A outer s H E hr
  have nd := sc_gcd_row_of.nd
  have hu := hr.units
  have tk : Takes (cxOf (L2.CX P w) P w F mg base ["row", "common", "multipliers", "number", "quotients", "by_others", "by_number", "part"] "gcd_row_of" (defScope s_gcd_row_of) f (.ref c) A outer s H E) (fun cls d _ H => E cls d H) := takes_of rfl rfl rfl rfl
  have hx : Passes (L2.CX P w) (cxOf (L2.CX P w) P w F mg base ["row", "common", "multipliers", "number", "quotients", "by_others", "by_number", "part"] "gcd_row_of" (defScope s_gcd_row_of) f (.ref c) A outer s H E) E := passes_call tk fun _ _ _ _ h => h
  have hp : PassesOwn (model P w) (cxOf (L2.CX P w) P w F mg base ["row", "common", "multipliers", "number", "quotients", "by_others", "by_number", "part"] "gcd_row_of" (defScope s_gcd_row_of) f (.ref c) A outer s H E).A (cxOf (L2.CX P w) P w F mg base ["row", "common", "multipliers", "number", "quotients", "by_others", "by_number", "part"] "gcd_row_of" (defScope s_gcd_row_of) f (.ref c) A outer s H E).env (cxOf (L2.CX P w) P w F mg base ["row", "common", "multipliers", "number", "quotients", "by_others", "by_number", "part"] "gcd_row_of" (defScope s_gcd_row_of) f (.ref c) A outer s H E).xe := passes_of rfl
  have hc : (cxOf (L2.CX P w) P w F mg base ["row", "common", "multipliers", "number", "quotients", "by_others", "by_number", "part"] "gcd_row_of" (defScope s_gcd_row_of) f (.ref c) A outer s H E).calm = true := rfl
  exact ⟨_, (pssd_cons (psd_set (i := 1) nd rfl (by first | exact .inl rfl | exact .inr rfl) pd_int)
    (pssd_cons (psd_set (i := 2) nd rfl (by first | exact .inl rfl | exact .inr rfl) (pd_lst pad_nil))
    (pssd_cons (psd_for hp hc (pid_tup (pd_var (pv 0))) (pgd_name (i := 3) nd rfl (by first | exact .inl rfl | exact .inr rfl)) (pssd_cons (psd_asg (pd_callD (d_bezout T) (hr.mono (by decide)) (by rfl) hx (pad_cons (pd_var (pv 1)) (pad_cons (pd_var (pv 3)) pad_nil))) (pgd_tup rfl (pgsd_cons (pgd_name (i := 1) nd rfl (by first | exact .inl rfl | exact .inr rfl)) (pgsd_cons (pgd_name (i := 5) nd rfl (by first | exact .inl rfl | exact .inr rfl)) (pgsd_cons (pgd_name (i := 6) nd rfl (by first | exact .inl rfl | exact .inr rfl)) pgsd_nil)))))
    (pssd_one (psd_set (i := 2) nd rfl (by first | exact .inl rfl | exact .inr rfl) (pd_op op_addD opD_add (PFD.toD (pf_lc (own := [("part", 7)]) (ws := [7]) hc nd (pid_lst (pd_var (pv 2))) (blkOk_by (N := ["row", "common", "multipliers", "number", "quotients", "by_others", "by_number", "part"]) (sc := defScope s_gcd_row_of) (by decide +kernel)) (fun _ _ _ _ _ => ⟨_, by exact (pgd_name (i := 7) nd rfl (by first | exact .inl rfl | exact .inr rfl))⟩) (fun _ _ _ _ _ => ⟨_, by exact ptsd_nil⟩) (fun _ _ _ _ _ => ⟨_, by exact (pd_op op_mulD opD_mul (pd_var (pv 7)) (pd_var (pv 5)))⟩))) (pd_lst (pad_cons (pd_var (pv 6)) pad_nil)))))))
    (pssd_cons (psd_set (i := 4) nd rfl (by first | exact .inl rfl | exact .inr rfl) (pd_tupZ (k := 0) (f := ez_gcd_row_of_0) (hr.mono (by decide)) (by rfl) T.b_tuple TB rfl (by rfl) (pd_var (pv 0)) hmT hu0 (ei_ifc (ei_cell (i := 1) rfl rfl rfl) (ei_div (ei_item rfl rfl) (ei_cell (i := 1) rfl rfl rfl)) ei_const) (fun _ => rfl)))
    (pssd_one (psd_ret (pd_tup (pad_cons (pd_var (pv 1)) (pad_cons (pd_callTy call_tuple_of callD_tuple (by rfl) T.b_tuple bb_tuple (pad_cons (pd_var (pv 2)) pad_nil)) (pad_cons (pd_var (pv 4)) pad_nil))))))))))⟩
theorem sc_gcd_row_paper : FnScope ["row"] ["row"] (defScope s_gcd_row_paper) := ⟨rfl, rfl, rfl, by decide +kernel, rfl, by decide +kernel, by decide +kernel⟩
def g_gcd_row_paper : GS := (gSeq (gDrop (gApp 1 G_need_integer_row (gaCons (gVar 0) gaNil)))
    (gRet (gApp 1 G_gcd_row_of (gaCons (gVar 0) gaNil))))
def G_gcd_row_paper : GF := gFn 1 g_gcd_row_paper
theorem d_gcd_row_paper (T : Txt P w F mg base K) : DefOk P w F mg base K "gcd_row_paper" 5 1 G_gcd_row_paper := by
  obtain ⟨f, fd, Fn, hm, hb⟩ := T.f_gcd_row_paper
  refine ⟨f, fd, ["row"], ok_def (N := ["row"]) (g := g_gcd_row_paper) Fn sc_gcd_row_paper ?body, hm, Fn.kp, hb⟩
  intro cdv A outer s H E hr
  have nd := sc_gcd_row_paper.nd
  have hu := hr.units
  have tk : Takes (cxOf (L2.CX P w) P w F mg base ["row"] "gcd_row_paper" (defScope s_gcd_row_paper) f cdv A outer s H E) (fun cls d _ H => E cls d H) := takes_of rfl rfl rfl rfl
  have hx : Passes (L2.CX P w) (cxOf (L2.CX P w) P w F mg base ["row"] "gcd_row_paper" (defScope s_gcd_row_paper) f cdv A outer s H E) E := passes_call tk fun _ _ _ _ h => h
  have hp : PassesOwn (model P w) (cxOf (L2.CX P w) P w F mg base ["row"] "gcd_row_paper" (defScope s_gcd_row_paper) f cdv A outer s H E).A (cxOf (L2.CX P w) P w F mg base ["row"] "gcd_row_paper" (defScope s_gcd_row_paper) f cdv A outer s H E).env (cxOf (L2.CX P w) P w F mg base ["row"] "gcd_row_paper" (defScope s_gcd_row_paper) f cdv A outer s H E).xe := passes_of rfl
  have hc : (cxOf (L2.CX P w) P w F mg base ["row"] "gcd_row_paper" (defScope s_gcd_row_paper) f cdv A outer s H E).calm = true := rfl
  exact ⟨_, (pssd_cons (psd_expr (pd_callD (d_need_integer_row T) (hr.mono (by decide)) (by rfl) hx (pad_cons (pd_var (pv 0)) pad_nil)))
    (pssd_one (psd_ret (pd_callD (d_gcd_row_of T) (hr.mono (by decide)) (by rfl) hx (pad_cons (pd_var (pv 0)) pad_nil)))))⟩
theorem sc_shows_gcd_row : FnScope ["row", "paper", "common", "multipliers", "quotients", "number", "part"] ["row", "paper"] (defScope s_shows_gcd_row) := ⟨rfl, rfl, rfl, by decide +kernel, rfl, by decide +kernel, by decide +kernel⟩
def le_shows_gcd_row_0 : GE := (gBin dMul (gVar 5) (gVar 6))
def le_shows_gcd_row_1 : GE := (gBin dEq (gBin dMul (gVar 6) (gVar 2)) (gVar 5))
def g_shows_gcd_row : GS := (gSeq (gIf (gOr (gNot (gTru (gIsi "tuple" (gVar 1)))) (gOr (gBool (gBin dNe (gCall dLen (gaCons (gVar 1) gaNil)) (gC (.int 3)))) (gOr (gNot (gTru (gApp 2 G_are_integers (gaCons (gSlice (gVar 1) gNoPart (gPart (gC (.int 1)))) (gaCons (gC (.int 1)) gaNil))))) (gBool (gBin (fB0 fun i j => decide (i < j)) (gBin dIx (gVar 1) (gC (.int 0))) (gC (.int 0))))))) (gRet (gC (.bool false))) gSkip)
    (gSeq (gAsg (gVar 1) (ggTup 3 (ggCons (ggName 2) (ggCons (ggName 3) (ggCons (ggName 4) ggNil)))))
    (gSeq (gIf (gOr (gNot (gTru (gApp 2 G_are_integers (gaCons (gVar 3) (gaCons (gCall dLen (gaCons (gVar 0) gaNil)) gaNil))))) (gNot (gTru (gApp 2 G_are_integers (gaCons (gVar 4) (gaCons (gCall dLen (gaCons (gVar 0) gaNil)) gaNil)))))) (gRet (gC (.bool false))) gSkip)
    (gSeq (gIf (gBool (gBin dNe (gCall dSum (gaCons (gL (gLc (giArg dZip (gaCons (gVar 0) (gaCons (gVar 3) gaNil))) [5, 6] (ggTup 2 (ggCons (ggName 5) (ggCons (ggName 6) ggNil))) gYes le_shows_gcd_row_0)) gaNil)) (gVar 2))) (gRet (gC (.bool false))) gSkip)
    (gRet (gCall dAllL (gaCons (gL (gLc (giArg dZip (gaCons (gVar 0) (gaCons (gVar 4) gaNil))) [5, 6] (ggTup 2 (ggCons (ggName 5) (ggCons (ggName 6) ggNil))) gYes le_shows_gcd_row_1)) gaNil)))))))
def G_shows_gcd_row : GF := gFn 7 g_shows_gcd_row
theorem d_shows_gcd_row (T : Txt P w F mg base K) : DefOk P w F mg base K "shows_gcd_row" 5 2 G_shows_gcd_row := by
  obtain ⟨f, fd, Fn, hm, hb⟩ := T.f_shows_gcd_row
  refine ⟨f, fd, ["row", "paper"], ok_def (N := ["row", "paper", "common", "multipliers", "quotients", "number", "part"]) (g := g_shows_gcd_row) Fn sc_shows_gcd_row ?body, hm, Fn.kp, hb⟩
  intro cdv A outer s H E hr
  have nd := sc_shows_gcd_row.nd
  have hu := hr.units
  have tk : Takes (cxOf (L2.CX P w) P w F mg base ["row", "paper", "common", "multipliers", "quotients", "number", "part"] "shows_gcd_row" (defScope s_shows_gcd_row) f cdv A outer s H E) (fun cls d _ H => E cls d H) := takes_of rfl rfl rfl rfl
  have hx : Passes (L2.CX P w) (cxOf (L2.CX P w) P w F mg base ["row", "paper", "common", "multipliers", "quotients", "number", "part"] "shows_gcd_row" (defScope s_shows_gcd_row) f cdv A outer s H E) E := passes_call tk fun _ _ _ _ h => h
  have hp : PassesOwn (model P w) (cxOf (L2.CX P w) P w F mg base ["row", "paper", "common", "multipliers", "quotients", "number", "part"] "shows_gcd_row" (defScope s_shows_gcd_row) f cdv A outer s H E).A (cxOf (L2.CX P w) P w F mg base ["row", "paper", "common", "multipliers", "quotients", "number", "part"] "shows_gcd_row" (defScope s_shows_gcd_row) f cdv A outer s H E).env (cxOf (L2.CX P w) P w F mg base ["row", "paper", "common", "multipliers", "quotients", "number", "part"] "shows_gcd_row" (defScope s_shows_gcd_row) f cdv A outer s H E).xe := passes_of rfl
  have hc : (cxOf (L2.CX P w) P w F mg base ["row", "paper", "common", "multipliers", "quotients", "number", "part"] "shows_gcd_row" (defScope s_shows_gcd_row) f cdv A outer s H E).calm = true := rfl
  exact ⟨_, (pssd_cons (psd_if (PWD.pt (pwd_or (ptd_not (ptd_truth (pd_isi (T := "tuple") (pd_var (pv 1)) (by rfl) T.b_isinstance (by rfl) T.b_tuple bb_tuple))) (pwd_or (ptd_cmp (op_neX hu) opD_ne (pd_callB call_len_seq callD_len (by rfl) T.b_len bb_len (pad_cons (pd_var (pv 1)) pad_nil)) pd_int (nomark _)) (pwd_or (ptd_not (ptd_truth (pd_callD (d_are_integers T) (hr.mono (by decide)) (by rfl) hx (pad_cons (pd_slice (pd_var (pv 1)) pod_none (pod_some pd_int)) (pad_cons pd_int pad_nil))))) (pwd_or1 (ptd_cmp op_lt opD_lt (pd_ix ixR_D opD_ix (pd_var (pv 1)) pd_int (fun _ _ => rfl)) pd_int (nomark _))))))) (pssd_one (psd_ret pd_bl)) pssd_nil)
    (pssd_cons (psd_asg (pd_var (pv 1)) (pgd_tup rfl (pgsd_cons (pgd_name (i := 2) nd rfl (by first | exact .inl rfl | exact .inr rfl)) (pgsd_cons (pgd_name (i := 3) nd rfl (by first | exact .inl rfl | exact .inr rfl)) (pgsd_cons (pgd_name (i := 4) nd rfl (by first | exact .inl rfl | exact .inr rfl)) pgsd_nil)))))
    (pssd_cons (psd_if (PWD.pt (pwd_or (ptd_not (ptd_truth (pd_callD (d_are_integers T) (hr.mono (by decide)) (by rfl) hx (pad_cons (pd_var (pv 3)) (pad_cons (pd_callB call_len_seq callD_len (by rfl) T.b_len bb_len (pad_cons (pd_var (pv 0)) pad_nil)) pad_nil))))) (pwd_or1 (ptd_not (ptd_truth (pd_callD (d_are_integers T) (hr.mono (by decide)) (by rfl) hx (pad_cons (pd_var (pv 4)) (pad_cons (pd_callB call_len_seq callD_len (by rfl) T.b_len bb_len (pad_cons (pd_var (pv 0)) pad_nil)) pad_nil)))))))) (pssd_one (psd_ret pd_bl)) pssd_nil)
    (pssd_cons (psd_if (ptd_cmp (op_neX hu) opD_ne (pd_callB (cr_sum rfl) callD_sum (by rfl) T.b_sum bb_sum (pad_cons (PFD.toD (pf_lc (own := [("number", 5), ("part", 6)]) (ws := [5, 6]) hc nd (pid_zip (by rfl) T.b_zip (pad_cons (pd_var (pv 0)) (pad_cons (pd_var (pv 3)) pad_nil)) (fun h => RZ.pi_zipA (by rfl) T.b_zip h)) (blkOk_by (N := ["row", "paper", "common", "multipliers", "quotients", "number", "part"]) (sc := defScope s_shows_gcd_row) (by decide +kernel)) (fun _ _ _ _ _ => ⟨_, by exact (pgd_tup rfl (pgsd_cons (pgd_name (i := 5) nd rfl (by first | exact .inl rfl | exact .inr rfl)) (pgsd_cons (pgd_name (i := 6) nd rfl (by first | exact .inl rfl | exact .inr rfl)) pgsd_nil)))⟩) (fun _ _ _ _ _ => ⟨_, by exact ptsd_nil⟩) (fun _ _ _ _ _ => ⟨_, by exact (pd_op op_mulD opD_mul (pd_var (pv 5)) (pd_var (pv 6)))⟩))) pad_nil)) (pd_var (pv 2)) (nomark _)) (pssd_one (psd_ret pd_bl)) pssd_nil)
    (pssd_one (psd_ret (pd_callB (cr_all rfl) callD_allL (by rfl) T.b_all bb_all (pad_cons (PFD.toD (pf_lc (own := [("number", 5), ("part", 6)]) (ws := [5, 6]) hc nd (pid_zip (by rfl) T.b_zip (pad_cons (pd_var (pv 0)) (pad_cons (pd_var (pv 4)) pad_nil)) (fun h => RZ.pi_zipA (by rfl) T.b_zip h)) (blkOk_by (N := ["row", "paper", "common", "multipliers", "quotients", "number", "part"]) (sc := defScope s_shows_gcd_row) (by decide +kernel)) (fun _ _ _ _ _ => ⟨_, by exact (pgd_tup rfl (pgsd_cons (pgd_name (i := 5) nd rfl (by first | exact .inl rfl | exact .inr rfl)) (pgsd_cons (pgd_name (i := 6) nd rfl (by first | exact .inl rfl | exact .inr rfl)) pgsd_nil)))⟩) (fun _ _ _ _ _ => ⟨_, by exact ptsd_nil⟩) (fun _ _ _ _ _ => ⟨_, by exact (pd_cmp (op_eqX hu) opD_eq (pd_op op_mulD opD_mul (pd_var (pv 6)) (pd_var (pv 2))) (pd_var (pv 5)) (nomark _))⟩))) pad_nil))))))))⟩
theorem sc_takes_gcd_row : FnScope ["row", "paper"] ["row", "paper"] (defScope s_takes_gcd_row) := ⟨rfl, rfl, rfl, by decide +kernel, rfl, by decide +kernel, by decide +kernel⟩
def g_takes_gcd_row : GS := (gSeq (gDrop (gApp 1 G_need_integer_row (gaCons (gVar 0) gaNil)))
    (gRet (gApp 2 G_shows_gcd_row (gaCons (gVar 0) (gaCons (gVar 1) gaNil)))))
def G_takes_gcd_row : GF := gFn 2 g_takes_gcd_row
theorem d_takes_gcd_row (T : Txt P w F mg base K) : DefOk P w F mg base K "takes_gcd_row" 6 2 G_takes_gcd_row := by
  obtain ⟨f, fd, Fn, hm, hb⟩ := T.f_takes_gcd_row
  refine ⟨f, fd, ["row", "paper"], ok_def (N := ["row", "paper"]) (g := g_takes_gcd_row) Fn sc_takes_gcd_row ?body, hm, Fn.kp, hb⟩
  intro cdv A outer s H E hr
  have nd := sc_takes_gcd_row.nd
  have hu := hr.units
  have tk : Takes (cxOf (L2.CX P w) P w F mg base ["row", "paper"] "takes_gcd_row" (defScope s_takes_gcd_row) f cdv A outer s H E) (fun cls d _ H => E cls d H) := takes_of rfl rfl rfl rfl
  have hx : Passes (L2.CX P w) (cxOf (L2.CX P w) P w F mg base ["row", "paper"] "takes_gcd_row" (defScope s_takes_gcd_row) f cdv A outer s H E) E := passes_call tk fun _ _ _ _ h => h
  have hp : PassesOwn (model P w) (cxOf (L2.CX P w) P w F mg base ["row", "paper"] "takes_gcd_row" (defScope s_takes_gcd_row) f cdv A outer s H E).A (cxOf (L2.CX P w) P w F mg base ["row", "paper"] "takes_gcd_row" (defScope s_takes_gcd_row) f cdv A outer s H E).env (cxOf (L2.CX P w) P w F mg base ["row", "paper"] "takes_gcd_row" (defScope s_takes_gcd_row) f cdv A outer s H E).xe := passes_of rfl
  have hc : (cxOf (L2.CX P w) P w F mg base ["row", "paper"] "takes_gcd_row" (defScope s_takes_gcd_row) f cdv A outer s H E).calm = true := rfl
  exact ⟨_, (pssd_cons (psd_expr (pd_callD (d_need_integer_row T) (hr.mono (by decide)) (by rfl) hx (pad_cons (pd_var (pv 0)) pad_nil)))
    (pssd_one (psd_ret (pd_callD (d_shows_gcd_row T) (hr.mono (by decide)) (by rfl) hx (pad_cons (pd_var (pv 0)) (pad_cons (pd_var (pv 1)) pad_nil))))))⟩
theorem sc__law_cup : FnScope ["_law_script", "_law_cell"] ["_law_script"] (defScope s__law_cup) := ⟨rfl, rfl, rfl, by decide +kernel, rfl, by decide +kernel, by decide +kernel⟩
def ga__law_cup : GA := (gaCons (gIfE (gBool (gBin (fB0 fun i j => decide (j ≤ i)) (gVar 1) (gBin (fI powOk fun i j => i ^ j.toNat) (gC (.int 10)) (gC (.int 18))))) (gBin (fI divOk fun i j => i.fdiv j) (gVar 1) (gC (.int 67))) (gC (.int 0))) (gaCons (gBin dAdd (gBin (fI modOk fun i j => i.fmod j) (gCall dToInt (gaCons (gBin dAdd (gBin dMul (gVar 1) (gC (.int 277))) (gC (.int 2609))) gaNil)) (gC (.int 2077503167))) (gC (.int 163))) gaNil))
theorem cell_rs (ns : List Int) (hl : ns.length ≤ 63) (ρ : En) (cu : Cu) : ((((Rs.ok (PyData.list (ns.map .int)) cu).bind fun a cu1 => ((gDisp .list (gaCons (gC (.int 0)) gaNil)) ρ cu1).bind fun b cu2 => Rs.ofO (dAdd a b) cu2).bind fun a cu1 => ((gC (.int 0)) ρ cu1).bind fun b cu2 => Rs.ofO (dIx a b) cu2).bind fun a cu1 => Rs.ofO (dAbs [a]) cu1) = .ok (.int (cell0 ns)) cu := by
  cases ns with
  | nil => rfl
  | cons i r =>
    have h : (PyData.int i :: r.map .int).length + [PyData.int 0].length ≤ 16777216 := by simp only [List.length_cons, List.length_map, List.length_nil] at hl ⊢; omega
    have e : dAdd (PyData.list ((i :: r).map .int)) (PyData.list [PyData.int 0]) = some (.list (PyData.int i :: (r.map .int ++ [.int 0]))) := by
      show (if _ then some _ else none) = _
      rw [if_pos (by exact h)]
      rfl
    show (((Rs.ofO (dAdd (PyData.list ((i :: r).map .int)) (PyData.list [PyData.int 0])) cu).bind fun a cu1 => Rs.ofO (dIx a (.int 0)) cu1).bind fun a cu1 => Rs.ofO (dAbs [a]) cu1) = _
    rw [e, Rs.ofO_some, Rs.bind_ok, dIx_lst, atI0, Rs.ofO_some, Rs.bind_ok]
    rfl
theorem cup_rs (cell : Int) (cu : Cu) : (gfDisp ga__law_cup) [.un, .dat (.int cell)] cu = .ok [.int (cup0 cell).1, .int (cup0 cell).2] cu := by
  unfold cup0
  have h1 : mulOk cell 277 = true := mulOk_r (by decide)
  have h2 : divOk cell 67 = true := divOk_b (p := 64) (by decide) (by decide) (by decide) (by decide)
  have h3 : powOk 10 18 = true := by decide
  have h4 : modOk (cell * 277 + 2609) 2077503167 = true := modOk_b (by decide)
  by_cases h : cell ≥ 10 ^ 18
  · have e : decide ((10 : Int) ^ (18 : Int).toNat ≤ cell) = true := decide_eq_true h
    simp only [gfDisp, ga__law_cup, gaCons, gaNil, gIfE, gBool, gBin, gCall, gC_eq, gVar_un, List.getElem?_cons_zero, List.getElem?_cons_succ, Rs.bind_ok, Rs.ofO_some, dMul_int, dAdd_int, fI_int, fB0_int, dBool_bl, dats_nil, dats_cons, Option.map_some, Option.bind_some, dToInt_int, h1, h2, h3, h4, e, if_true, List.length_cons, List.length_nil]
    rw [if_pos h]
    rfl
  · have e : decide ((10 : Int) ^ (18 : Int).toNat ≤ cell) = false := decide_eq_false h
    simp only [gfDisp, ga__law_cup, gaCons, gaNil, gIfE, gBool, gBin, gCall, gC_eq, gVar_un, List.getElem?_cons_zero, List.getElem?_cons_succ, Rs.bind_ok, Rs.ofO_some, dMul_int, dAdd_int, fI_int, fB0_int, dBool_bl, dats_nil, dats_cons, Option.map_some, Option.bind_some, dToInt_int, h1, h2, h3, h4, e, Bool.false_eq_true, if_false, List.length_cons, List.length_nil]
    rw [if_neg h]
    rfl
theorem ok__law_cup (T : Txt P w F mg base K) : ∃ (f : Addr) (fd : FuncData), FnOk P w F mg base (L2.CX P w) 1 f fd ["_law_script"] (spCup K F) ∧ mg "_law_cup" = some (.ref f) ∧ PySem.W.keepIn F (.ref f) = true ∧ Binds F fd ["_law_script"] [] := by
  obtain ⟨f, fd, Fn, hm, hb⟩ := T.f__law_cup
  refine ⟨f, fd, Fn.okX sc__law_cup (k := 0) (fun vs H Q E h => ?len) (fun cdv A outer s H vs Q E hr h => ?body), hm, Fn.kp, hb⟩
  · obtain ⟨a, ns, rfl, _⟩ := h
    rfl
  obtain ⟨a, ns, rfl, hS, hl, hT, hQ⟩ := h
  have nd := sc__law_cup.nd
  have hu := hr.units
  have tk : Takes (cxOf (L2.CX P w) P w F mg base ["_law_script", "_law_cell"] "_law_cup" (defScope s__law_cup) f cdv A outer s H E) (fun cls d _ H => E cls d H) := takes_of rfl rfl rfl rfl
  have hx : Passes (L2.CX P w) (cxOf (L2.CX P w) P w F mg base ["_law_script", "_law_cell"] "_law_cup" (defScope s__law_cup) f cdv A outer s H E) E := passes_call tk fun _ _ _ _ h => h
  have hp : PassesOwn (model P w) (cxOf (L2.CX P w) P w F mg base ["_law_script", "_law_cell"] "_law_cup" (defScope s__law_cup) f cdv A outer s H E).A (cxOf (L2.CX P w) P w F mg base ["_law_script", "_law_cell"] "_law_cup" (defScope s__law_cup) f cdv A outer s H E).env (cxOf (L2.CX P w) P w F mg base ["_law_script", "_law_cell"] "_law_cup" (defScope s__law_cup) f cdv A outer s H E).xe := passes_of rfl
  have hc : (cxOf (L2.CX P w) P w F mg base ["_law_script", "_law_cell"] "_law_cup" (defScope s__law_cup) f cdv A outer s H E).calm = true := rfl
  obtain ⟨t2, hp2, hs2⟩ : ∃ t2, PSs (cxOf (L2.CX P w) P w F mg base ["_law_script", "_law_cell"] "_law_cup" (defScope s__law_cup) f cdv A outer s H E) [(defBody s__law_cup).getD 1 (.Pass ⟨0, 0, 0, 0⟩)] (tRet t2) ∧ SemF K E t2 (gfDisp ga__law_cup) :=
    ret_own (pf_lst (pad_cons (pd_ifExp (ptd_cmp op_ge opD_ge (pd_var (pv 1)) (pd_op op_pow opD_pow pd_int pd_int) (nomark _)) (pd_op op_divD opD_div (pd_var (pv 1)) pd_int) pd_int) (pad_cons (pd_op op_addD opD_add (pd_op op_modN opD_mod (pd_callTy call_int1 callD_int (by rfl) T.b_int bb_int (pad_cons (pd_op op_addD opD_add (pd_op op_mulD opD_mul (pd_var (pv 1)) pd_int) pd_int) pad_nil)) pd_int) pd_int) pad_nil)))
  refine ⟨_, pss_cons (ps_set (i := 1) nd rfl (by first | exact .inl rfl | exact .inr rfl) (pe_callB call_abs (by rfl) T.b_abs bb_abs (pa_cons (pe_ix ixR_D (pe_op op_addD (pe_callTy call_list_of (by rfl) T.b_list bb_list (pa_cons (pv 0) pa_nil)) (PD.pe (K := K) (E := E) (pd_lst (pad_cons pd_int pad_nil)))) pe_int (fun _ _ => rfl)) pa_nil)))
    hp2, ?_⟩
  have s0 : SRep K none H (fun _ => none) (L2.start ["_law_script", "_law_cell"] [V.ref a]) H (fun _ => none) (List.replicate 2 .un) (0, 0) := srep0 hT rfl
  refine at_seq_set (E := E) (at_call1 callD_abs (at_op s0 opD_ix (at_op s0 opD_add (at_script (i := 0) s0.wd (by rfl) hS) (PD.sem (X := cxOf (L2.CX P w) P w F mg base ["_law_script", "_law_cell"] "_law_cup" (defScope s__law_cup) f cdv A outer s H E) (pd_lst (pos := ⟨0, 0, 0, 0⟩) (pad_cons (pd_int (i := 0) (j := 0) (pos := ⟨0, 0, 0, 0⟩)) pad_nil)))) (sem_c (v := .int 0) fun _ => .int 0))) ?_
  rw [cell_rs ns hl]
  intro H1 G1 x1 w1 v rv
  have s1 := (s0.go x1 w1).set (i := 1) rv
  exact ret_cup hs2 s1 (cup_rs _ _) hQ
theorem sc__law_roll : FnScope ["_law_cup_here", "_law_many", "_law_deep", "_law_found"] ["_law_cup_here", "_law_many"] (defScope s__law_roll) := ⟨rfl, rfl, rfl, by decide +kernel, rfl, by decide +kernel, by decide +kernel⟩
def g__law_roll : GS := (gSeq (gIf (gBool (gBin (fB0 fun i j => decide (j < i)) (gCup 0 false) (gC (.int 0)))) (gSeq (gSet 3 (gBin (fI modOk fun i j => i.fmod j) (gCall dToInt (gaCons (gCup 0 false) gaNil)) (gVar 1)))
    (gSeq (gCupSet 0 false (gBin (fI divOk fun i j => i.fdiv j) (gCup 0 false) (gVar 1)))
    (gRet (gVar 3)))) gSkip)
    (gSeq (gCupSet 0 true (gBin (fI modOk fun i j => i.fmod j) (gCall dToInt (gaCons (gBin dAdd (gBin dMul (gCup 0 true) (gC (.int 31039))) (gC (.int 7973))) gaNil)) (gC (.int 2147483543))))
    (gSeq (gSet 2 (gBin (fI modOk fun i j => i.fmod j) (gCall dToInt (gaCons (gBin dMul (gCup 0 true) (gBin dAdd (gCup 0 true) (gC (.int 229)))) gaNil)) (gC (.int 2147483587))))
    (gRet (gBin (fI modOk fun i j => i.fmod j) (gCall dToInt (gaCons (gBin (fI divOk fun i j => i.fdiv j) (gVar 2) (gC (.int 821))) gaNil)) (gVar 1))))))
def G__law_roll : GF := gFn 4 g__law_roll
theorem d__law_roll (T : Txt P w F mg base K) : DefOk P w F mg base K "_law_roll" 1 2 G__law_roll := by
  obtain ⟨f, fd, Fn, hm, hb⟩ := T.f__law_roll
  refine ⟨f, fd, ["_law_cup_here", "_law_many"], ok_def (N := ["_law_cup_here", "_law_many", "_law_deep", "_law_found"]) (g := g__law_roll) Fn sc__law_roll ?body, hm, Fn.kp, hb⟩
  intro cdv A outer s H E hr
  have nd := sc__law_roll.nd
  have hu := hr.units
  have tk : Takes (cxOf (L2.CX P w) P w F mg base ["_law_cup_here", "_law_many", "_law_deep", "_law_found"] "_law_roll" (defScope s__law_roll) f cdv A outer s H E) (fun cls d _ H => E cls d H) := takes_of rfl rfl rfl rfl
  have hx : Passes (L2.CX P w) (cxOf (L2.CX P w) P w F mg base ["_law_cup_here", "_law_many", "_law_deep", "_law_found"] "_law_roll" (defScope s__law_roll) f cdv A outer s H E) E := passes_call tk fun _ _ _ _ h => h
  have hp : PassesOwn (model P w) (cxOf (L2.CX P w) P w F mg base ["_law_cup_here", "_law_many", "_law_deep", "_law_found"] "_law_roll" (defScope s__law_roll) f cdv A outer s H E).A (cxOf (L2.CX P w) P w F mg base ["_law_cup_here", "_law_many", "_law_deep", "_law_found"] "_law_roll" (defScope s__law_roll) f cdv A outer s H E).env (cxOf (L2.CX P w) P w F mg base ["_law_cup_here", "_law_many", "_law_deep", "_law_found"] "_law_roll" (defScope s__law_roll) f cdv A outer s H E).xe := passes_of rfl
  have hc : (cxOf (L2.CX P w) P w F mg base ["_law_cup_here", "_law_many", "_law_deep", "_law_found"] "_law_roll" (defScope s__law_roll) f cdv A outer s H E).calm = true := rfl
  exact ⟨_, (pssd_cons (psd_if (ptd_cmp op_gt opD_gt (pd_cup (pv 0) false rfl (fun _ _ => rfl)) pd_int (nomark _)) (pssd_cons (psd_set (i := 3) nd rfl (by first | exact .inl rfl | exact .inr rfl) (pd_op op_modN opD_mod (pd_callTy call_int1 callD_int (by rfl) T.b_int bb_int (pad_cons (pd_cup (pv 0) false rfl (fun _ _ => rfl)) pad_nil)) (pd_var (pv 1))))
    (pssd_cons (psd_cupSet (i := 0) false rfl (pv 0) (pd_op op_divD opD_div (pd_cup (pv 0) false rfl (fun _ _ => rfl)) (pd_var (pv 1))))
    (pssd_one (psd_ret (pd_var (pv 3)))))) pssd_nil)
    (pssd_cons (psd_cupSet (i := 0) true rfl (pv 0) (pd_op op_modN opD_mod (pd_callTy call_int1 callD_int (by rfl) T.b_int bb_int (pad_cons (pd_op op_addD opD_add (pd_op op_mulD opD_mul (pd_cup (pv 0) true rfl (fun _ _ => rfl)) pd_int) pd_int) pad_nil)) pd_int))
    (pssd_cons (psd_set (i := 2) nd rfl (by first | exact .inl rfl | exact .inr rfl) (pd_op op_modN opD_mod (pd_callTy call_int1 callD_int (by rfl) T.b_int bb_int (pad_cons (pd_op op_mulD opD_mul (pd_cup (pv 0) true rfl (fun _ _ => rfl)) (pd_op op_addD opD_add (pd_cup (pv 0) true rfl (fun _ _ => rfl)) pd_int)) pad_nil)) pd_int))
    (pssd_one (psd_ret (pd_op op_modN opD_mod (pd_callTy call_int1 callD_int (by rfl) T.b_int bb_int (pad_cons (pd_op op_divD opD_div (pd_var (pv 2)) pd_int) pad_nil)) (pd_var (pv 1))))))))⟩
theorem sc__law_some : FnScope ["_law_cup_here", "_law_things"] ["_law_cup_here", "_law_things"] (defScope s__law_some) := ⟨rfl, rfl, rfl, by decide +kernel, rfl, by decide +kernel, by decide +kernel⟩
def g__law_some : GS := (gRet (gBin dIx (gVar 1) (gApp 2 G__law_roll (gaCup 0 (gaCons (gCall dLen (gaCons (gVar 1) gaNil)) gaNil)))))
def G__law_some : GF := gFn 2 g__law_some
theorem d__law_some (T : Txt P w F mg base K) : DefOk P w F mg base K "_law_some" 2 2 G__law_some := by
  obtain ⟨f, fd, Fn, hm, hb⟩ := T.f__law_some
  refine ⟨f, fd, ["_law_cup_here", "_law_things"], ok_def (N := ["_law_cup_here", "_law_things"]) (g := g__law_some) Fn sc__law_some ?body, hm, Fn.kp, hb⟩
  intro cdv A outer s H E hr
  have nd := sc__law_some.nd
  have hu := hr.units
  have tk : Takes (cxOf (L2.CX P w) P w F mg base ["_law_cup_here", "_law_things"] "_law_some" (defScope s__law_some) f cdv A outer s H E) (fun cls d _ H => E cls d H) := takes_of rfl rfl rfl rfl
  have hx : Passes (L2.CX P w) (cxOf (L2.CX P w) P w F mg base ["_law_cup_here", "_law_things"] "_law_some" (defScope s__law_some) f cdv A outer s H E) E := passes_call tk fun _ _ _ _ h => h
  have hp : PassesOwn (model P w) (cxOf (L2.CX P w) P w F mg base ["_law_cup_here", "_law_things"] "_law_some" (defScope s__law_some) f cdv A outer s H E).A (cxOf (L2.CX P w) P w F mg base ["_law_cup_here", "_law_things"] "_law_some" (defScope s__law_some) f cdv A outer s H E).env (cxOf (L2.CX P w) P w F mg base ["_law_cup_here", "_law_things"] "_law_some" (defScope s__law_some) f cdv A outer s H E).xe := passes_of rfl
  have hc : (cxOf (L2.CX P w) P w F mg base ["_law_cup_here", "_law_things"] "_law_some" (defScope s__law_some) f cdv A outer s H E).calm = true := rfl
  exact ⟨_, (pssd_one (psd_ret (pd_ix ixR_D opD_ix (pd_var (pv 1)) (pd_callD (d__law_roll T) (hr.mono (by decide)) (by rfl) hx (pad_cup (pv 0) (pad_cons (pd_callB call_len_seq callD_len (by rfl) T.b_len bb_len (pad_cons (pd_var (pv 1)) pad_nil)) pad_nil))) (fun _ _ => rfl))))⟩
theorem sc__law_integers : FnScope ["_law_value", "_law_many", "_law_one"] ["_law_value", "_law_many"] (defScope s__law_integers) := ⟨rfl, rfl, rfl, by decide +kernel, rfl, by decide +kernel, by decide +kernel⟩
def le__law_integers_0 : GE := (gC (.int 1))
def lt__law_integers_0 : GT := (gOr (gNot (gTru (gIsi "int" (gVar 2)))) (gTru (gIsi "bool" (gVar 2))))
def g__law_integers : GS := (gSeq (gIf (gOr (gNot (gTru (gIsi "tuple" (gVar 0)))) (gBool (gBin dNe (gCall dLen (gaCons (gVar 0) gaNil)) (gVar 1)))) (gRet (gC (.bool false))) gSkip)
    (gRet (gBin dEq (gL (gLc (giTup (gVar 0)) [2] (ggName 2) lt__law_integers_0 le__law_integers_0)) (gDisp .list gaNil))))
def G__law_integers : GF := gFn 3 g__law_integers
theorem d__law_integers (T : Txt P w F mg base K) : DefOk P w F mg base K "_law_integers" 1 2 G__law_integers := by
  obtain ⟨f, fd, Fn, hm, hb⟩ := T.f__law_integers
  refine ⟨f, fd, ["_law_value", "_law_many"], ok_def (N := ["_law_value", "_law_many", "_law_one"]) (g := g__law_integers) Fn sc__law_integers ?body, hm, Fn.kp, hb⟩
  intro cdv A outer s H E hr
  have nd := sc__law_integers.nd
  have hu := hr.units
  have tk : Takes (cxOf (L2.CX P w) P w F mg base ["_law_value", "_law_many", "_law_one"] "_law_integers" (defScope s__law_integers) f cdv A outer s H E) (fun cls d _ H => E cls d H) := takes_of rfl rfl rfl rfl
  have hx : Passes (L2.CX P w) (cxOf (L2.CX P w) P w F mg base ["_law_value", "_law_many", "_law_one"] "_law_integers" (defScope s__law_integers) f cdv A outer s H E) E := passes_call tk fun _ _ _ _ h => h
  have hp : PassesOwn (model P w) (cxOf (L2.CX P w) P w F mg base ["_law_value", "_law_many", "_law_one"] "_law_integers" (defScope s__law_integers) f cdv A outer s H E).A (cxOf (L2.CX P w) P w F mg base ["_law_value", "_law_many", "_law_one"] "_law_integers" (defScope s__law_integers) f cdv A outer s H E).env (cxOf (L2.CX P w) P w F mg base ["_law_value", "_law_many", "_law_one"] "_law_integers" (defScope s__law_integers) f cdv A outer s H E).xe := passes_of rfl
  have hc : (cxOf (L2.CX P w) P w F mg base ["_law_value", "_law_many", "_law_one"] "_law_integers" (defScope s__law_integers) f cdv A outer s H E).calm = true := rfl
  exact ⟨_, (pssd_cons (psd_if (PWD.pt (pwd_or (ptd_not (ptd_truth (pd_isi (T := "tuple") (pd_var (pv 0)) (by rfl) T.b_isinstance (by rfl) T.b_tuple bb_tuple))) (pwd_or1 (ptd_cmp (op_neX hu) opD_ne (pd_callB call_len_seq callD_len (by rfl) T.b_len bb_len (pad_cons (pd_var (pv 0)) pad_nil)) (pd_var (pv 1)) (nomark _))))) (pssd_one (psd_ret pd_bl)) pssd_nil)
    (pssd_one (psd_ret (pd_cmp (op_eqX hu) opD_eq (PFD.toD (pf_lc (own := [("_law_one", 2)]) (ws := [2]) hc nd (pid_tup (pd_var (pv 0))) (blkOk_by (N := ["_law_value", "_law_many", "_law_one"]) (sc := defScope s__law_integers) (by decide +kernel)) (fun _ _ _ _ _ => ⟨_, by exact (pgd_name (i := 2) nd rfl (by first | exact .inl rfl | exact .inr rfl))⟩) (fun _ _ _ _ _ => ⟨_, by exact (ptsd_one (PWD.pt (pwd_or (ptd_not (ptd_truth (pd_isi (T := "int") (pd_var (pv 2)) (by rfl) T.b_isinstance (by rfl) T.b_int bb_int))) (pwd_or1 (ptd_truth (pd_isi (T := "bool") (pd_var (pv 2)) (by rfl) T.b_isinstance (by rfl) T.b_bool bb_bool))))))⟩) (fun _ _ _ _ _ => ⟨_, by exact pd_int⟩))) (pd_lst pad_nil) (nomark _)))))⟩
theorem sc__law_common : FnScope ["_law_one", "_law_other"] ["_law_one", "_law_other"] (defScope s__law_common) := ⟨rfl, rfl, rfl, by decide +kernel, rfl, by decide +kernel, by decide +kernel⟩
def wt__law_common_0 : GT := (gBool (gBin dNe (gVar 1) (gC (.int 0))))
def wb__law_common_0 : GS := (gPar 0 1 (gaCons (gVar 1) (gaCons (gBin (fI modOk fun i j => i.fmod j) (gCall dToInt (gaCons (gVar 0) gaNil)) (gVar 1)) gaNil)))
def g__law_common : GS := (gSeq (gPar 0 1 (gaCons (gCall dAbs (gaCons (gVar 0) gaNil)) (gaCons (gCall dAbs (gaCons (gVar 1) gaNil)) gaNil)))
    (gSeq (gWhile (fun ρ _ => fuelCommon ρ) wt__law_common_0 wb__law_common_0)
    (gRet (gVar 0))))
def G__law_common : GF := gFn 2 g__law_common
theorem d__law_common (T : Txt P w F mg base K) : DefOk P w F mg base K "_law_common" 1 2 G__law_common := by
  obtain ⟨f, fd, Fn, hm, hb⟩ := T.f__law_common
  refine ⟨f, fd, ["_law_one", "_law_other"], ok_def (N := ["_law_one", "_law_other"]) (g := g__law_common) Fn sc__law_common ?body, hm, Fn.kp, hb⟩
  intro cdv A outer s H E hr
  have nd := sc__law_common.nd
  have hu := hr.units
  have tk : Takes (cxOf (L2.CX P w) P w F mg base ["_law_one", "_law_other"] "_law_common" (defScope s__law_common) f cdv A outer s H E) (fun cls d _ H => E cls d H) := takes_of rfl rfl rfl rfl
  have hx : Passes (L2.CX P w) (cxOf (L2.CX P w) P w F mg base ["_law_one", "_law_other"] "_law_common" (defScope s__law_common) f cdv A outer s H E) E := passes_call tk fun _ _ _ _ h => h
  have hp : PassesOwn (model P w) (cxOf (L2.CX P w) P w F mg base ["_law_one", "_law_other"] "_law_common" (defScope s__law_common) f cdv A outer s H E).A (cxOf (L2.CX P w) P w F mg base ["_law_one", "_law_other"] "_law_common" (defScope s__law_common) f cdv A outer s H E).env (cxOf (L2.CX P w) P w F mg base ["_law_one", "_law_other"] "_law_common" (defScope s__law_common) f cdv A outer s H E).xe := passes_of rfl
  have hc : (cxOf (L2.CX P w) P w F mg base ["_law_one", "_law_other"] "_law_common" (defScope s__law_common) f cdv A outer s H E).calm = true := rfl
  exact ⟨_, (pssd_cons (psd_par (i := 0) (j := 1) hc nd rfl rfl (by decide) rfl rfl (pad_cons (pd_callB call_abs callD_abs (by rfl) T.b_abs bb_abs (pad_cons (pd_var (pv 0)) pad_nil)) (pad_cons (pd_callB call_abs callD_abs (by rfl) T.b_abs bb_abs (pad_cons (pd_var (pv 1)) pad_nil)) pad_nil)))
    (pssd_cons (psd_while (fun ρ _ => fuelCommon ρ) hp (ptd_cmp (op_neX hu) opD_ne (pd_var (pv 1)) pd_int (nomark _)) (pssd_one (psd_par (i := 0) (j := 1) hc nd rfl rfl (by decide) rfl rfl (pad_cons (pd_var (pv 1)) (pad_cons (pd_op op_modN opD_mod (pd_callTy call_int1 callD_int (by rfl) T.b_int bb_int (pad_cons (pd_var (pv 0)) pad_nil)) (pd_var (pv 1))) pad_nil)))))
    (pssd_one (psd_ret (pd_var (pv 0))))))⟩
theorem sc__law_same : FnScope ["_law_told", "_law_due"] ["_law_told", "_law_due"] (defScope s__law_same) := ⟨rfl, rfl, rfl, by decide +kernel, rfl, by decide +kernel, by decide +kernel⟩
def g__law_same : GS := (gRet (gAndV (gIsi "bool" (gVar 0)) (gBin dEq (gVar 0) (gVar 1))))
def G__law_same : GF := gFn 2 g__law_same
theorem d__law_same (T : Txt P w F mg base K) : DefOk P w F mg base K "_law_same" 1 2 G__law_same := by
  obtain ⟨f, fd, Fn, hm, hb⟩ := T.f__law_same
  refine ⟨f, fd, ["_law_told", "_law_due"], ok_def (N := ["_law_told", "_law_due"]) (g := g__law_same) Fn sc__law_same ?body, hm, Fn.kp, hb⟩
  intro cdv A outer s H E hr
  have nd := sc__law_same.nd
  have hu := hr.units
  have tk : Takes (cxOf (L2.CX P w) P w F mg base ["_law_told", "_law_due"] "_law_same" (defScope s__law_same) f cdv A outer s H E) (fun cls d _ H => E cls d H) := takes_of rfl rfl rfl rfl
  have hx : Passes (L2.CX P w) (cxOf (L2.CX P w) P w F mg base ["_law_told", "_law_due"] "_law_same" (defScope s__law_same) f cdv A outer s H E) E := passes_call tk fun _ _ _ _ h => h
  have hp : PassesOwn (model P w) (cxOf (L2.CX P w) P w F mg base ["_law_told", "_law_due"] "_law_same" (defScope s__law_same) f cdv A outer s H E).A (cxOf (L2.CX P w) P w F mg base ["_law_told", "_law_due"] "_law_same" (defScope s__law_same) f cdv A outer s H E).env (cxOf (L2.CX P w) P w F mg base ["_law_told", "_law_due"] "_law_same" (defScope s__law_same) f cdv A outer s H E).xe := passes_of rfl
  have hc : (cxOf (L2.CX P w) P w F mg base ["_law_told", "_law_due"] "_law_same" (defScope s__law_same) f cdv A outer s H E).calm = true := rfl
  exact ⟨_, (pssd_one (psd_ret (pd_and (pd_isi (T := "bool") (pd_var (pv 0)) (by rfl) T.b_isinstance (by rfl) T.b_bool bb_bool) (pd_one (pd_cmp (op_eqX hu) opD_eq (pd_var (pv 0)) (pd_var (pv 1)) (nomark _))))))⟩
theorem sc__law_integer : FnScope ["_law_cup_here", "_law_sort", "_law_found", "_law_turn"] ["_law_cup_here"] (defScope s__law_integer) := ⟨rfl, rfl, rfl, by decide +kernel, rfl, by decide +kernel, by decide +kernel⟩
def fb__law_integer_0 : GS := (gSet 2 (gBin dMul (gVar 2) (gApp 2 G__law_some (gaCup 0 (gaCons (gDisp .list (gaCons (gC (.int 1)) (gaCons (gC (.int 2)) (gaCons (gC (.int 2)) (gaCons (gC (.int 3)) (gaCons (gC (.int 3)) (gaCons (gC (.int 5)) (gaCons (gC (.int 7)) (gaCons (gC (.int 10)) gaNil))))))))) gaNil)))))
def g__law_integer : GS := (gSeq (gSet 1 (gApp 2 G__law_roll (gaCup 0 (gaCons (gC (.int 6)) gaNil))))
    (gSeq (gIf (gBool (gBin (fB0 fun i j => decide (i < j)) (gVar 1) (gC (.int 2)))) (gRet (gBin (fI0 fun i j => i - j) (gApp 2 G__law_roll (gaCup 0 (gaCons (gC (.int 25)) gaNil))) (gC (.int 12)))) gSkip)
    (gSeq (gIf (gBool (gBin dEq (gVar 1) (gC (.int 2)))) (gSeq (gSet 2 (gApp 2 G__law_some (gaCup 0 (gaCons (gDisp .list (gaCons (gC (.int 1)) (gaCons (gUn dNeg (gC (.int 1))) gaNil))) gaNil))))
    (gSeq (gFor (giArg dRng1 (gaCons (gC (.int 6)) gaNil)) (ggName 3) fb__law_integer_0)
    (gRet (gVar 2)))) gSkip)
    (gSeq (gIf (gBool (gBin dEq (gVar 1) (gC (.int 3)))) (gRet (gBin dMul (gBin dAdd (gBin dMul (gApp 2 G__law_roll (gaCup 0 (gaCons (gBin (fI powOk fun i j => i ^ j.toNat) (gC (.int 10)) (gC (.int 6))) gaNil))) (gBin (fI powOk fun i j => i ^ j.toNat) (gC (.int 10)) (gC (.int 6)))) (gApp 2 G__law_roll (gaCup 0 (gaCons (gBin (fI powOk fun i j => i ^ j.toNat) (gC (.int 10)) (gC (.int 6))) gaNil)))) (gApp 2 G__law_some (gaCup 0 (gaCons (gDisp .list (gaCons (gC (.int 1)) (gaCons (gUn dNeg (gC (.int 1))) (gaCons (gC (.int 30)) (gaCons (gBin (fI powOk fun i j => i ^ j.toNat) (gC (.int 10)) (gC (.int 30))) gaNil))))) gaNil))))) gSkip)
    (gSeq (gIf (gBool (gBin dEq (gVar 1) (gC (.int 4)))) (gRet (gApp 2 G__law_some (gaCup 0 (gaCons (gDisp .list (gaCons (gC (.int 0)) (gaCons (gC (.int 1)) (gaCons (gUn dNeg (gC (.int 1))) (gaCons (gBin dMul (gBin (fI powOk fun i j => i ^ j.toNat) (gC (.int 10)) (gC (.int 50))) (gBin (fI powOk fun i j => i ^ j.toNat) (gC (.int 10)) (gC (.int 50)))) (gaCons (gBin (fI0 fun i j => i - j) (gC (.int 0)) (gBin dMul (gBin (fI powOk fun i j => i ^ j.toNat) (gC (.int 10)) (gC (.int 50))) (gBin (fI powOk fun i j => i ^ j.toNat) (gC (.int 10)) (gC (.int 50))))) (gaCons (gBin (fI0 fun i j => i - j) (gBin dMul (gBin (fI powOk fun i j => i ^ j.toNat) (gC (.int 10)) (gC (.int 50))) (gBin (fI powOk fun i j => i ^ j.toNat) (gC (.int 10)) (gC (.int 50)))) (gC (.int 1))) gaNil))))))) gaNil)))) gSkip)
    (gRet (gBin (fI0 fun i j => i - j) (gApp 2 G__law_roll (gaCup 0 (gaCons (gC (.int 2001)) gaNil))) (gC (.int 1000)))))))))
def G__law_integer : GF := gFn 4 g__law_integer
theorem d__law_integer (T : Txt P w F mg base K) : DefOk P w F mg base K "_law_integer" 3 1 G__law_integer := by
  obtain ⟨f, fd, Fn, hm, hb⟩ := T.f__law_integer
  refine ⟨f, fd, ["_law_cup_here"], ok_def (N := ["_law_cup_here", "_law_sort", "_law_found", "_law_turn"]) (g := g__law_integer) Fn sc__law_integer ?body, hm, Fn.kp, hb⟩
  intro cdv A outer s H E hr
  have nd := sc__law_integer.nd
  have hu := hr.units
  have tk : Takes (cxOf (L2.CX P w) P w F mg base ["_law_cup_here", "_law_sort", "_law_found", "_law_turn"] "_law_integer" (defScope s__law_integer) f cdv A outer s H E) (fun cls d _ H => E cls d H) := takes_of rfl rfl rfl rfl
  have hx : Passes (L2.CX P w) (cxOf (L2.CX P w) P w F mg base ["_law_cup_here", "_law_sort", "_law_found", "_law_turn"] "_law_integer" (defScope s__law_integer) f cdv A outer s H E) E := passes_call tk fun _ _ _ _ h => h
  have hp : PassesOwn (model P w) (cxOf (L2.CX P w) P w F mg base ["_law_cup_here", "_law_sort", "_law_found", "_law_turn"] "_law_integer" (defScope s__law_integer) f cdv A outer s H E).A (cxOf (L2.CX P w) P w F mg base ["_law_cup_here", "_law_sort", "_law_found", "_law_turn"] "_law_integer" (defScope s__law_integer) f cdv A outer s H E).env (cxOf (L2.CX P w) P w F mg base ["_law_cup_here", "_law_sort", "_law_found", "_law_turn"] "_law_integer" (defScope s__law_integer) f cdv A outer s H E).xe := passes_of rfl
  have hc : (cxOf (L2.CX P w) P w F mg base ["_law_cup_here", "_law_sort", "_law_found", "_law_turn"] "_law_integer" (defScope s__law_integer) f cdv A outer s H E).calm = true := rfl
  exact ⟨_, (pssd_cons (psd_set (i := 1) nd rfl (by first | exact .inl rfl | exact .inr rfl) (pd_callD (d__law_roll T) (hr.mono (by decide)) (by rfl) hx (pad_cup (pv 0) (pad_cons pd_int pad_nil))))
    (pssd_cons (psd_if (ptd_cmp op_lt opD_lt (pd_var (pv 1)) pd_int (nomark _)) (pssd_one (psd_ret (pd_op op_sub opD_sub (pd_callD (d__law_roll T) (hr.mono (by decide)) (by rfl) hx (pad_cup (pv 0) (pad_cons pd_int pad_nil))) pd_int))) pssd_nil)
    (pssd_cons (psd_if (ptd_cmp (op_eqX hu) opD_eq (pd_var (pv 1)) pd_int (nomark _)) (pssd_cons (psd_set (i := 2) nd rfl (by first | exact .inl rfl | exact .inr rfl) (pd_callD (d__law_some T) (hr.mono (by decide)) (by rfl) hx (pad_cup (pv 0) (pad_cons (pd_lst (pad_cons pd_int (pad_cons (pd_neg pd_int) pad_nil))) pad_nil))))
    (pssd_cons (psd_for hp hc (pid_rng1 (by rfl) T.b_range (pad_cons pd_int pad_nil)) (pgd_name (i := 3) nd rfl (by first | exact .inl rfl | exact .inr rfl)) (pssd_one (psd_set (i := 2) nd rfl (by first | exact .inl rfl | exact .inr rfl) (pd_op op_mulD opD_mul (pd_var (pv 2)) (pd_callD (d__law_some T) (hr.mono (by decide)) (by rfl) hx (pad_cup (pv 0) (pad_cons (pd_lst (pad_cons pd_int (pad_cons pd_int (pad_cons pd_int (pad_cons pd_int (pad_cons pd_int (pad_cons pd_int (pad_cons pd_int (pad_cons pd_int pad_nil))))))))) pad_nil)))))))
    (pssd_one (psd_ret (pd_var (pv 2)))))) pssd_nil)
    (pssd_cons (psd_if (ptd_cmp (op_eqX hu) opD_eq (pd_var (pv 1)) pd_int (nomark _)) (pssd_one (psd_ret (pd_op op_mulD opD_mul (pd_op op_addD opD_add (pd_op op_mulD opD_mul (pd_callD (d__law_roll T) (hr.mono (by decide)) (by rfl) hx (pad_cup (pv 0) (pad_cons (pd_op op_pow opD_pow pd_int pd_int) pad_nil))) (pd_op op_pow opD_pow pd_int pd_int)) (pd_callD (d__law_roll T) (hr.mono (by decide)) (by rfl) hx (pad_cup (pv 0) (pad_cons (pd_op op_pow opD_pow pd_int pd_int) pad_nil)))) (pd_callD (d__law_some T) (hr.mono (by decide)) (by rfl) hx (pad_cup (pv 0) (pad_cons (pd_lst (pad_cons pd_int (pad_cons (pd_neg pd_int) (pad_cons pd_int (pad_cons (pd_op op_pow opD_pow pd_int pd_int) pad_nil))))) pad_nil)))))) pssd_nil)
    (pssd_cons (psd_if (ptd_cmp (op_eqX hu) opD_eq (pd_var (pv 1)) pd_int (nomark _)) (pssd_one (psd_ret (pd_callD (d__law_some T) (hr.mono (by decide)) (by rfl) hx (pad_cup (pv 0) (pad_cons (pd_lst (pad_cons pd_int (pad_cons pd_int (pad_cons (pd_neg pd_int) (pad_cons (pd_op op_mulD opD_mul (pd_op op_pow opD_pow pd_int pd_int) (pd_op op_pow opD_pow pd_int pd_int)) (pad_cons (pd_op op_sub opD_sub pd_int (pd_op op_mulD opD_mul (pd_op op_pow opD_pow pd_int pd_int) (pd_op op_pow opD_pow pd_int pd_int))) (pad_cons (pd_op op_sub opD_sub (pd_op op_mulD opD_mul (pd_op op_pow opD_pow pd_int pd_int) (pd_op op_pow opD_pow pd_int pd_int)) pd_int) pad_nil))))))) pad_nil))))) pssd_nil)
    (pssd_one (psd_ret (pd_op op_sub opD_sub (pd_callD (d__law_roll T) (hr.mono (by decide)) (by rfl) hx (pad_cup (pv 0) (pad_cons pd_int pad_nil))) pd_int))))))))⟩
theorem sc__law_is_gcd : FnScope ["_law_one", "_law_other", "_law_paper", "_law_d", "_law_u", "_law_v", "_law_p", "_law_q"] ["_law_one", "_law_other", "_law_paper"] (defScope s__law_is_gcd) := ⟨rfl, rfl, rfl, by decide +kernel, rfl, by decide +kernel, by decide +kernel⟩
def g__law_is_gcd : GS := (gSeq (gAsg (gVar 2) (ggTup 5 (ggCons (ggName 3) (ggCons (ggName 4) (ggCons (ggName 5) (ggCons (ggName 6) (ggCons (ggName 7) ggNil)))))))
    (gRet (gAndV (gBin (fB0 fun i j => decide (j ≤ i)) (gVar 3) (gC (.int 0))) (gAndV (gBin dEq (gBin dAdd (gBin dMul (gVar 4) (gVar 0)) (gBin dMul (gVar 5) (gVar 1))) (gVar 3)) (gAndV (gBin dEq (gBin dMul (gVar 6) (gVar 3)) (gVar 0)) (gBin dEq (gBin dMul (gVar 7) (gVar 3)) (gVar 1)))))))
def G__law_is_gcd : GF := gFn 8 g__law_is_gcd
theorem d__law_is_gcd (T : Txt P w F mg base K) : DefOk P w F mg base K "_law_is_gcd" 1 3 G__law_is_gcd := by
  obtain ⟨f, fd, Fn, hm, hb⟩ := T.f__law_is_gcd
  refine ⟨f, fd, ["_law_one", "_law_other", "_law_paper"], ok_def (N := ["_law_one", "_law_other", "_law_paper", "_law_d", "_law_u", "_law_v", "_law_p", "_law_q"]) (g := g__law_is_gcd) Fn sc__law_is_gcd ?body, hm, Fn.kp, hb⟩
  intro cdv A outer s H E hr
  have nd := sc__law_is_gcd.nd
  have hu := hr.units
  have tk : Takes (cxOf (L2.CX P w) P w F mg base ["_law_one", "_law_other", "_law_paper", "_law_d", "_law_u", "_law_v", "_law_p", "_law_q"] "_law_is_gcd" (defScope s__law_is_gcd) f cdv A outer s H E) (fun cls d _ H => E cls d H) := takes_of rfl rfl rfl rfl
  have hx : Passes (L2.CX P w) (cxOf (L2.CX P w) P w F mg base ["_law_one", "_law_other", "_law_paper", "_law_d", "_law_u", "_law_v", "_law_p", "_law_q"] "_law_is_gcd" (defScope s__law_is_gcd) f cdv A outer s H E) E := passes_call tk fun _ _ _ _ h => h
  have hp : PassesOwn (model P w) (cxOf (L2.CX P w) P w F mg base ["_law_one", "_law_other", "_law_paper", "_law_d", "_law_u", "_law_v", "_law_p", "_law_q"] "_law_is_gcd" (defScope s__law_is_gcd) f cdv A outer s H E).A (cxOf (L2.CX P w) P w F mg base ["_law_one", "_law_other", "_law_paper", "_law_d", "_law_u", "_law_v", "_law_p", "_law_q"] "_law_is_gcd" (defScope s__law_is_gcd) f cdv A outer s H E).env (cxOf (L2.CX P w) P w F mg base ["_law_one", "_law_other", "_law_paper", "_law_d", "_law_u", "_law_v", "_law_p", "_law_q"] "_law_is_gcd" (defScope s__law_is_gcd) f cdv A outer s H E).xe := passes_of rfl
  have hc : (cxOf (L2.CX P w) P w F mg base ["_law_one", "_law_other", "_law_paper", "_law_d", "_law_u", "_law_v", "_law_p", "_law_q"] "_law_is_gcd" (defScope s__law_is_gcd) f cdv A outer s H E).calm = true := rfl
  exact ⟨_, (pssd_cons (psd_asg (pd_var (pv 2)) (pgd_tup rfl (pgsd_cons (pgd_name (i := 3) nd rfl (by first | exact .inl rfl | exact .inr rfl)) (pgsd_cons (pgd_name (i := 4) nd rfl (by first | exact .inl rfl | exact .inr rfl)) (pgsd_cons (pgd_name (i := 5) nd rfl (by first | exact .inl rfl | exact .inr rfl)) (pgsd_cons (pgd_name (i := 6) nd rfl (by first | exact .inl rfl | exact .inr rfl)) (pgsd_cons (pgd_name (i := 7) nd rfl (by first | exact .inl rfl | exact .inr rfl)) pgsd_nil)))))))
    (pssd_one (psd_ret (pd_and (pd_cmp op_ge opD_ge (pd_var (pv 3)) pd_int (nomark _)) (pd_and (pd_cmp (op_eqX hu) opD_eq (pd_op op_addD opD_add (pd_op op_mulD opD_mul (pd_var (pv 4)) (pd_var (pv 0))) (pd_op op_mulD opD_mul (pd_var (pv 5)) (pd_var (pv 1)))) (pd_var (pv 3)) (nomark _)) (pd_and (pd_cmp (op_eqX hu) opD_eq (pd_op op_mulD opD_mul (pd_var (pv 6)) (pd_var (pv 3))) (pd_var (pv 0)) (nomark _)) (pd_one (pd_cmp (op_eqX hu) opD_eq (pd_op op_mulD opD_mul (pd_var (pv 7)) (pd_var (pv 3))) (pd_var (pv 1)) (nomark _)))))))))⟩
theorem sc__law_is_lcm : FnScope ["_law_one", "_law_other", "_law_paper", "_law_m", "_law_s", "_law_t", "_law_u", "_law_v"] ["_law_one", "_law_other", "_law_paper"] (defScope s__law_is_lcm) := ⟨rfl, rfl, rfl, by decide +kernel, rfl, by decide +kernel, by decide +kernel⟩
def g__law_is_lcm : GS := (gSeq (gAsg (gVar 2) (ggTup 5 (ggCons (ggName 3) (ggCons (ggName 4) (ggCons (ggName 5) (ggCons (ggName 6) (ggCons (ggName 7) ggNil)))))))
    (gRet (gAndV (gBin (fB0 fun i j => decide (j ≤ i)) (gVar 3) (gC (.int 0))) (gAndV (gBin dEq (gBin dMul (gVar 0) (gVar 4)) (gVar 3)) (gAndV (gBin dEq (gBin dMul (gVar 1) (gVar 5)) (gVar 3)) (gBin dEq (gBin dAdd (gBin dMul (gVar 6) (gVar 4)) (gBin dMul (gVar 7) (gVar 5))) (gC (.int 1))))))))
def G__law_is_lcm : GF := gFn 8 g__law_is_lcm
theorem d__law_is_lcm (T : Txt P w F mg base K) : DefOk P w F mg base K "_law_is_lcm" 1 3 G__law_is_lcm := by
  obtain ⟨f, fd, Fn, hm, hb⟩ := T.f__law_is_lcm
  refine ⟨f, fd, ["_law_one", "_law_other", "_law_paper"], ok_def (N := ["_law_one", "_law_other", "_law_paper", "_law_m", "_law_s", "_law_t", "_law_u", "_law_v"]) (g := g__law_is_lcm) Fn sc__law_is_lcm ?body, hm, Fn.kp, hb⟩
  intro cdv A outer s H E hr
  have nd := sc__law_is_lcm.nd
  have hu := hr.units
  have tk : Takes (cxOf (L2.CX P w) P w F mg base ["_law_one", "_law_other", "_law_paper", "_law_m", "_law_s", "_law_t", "_law_u", "_law_v"] "_law_is_lcm" (defScope s__law_is_lcm) f cdv A outer s H E) (fun cls d _ H => E cls d H) := takes_of rfl rfl rfl rfl
  have hx : Passes (L2.CX P w) (cxOf (L2.CX P w) P w F mg base ["_law_one", "_law_other", "_law_paper", "_law_m", "_law_s", "_law_t", "_law_u", "_law_v"] "_law_is_lcm" (defScope s__law_is_lcm) f cdv A outer s H E) E := passes_call tk fun _ _ _ _ h => h
  have hp : PassesOwn (model P w) (cxOf (L2.CX P w) P w F mg base ["_law_one", "_law_other", "_law_paper", "_law_m", "_law_s", "_law_t", "_law_u", "_law_v"] "_law_is_lcm" (defScope s__law_is_lcm) f cdv A outer s H E).A (cxOf (L2.CX P w) P w F mg base ["_law_one", "_law_other", "_law_paper", "_law_m", "_law_s", "_law_t", "_law_u", "_law_v"] "_law_is_lcm" (defScope s__law_is_lcm) f cdv A outer s H E).env (cxOf (L2.CX P w) P w F mg base ["_law_one", "_law_other", "_law_paper", "_law_m", "_law_s", "_law_t", "_law_u", "_law_v"] "_law_is_lcm" (defScope s__law_is_lcm) f cdv A outer s H E).xe := passes_of rfl
  have hc : (cxOf (L2.CX P w) P w F mg base ["_law_one", "_law_other", "_law_paper", "_law_m", "_law_s", "_law_t", "_law_u", "_law_v"] "_law_is_lcm" (defScope s__law_is_lcm) f cdv A outer s H E).calm = true := rfl
  exact ⟨_, (pssd_cons (psd_asg (pd_var (pv 2)) (pgd_tup rfl (pgsd_cons (pgd_name (i := 3) nd rfl (by first | exact .inl rfl | exact .inr rfl)) (pgsd_cons (pgd_name (i := 4) nd rfl (by first | exact .inl rfl | exact .inr rfl)) (pgsd_cons (pgd_name (i := 5) nd rfl (by first | exact .inl rfl | exact .inr rfl)) (pgsd_cons (pgd_name (i := 6) nd rfl (by first | exact .inl rfl | exact .inr rfl)) (pgsd_cons (pgd_name (i := 7) nd rfl (by first | exact .inl rfl | exact .inr rfl)) pgsd_nil)))))))
    (pssd_one (psd_ret (pd_and (pd_cmp op_ge opD_ge (pd_var (pv 3)) pd_int (nomark _)) (pd_and (pd_cmp (op_eqX hu) opD_eq (pd_op op_mulD opD_mul (pd_var (pv 0)) (pd_var (pv 4))) (pd_var (pv 3)) (nomark _)) (pd_and (pd_cmp (op_eqX hu) opD_eq (pd_op op_mulD opD_mul (pd_var (pv 1)) (pd_var (pv 5))) (pd_var (pv 3)) (nomark _)) (pd_one (pd_cmp (op_eqX hu) opD_eq (pd_op op_addD opD_add (pd_op op_mulD opD_mul (pd_var (pv 6)) (pd_var (pv 4))) (pd_op op_mulD opD_mul (pd_var (pv 7)) (pd_var (pv 5)))) pd_int (nomark _)))))))))⟩
theorem sc__law_is_row : FnScope ["_law_row", "_law_paper", "_law_d", "_law_by", "_law_own", "_law_one", "_law_more"] ["_law_row", "_law_paper"] (defScope s__law_is_row) := ⟨rfl, rfl, rfl, by decide +kernel, rfl, by decide +kernel, by decide +kernel⟩
def le__law_is_row_0 : GE := (gBin dMul (gVar 5) (gVar 6))
def le__law_is_row_1 : GE := (gC (.int 1))
def lt__law_is_row_0 : GT := (gBool (gBin dNe (gBin dMul (gVar 5) (gVar 2)) (gVar 6)))
def g__law_is_row : GS := (gSeq (gAsg (gVar 1) (ggTup 3 (ggCons (ggName 2) (ggCons (ggName 3) (ggCons (ggName 4) ggNil)))))
    (gSeq (gIf (gOr (gBool (gBin (fB0 fun i j => decide (i < j)) (gVar 2) (gC (.int 0)))) (gBool (gBin dNe (gCall dSum (gaCons (gL (gLc (giArg dZip (gaCons (gVar 3) (gaCons (gVar 0) gaNil))) [5, 6] (ggTup 2 (ggCons (ggName 5) (ggCons (ggName 6) ggNil))) gYes le__law_is_row_0)) gaNil)) (gVar 2)))) (gRet (gC (.bool false))) gSkip)
    (gRet (gBin dEq (gL (gLc (giArg dZip (gaCons (gVar 4) (gaCons (gVar 0) gaNil))) [5, 6] (ggTup 2 (ggCons (ggName 5) (ggCons (ggName 6) ggNil))) lt__law_is_row_0 le__law_is_row_1)) (gDisp .list gaNil)))))
def G__law_is_row : GF := gFn 7 g__law_is_row
theorem d__law_is_row (T : Txt P w F mg base K) : DefOk P w F mg base K "_law_is_row" 1 2 G__law_is_row := by
  obtain ⟨f, fd, Fn, hm, hb⟩ := T.f__law_is_row
  refine ⟨f, fd, ["_law_row", "_law_paper"], ok_def (N := ["_law_row", "_law_paper", "_law_d", "_law_by", "_law_own", "_law_one", "_law_more"]) (g := g__law_is_row) Fn sc__law_is_row ?body, hm, Fn.kp, hb⟩
  intro cdv A outer s H E hr
  have nd := sc__law_is_row.nd
  have hu := hr.units
  have tk : Takes (cxOf (L2.CX P w) P w F mg base ["_law_row", "_law_paper", "_law_d", "_law_by", "_law_own", "_law_one", "_law_more"] "_law_is_row" (defScope s__law_is_row) f cdv A outer s H E) (fun cls d _ H => E cls d H) := takes_of rfl rfl rfl rfl
  have hx : Passes (L2.CX P w) (cxOf (L2.CX P w) P w F mg base ["_law_row", "_law_paper", "_law_d", "_law_by", "_law_own", "_law_one", "_law_more"] "_law_is_row" (defScope s__law_is_row) f cdv A outer s H E) E := passes_call tk fun _ _ _ _ h => h
  have hp : PassesOwn (model P w) (cxOf (L2.CX P w) P w F mg base ["_law_row", "_law_paper", "_law_d", "_law_by", "_law_own", "_law_one", "_law_more"] "_law_is_row" (defScope s__law_is_row) f cdv A outer s H E).A (cxOf (L2.CX P w) P w F mg base ["_law_row", "_law_paper", "_law_d", "_law_by", "_law_own", "_law_one", "_law_more"] "_law_is_row" (defScope s__law_is_row) f cdv A outer s H E).env (cxOf (L2.CX P w) P w F mg base ["_law_row", "_law_paper", "_law_d", "_law_by", "_law_own", "_law_one", "_law_more"] "_law_is_row" (defScope s__law_is_row) f cdv A outer s H E).xe := passes_of rfl
  have hc : (cxOf (L2.CX P w) P w F mg base ["_law_row", "_law_paper", "_law_d", "_law_by", "_law_own", "_law_one", "_law_more"] "_law_is_row" (defScope s__law_is_row) f cdv A outer s H E).calm = true := rfl
  exact ⟨_, (pssd_cons (psd_asg (pd_var (pv 1)) (pgd_tup rfl (pgsd_cons (pgd_name (i := 2) nd rfl (by first | exact .inl rfl | exact .inr rfl)) (pgsd_cons (pgd_name (i := 3) nd rfl (by first | exact .inl rfl | exact .inr rfl)) (pgsd_cons (pgd_name (i := 4) nd rfl (by first | exact .inl rfl | exact .inr rfl)) pgsd_nil)))))
    (pssd_cons (psd_if (PWD.pt (pwd_or (ptd_cmp op_lt opD_lt (pd_var (pv 2)) pd_int (nomark _)) (pwd_or1 (ptd_cmp (op_neX hu) opD_ne (pd_callB (cr_sum rfl) callD_sum (by rfl) T.b_sum bb_sum (pad_cons (PFD.toD (pf_lc (own := [("_law_one", 5), ("_law_more", 6)]) (ws := [5, 6]) hc nd (pid_zip (by rfl) T.b_zip (pad_cons (pd_var (pv 3)) (pad_cons (pd_var (pv 0)) pad_nil)) (fun h => RZ.pi_zipA (by rfl) T.b_zip h)) (blkOk_by (N := ["_law_row", "_law_paper", "_law_d", "_law_by", "_law_own", "_law_one", "_law_more"]) (sc := defScope s__law_is_row) (by decide +kernel)) (fun _ _ _ _ _ => ⟨_, by exact (pgd_tup rfl (pgsd_cons (pgd_name (i := 5) nd rfl (by first | exact .inl rfl | exact .inr rfl)) (pgsd_cons (pgd_name (i := 6) nd rfl (by first | exact .inl rfl | exact .inr rfl)) pgsd_nil)))⟩) (fun _ _ _ _ _ => ⟨_, by exact ptsd_nil⟩) (fun _ _ _ _ _ => ⟨_, by exact (pd_op op_mulD opD_mul (pd_var (pv 5)) (pd_var (pv 6)))⟩))) pad_nil)) (pd_var (pv 2)) (nomark _))))) (pssd_one (psd_ret pd_bl)) pssd_nil)
    (pssd_one (psd_ret (pd_cmp (op_eqX hu) opD_eq (PFD.toD (pf_lc (own := [("_law_one", 5), ("_law_more", 6)]) (ws := [5, 6]) hc nd (pid_zip (by rfl) T.b_zip (pad_cons (pd_var (pv 4)) (pad_cons (pd_var (pv 0)) pad_nil)) (fun h => RZ.pi_zipA (by rfl) T.b_zip h)) (blkOk_by (N := ["_law_row", "_law_paper", "_law_d", "_law_by", "_law_own", "_law_one", "_law_more"]) (sc := defScope s__law_is_row) (by decide +kernel)) (fun _ _ _ _ _ => ⟨_, by exact (pgd_tup rfl (pgsd_cons (pgd_name (i := 5) nd rfl (by first | exact .inl rfl | exact .inr rfl)) (pgsd_cons (pgd_name (i := 6) nd rfl (by first | exact .inl rfl | exact .inr rfl)) pgsd_nil)))⟩) (fun _ _ _ _ _ => ⟨_, by exact (ptsd_one (ptd_cmp (op_neX hu) opD_ne (pd_op op_mulD opD_mul (pd_var (pv 5)) (pd_var (pv 2))) (pd_var (pv 6)) (nomark _)))⟩) (fun _ _ _ _ _ => ⟨_, by exact pd_int⟩))) (pd_lst pad_nil) (nomark _))))))⟩
theorem sc__law_spoilt : FnScope ["_law_cup_here", "_law_paper", "_law_at"] ["_law_cup_here", "_law_paper"] (defScope s__law_spoilt) := ⟨rfl, rfl, rfl, by decide +kernel, rfl, by decide +kernel, by decide +kernel⟩
def g__law_spoilt : GS := (gSeq (gSet 2 (gApp 2 G__law_roll (gaCup 0 (gaCons (gCall dLen (gaCons (gVar 1) gaNil)) gaNil))))
    (gRet (gBin dAdd (gBin dAdd (gSlice (gVar 1) gNoPart (gPart (gVar 2))) (gDisp .tuple (gaCons (gApp 2 G__law_some (gaCup 0 (gaCons (gDisp .list (gaCons (gBin dAdd (gBin dIx (gVar 1) (gVar 2)) (gC (.int 1))) (gaCons (gBin (fI0 fun i j => i - j) (gBin dIx (gVar 1) (gVar 2)) (gC (.int 1))) (gaCons (gBin (fI0 fun i j => i - j) (gC (.int 0)) (gBin dIx (gVar 1) (gVar 2))) (gaCons (gBin dMul (gBin dIx (gVar 1) (gVar 2)) (gC (.int 2))) (gaCons (gC (.int 0)) gaNil)))))) gaNil))) gaNil))) (gSlice (gVar 1) (gPart (gBin dAdd (gVar 2) (gC (.int 1)))) gNoPart))))
def G__law_spoilt : GF := gFn 3 g__law_spoilt
theorem d__law_spoilt (T : Txt P w F mg base K) : DefOk P w F mg base K "_law_spoilt" 3 2 G__law_spoilt := by
  obtain ⟨f, fd, Fn, hm, hb⟩ := T.f__law_spoilt
  refine ⟨f, fd, ["_law_cup_here", "_law_paper"], ok_def (N := ["_law_cup_here", "_law_paper", "_law_at"]) (g := g__law_spoilt) Fn sc__law_spoilt ?body, hm, Fn.kp, hb⟩
  intro cdv A outer s H E hr
  have nd := sc__law_spoilt.nd
  have hu := hr.units
  have tk : Takes (cxOf (L2.CX P w) P w F mg base ["_law_cup_here", "_law_paper", "_law_at"] "_law_spoilt" (defScope s__law_spoilt) f cdv A outer s H E) (fun cls d _ H => E cls d H) := takes_of rfl rfl rfl rfl
  have hx : Passes (L2.CX P w) (cxOf (L2.CX P w) P w F mg base ["_law_cup_here", "_law_paper", "_law_at"] "_law_spoilt" (defScope s__law_spoilt) f cdv A outer s H E) E := passes_call tk fun _ _ _ _ h => h
  have hp : PassesOwn (model P w) (cxOf (L2.CX P w) P w F mg base ["_law_cup_here", "_law_paper", "_law_at"] "_law_spoilt" (defScope s__law_spoilt) f cdv A outer s H E).A (cxOf (L2.CX P w) P w F mg base ["_law_cup_here", "_law_paper", "_law_at"] "_law_spoilt" (defScope s__law_spoilt) f cdv A outer s H E).env (cxOf (L2.CX P w) P w F mg base ["_law_cup_here", "_law_paper", "_law_at"] "_law_spoilt" (defScope s__law_spoilt) f cdv A outer s H E).xe := passes_of rfl
  have hc : (cxOf (L2.CX P w) P w F mg base ["_law_cup_here", "_law_paper", "_law_at"] "_law_spoilt" (defScope s__law_spoilt) f cdv A outer s H E).calm = true := rfl
  exact ⟨_, (pssd_cons (psd_set (i := 2) nd rfl (by first | exact .inl rfl | exact .inr rfl) (pd_callD (d__law_roll T) (hr.mono (by decide)) (by rfl) hx (pad_cup (pv 0) (pad_cons (pd_callB call_len_seq callD_len (by rfl) T.b_len bb_len (pad_cons (pd_var (pv 1)) pad_nil)) pad_nil))))
    (pssd_one (psd_ret (pd_op op_addD opD_add (pd_op op_addD opD_add (pd_slice (pd_var (pv 1)) pod_none (pod_some (pd_var (pv 2)))) (pd_tup (pad_cons (pd_callD (d__law_some T) (hr.mono (by decide)) (by rfl) hx (pad_cup (pv 0) (pad_cons (pd_lst (pad_cons (pd_op op_addD opD_add (pd_ix ixR_D opD_ix (pd_var (pv 1)) (pd_var (pv 2)) (fun _ _ => rfl)) pd_int) (pad_cons (pd_op op_sub opD_sub (pd_ix ixR_D opD_ix (pd_var (pv 1)) (pd_var (pv 2)) (fun _ _ => rfl)) pd_int) (pad_cons (pd_op op_sub opD_sub pd_int (pd_ix ixR_D opD_ix (pd_var (pv 1)) (pd_var (pv 2)) (fun _ _ => rfl))) (pad_cons (pd_op op_mulD opD_mul (pd_ix ixR_D opD_ix (pd_var (pv 1)) (pd_var (pv 2)) (fun _ _ => rfl)) pd_int) (pad_cons pd_int pad_nil)))))) pad_nil))) pad_nil))) (pd_slice (pd_var (pv 1)) (pod_some (pd_op op_addD opD_add (pd_var (pv 2)) pd_int)) pod_none)))))⟩
theorem sc__law_gcd_right : FnScope ["_law_cup_here", "_law_one", "_law_other", "_law_due", "_law_paper", "_law_more", "_law_others", "_law_turn", "_law_value", "_law_by"] ["_law_cup_here", "_law_one", "_law_other"] (defScope s__law_gcd_right) := ⟨rfl, rfl, rfl, by decide +kernel, rfl, by decide +kernel, by decide +kernel⟩
def le__law_gcd_right_0 : GE := (gVar 9)
def lt__law_gcd_right_0 : GT := (gAnd (gBool (gBin dEq (gBin (fI modOk fun i j => i.fmod j) (gCall dToInt (gaCons (gVar 1) gaNil)) (gVar 9)) (gC (.int 0)))) (gBool (gBin dEq (gBin (fI modOk fun i j => i.fmod j) (gCall dToInt (gaCons (gVar 2) gaNil)) (gVar 9)) (gC (.int 0)))))
def le__law_gcd_right_1 : GE := (gApp 2 G__law_spoilt (gaCup 0 (gaCons (gVar 4) gaNil)))
def le__law_gcd_right_2 : GE := (gC (.int 1))
def lt__law_gcd_right_1 : GT := (gNot (gTru (gApp 2 G__law_same (gaCons (gApp 3 G_takes_gcd (gaCons (gVar 1) (gaCons (gVar 2) (gaCons (gVar 8) gaNil)))) (gaCons (gApp 3 G__law_is_gcd (gaCons (gVar 1) (gaCons (gVar 2) (gaCons (gVar 8) gaNil)))) gaNil)))))
def ta__law_gcd_right_0 : GS := (gRet (gAndV (gBin dEq (gBin dIx (gApp 2 G_gcd_paper (gaCons (gVar 1) (gaCons (gVar 2) gaNil))) (gC (.int 0))) (gVar 3)) (gBin dIs (gApp 3 G_takes_gcd (gaCons (gVar 1) (gaCons (gVar 2) (gaCons (gSlice (gVar 4) gNoPart (gPart (gC (.int 4)))) gaNil)))) (gC (.bool false)))))
def ta__law_gcd_right_1 : GS := (gSeq (gIf (gBool (gBin dNe (gL (gLc (giLst (gVar 6)) [8] (ggName 8) lt__law_gcd_right_1 le__law_gcd_right_2)) (gDisp .list gaNil))) (gRet (gC (.bool false))) gSkip)
    ta__law_gcd_right_0)
def ta__law_gcd_right_2 : GS := (gFrz 6 ta__law_gcd_right_1)
def ta__law_gcd_right_3 : GS := (gSeq (gApd 6 (gBin dAdd (gDisp .tuple (gaCons (gBin dMul (gVar 3) (gC (.int 2))) (gaCons (gBin dMul (gBin dIx (gVar 4) (gC (.int 1))) (gC (.int 2))) (gaCons (gBin dMul (gBin dIx (gVar 4) (gC (.int 2))) (gC (.int 2))) gaNil)))) (gSlice (gVar 4) (gPart (gC (.int 3))) gNoPart)))
    ta__law_gcd_right_2)
def ta__law_gcd_right_4 : GS := (gSeq (gSetO 6 (gfCat 6 (gL (gLc (giArg dRng1 (gaCons (gC (.int 3)) gaNil)) [7] (ggName 7) gYes le__law_gcd_right_1))))
    ta__law_gcd_right_3)
def ta__law_gcd_right_5 : GS := (gSeq (gSetO 6 (gfDisp (gaCons (gVar 4) (gaCons (gBin dAdd (gBin dAdd (gSlice (gVar 4) gNoPart (gPart (gC (.int 1)))) (gDisp .tuple (gaCons (gBin dAdd (gBin dIx (gVar 4) (gC (.int 1))) (gBin dMul (gVar 5) (gVar 2))) (gaCons (gBin (fI0 fun i j => i - j) (gBin dIx (gVar 4) (gC (.int 2))) (gBin dMul (gVar 5) (gVar 1))) gaNil)))) (gSlice (gVar 4) (gPart (gC (.int 3))) gNoPart)) gaNil))))
    ta__law_gcd_right_4)
def ta__law_gcd_right_6 : GS := (gSeq (gSet 5 (gBin (fI0 fun i j => i - j) (gApp 2 G__law_roll (gaCup 0 (gaCons (gC (.int 5)) gaNil))) (gC (.int 2))))
    ta__law_gcd_right_5)
def ta__law_gcd_right_7 : GS := (gSeq (gIf (gBool (gInR (gBin dAdd (gCall dAbs (gaCons (gVar 1) gaNil)) (gCall dAbs (gaCons (gVar 2) gaNil))) (gaCons (gC (.int 1)) (gaCons (gC (.int 60)) gaNil)))) (gIf (gBool (gBin dNe (gCall dMaxL (gaCons (gL (gLc (giArg dRng2 (gaCons (gC (.int 1)) (gaCons (gC (.int 60)) gaNil))) [9] (ggName 9) lt__law_gcd_right_0 le__law_gcd_right_0)) gaNil)) (gBin dIx (gVar 4) (gC (.int 0))))) (gRet (gC (.bool false))) gSkip) gSkip)
    ta__law_gcd_right_6)
def ta__law_gcd_right_8 : GS := (gSeq (gIf (gOr (gBool (gBin (fB0 fun i j => decide (j < i)) (gCall dAbs (gaCons (gBin dIx (gVar 4) (gC (.int 1))) gaNil)) (gCall dMax2 (gaCons (gC (.int 1)) (gaCons (gCall dAbs (gaCons (gVar 2) gaNil)) gaNil))))) (gBool (gBin (fB0 fun i j => decide (j < i)) (gCall dAbs (gaCons (gBin dIx (gVar 4) (gC (.int 2))) gaNil)) (gCall dMax2 (gaCons (gC (.int 1)) (gaCons (gCall dAbs (gaCons (gVar 1) gaNil)) gaNil)))))) (gRet (gC (.bool false))) gSkip)
    ta__law_gcd_right_7)
def ta__law_gcd_right_9 : GS := (gSeq (gIf (gOr (gNot (gTru (gApp 2 G__law_integers (gaCons (gVar 4) (gaCons (gC (.int 5)) gaNil))))) (gOr (gBool (gBin dNe (gBin dIx (gVar 4) (gC (.int 0))) (gVar 3))) (gNot (gTru (gApp 3 G__law_is_gcd (gaCons (gVar 1) (gaCons (gVar 2) (gaCons (gVar 4) gaNil)))))))) (gRet (gC (.bool false))) gSkip)
    ta__law_gcd_right_8)
def g__law_gcd_right : GS := (gSeq (gSet 3 (gApp 2 G__law_common (gaCons (gVar 1) (gaCons (gVar 2) gaNil))))
    (gSeq (gSet 4 (gApp 2 G_gcd_paper (gaCons (gVar 1) (gaCons (gVar 2) gaNil))))
    ta__law_gcd_right_9))
def G__law_gcd_right : GF := gFn 10 g__law_gcd_right
theorem d__law_gcd_right (T : Txt P w F mg base K) : DefOk P w F mg base K "_law_gcd_right" 6 3 G__law_gcd_right := by
  obtain ⟨f, fd, Fn, hm, hb⟩ := T.f__law_gcd_right
  refine ⟨f, fd, ["_law_cup_here", "_law_one", "_law_other"], ok_def (N := ["_law_cup_here", "_law_one", "_law_other", "_law_due", "_law_paper", "_law_more", "_law_others", "_law_turn", "_law_value", "_law_by"]) (g := g__law_gcd_right) Fn sc__law_gcd_right ?body, hm, Fn.kp, hb⟩
  intro cdv A outer s H E hr
  have nd := sc__law_gcd_right.nd
  have hu := hr.units
  have tk : Takes (cxOf (L2.CX P w) P w F mg base ["_law_cup_here", "_law_one", "_law_other", "_law_due", "_law_paper", "_law_more", "_law_others", "_law_turn", "_law_value", "_law_by"] "_law_gcd_right" (defScope s__law_gcd_right) f cdv A outer s H E) (fun cls d _ H => E cls d H) := takes_of rfl rfl rfl rfl
  have hx : Passes (L2.CX P w) (cxOf (L2.CX P w) P w F mg base ["_law_cup_here", "_law_one", "_law_other", "_law_due", "_law_paper", "_law_more", "_law_others", "_law_turn", "_law_value", "_law_by"] "_law_gcd_right" (defScope s__law_gcd_right) f cdv A outer s H E) E := passes_call tk fun _ _ _ _ h => h
  have hp : PassesOwn (model P w) (cxOf (L2.CX P w) P w F mg base ["_law_cup_here", "_law_one", "_law_other", "_law_due", "_law_paper", "_law_more", "_law_others", "_law_turn", "_law_value", "_law_by"] "_law_gcd_right" (defScope s__law_gcd_right) f cdv A outer s H E).A (cxOf (L2.CX P w) P w F mg base ["_law_cup_here", "_law_one", "_law_other", "_law_due", "_law_paper", "_law_more", "_law_others", "_law_turn", "_law_value", "_law_by"] "_law_gcd_right" (defScope s__law_gcd_right) f cdv A outer s H E).env (cxOf (L2.CX P w) P w F mg base ["_law_cup_here", "_law_one", "_law_other", "_law_due", "_law_paper", "_law_more", "_law_others", "_law_turn", "_law_value", "_law_by"] "_law_gcd_right" (defScope s__law_gcd_right) f cdv A outer s H E).xe := passes_of rfl
  have hc : (cxOf (L2.CX P w) P w F mg base ["_law_cup_here", "_law_one", "_law_other", "_law_due", "_law_paper", "_law_more", "_law_others", "_law_turn", "_law_value", "_law_by"] "_law_gcd_right" (defScope s__law_gcd_right) f cdv A outer s H E).calm = true := rfl
  exact ⟨_, (pssd_cons (psd_set (i := 3) nd rfl (by first | exact .inl rfl | exact .inr rfl) (pd_callD (d__law_common T) (hr.mono (by decide)) (by rfl) hx (pad_cons (pd_var (pv 1)) (pad_cons (pd_var (pv 2)) pad_nil))))
    (pssd_cons (psd_set (i := 4) nd rfl (by first | exact .inl rfl | exact .inr rfl) (pd_callD (d_gcd_paper T) (hr.mono (by decide)) (by rfl) hx (pad_cons (pd_var (pv 1)) (pad_cons (pd_var (pv 2)) pad_nil))))
    (pssd_cons (psd_if (PWD.pt (pwd_or (ptd_not (ptd_truth (pd_callD (d__law_integers T) (hr.mono (by decide)) (by rfl) hx (pad_cons (pd_var (pv 4)) (pad_cons pd_int pad_nil))))) (pwd_or (ptd_cmp (op_neX hu) opD_ne (pd_ix ixR_D opD_ix (pd_var (pv 4)) pd_int (fun _ _ => rfl)) (pd_var (pv 3)) (nomark _)) (pwd_or1 (ptd_not (ptd_truth (pd_callD (d__law_is_gcd T) (hr.mono (by decide)) (by rfl) hx (pad_cons (pd_var (pv 1)) (pad_cons (pd_var (pv 2)) (pad_cons (pd_var (pv 4)) pad_nil)))))))))) (pssd_one (psd_ret pd_bl)) pssd_nil)
    (pssd_cons (psd_if (PWD.pt (pwd_or (ptd_cmp op_gt opD_gt (pd_callB call_abs callD_abs (by rfl) T.b_abs bb_abs (pad_cons (pd_ix ixR_D opD_ix (pd_var (pv 4)) pd_int (fun _ _ => rfl)) pad_nil)) (pd_callB (call_max2 rfl) callD_max2 (by rfl) T.b_max bb_max (pad_cons pd_int (pad_cons (pd_callB call_abs callD_abs (by rfl) T.b_abs bb_abs (pad_cons (pd_var (pv 2)) pad_nil)) pad_nil))) (nomark _)) (pwd_or1 (ptd_cmp op_gt opD_gt (pd_callB call_abs callD_abs (by rfl) T.b_abs bb_abs (pad_cons (pd_ix ixR_D opD_ix (pd_var (pv 4)) pd_int (fun _ _ => rfl)) pad_nil)) (pd_callB (call_max2 rfl) callD_max2 (by rfl) T.b_max bb_max (pad_cons pd_int (pad_cons (pd_callB call_abs callD_abs (by rfl) T.b_abs bb_abs (pad_cons (pd_var (pv 1)) pad_nil)) pad_nil))) (nomark _))))) (pssd_one (psd_ret pd_bl)) pssd_nil)
    (pssd_cons (psd_if (ptd_inR (pd_op op_addD opD_add (pd_callB call_abs callD_abs (by rfl) T.b_abs bb_abs (pad_cons (pd_var (pv 1)) pad_nil)) (pd_callB call_abs callD_abs (by rfl) T.b_abs bb_abs (pad_cons (pd_var (pv 2)) pad_nil))) (by rfl) T.b_range (pad_cons pd_int (pad_cons pd_int pad_nil))) (pssd_one (psd_if (ptd_cmp (op_neX hu) opD_ne (pd_callB (cr_max rfl) callD_maxL (by rfl) T.b_max bb_max (pad_cons (PFD.toD (pf_lc (own := [("_law_by", 9)]) (ws := [9]) hc nd (pid_rng2 (by rfl) T.b_range (pad_cons pd_int (pad_cons pd_int pad_nil))) (blkOk_by (N := ["_law_cup_here", "_law_one", "_law_other", "_law_due", "_law_paper", "_law_more", "_law_others", "_law_turn", "_law_value", "_law_by"]) (sc := defScope s__law_gcd_right) (by decide +kernel)) (fun _ _ _ _ _ => ⟨_, by exact (pgd_name (i := 9) nd rfl (by first | exact .inl rfl | exact .inr rfl))⟩) (fun _ _ _ _ _ => ⟨_, by exact (ptsd_one (PWD.pt (pwd_and (ptd_cmp (op_eqX hu) opD_eq (pd_op op_modN opD_mod (pd_callTy call_int1 callD_int (by rfl) T.b_int bb_int (pad_cons (pd_var (pv 1)) pad_nil)) (pd_var (pv 9))) pd_int (nomark _)) (pwd_and1 (ptd_cmp (op_eqX hu) opD_eq (pd_op op_modN opD_mod (pd_callTy call_int1 callD_int (by rfl) T.b_int bb_int (pad_cons (pd_var (pv 2)) pad_nil)) (pd_var (pv 9))) pd_int (nomark _))))))⟩) (fun _ _ _ _ _ => ⟨_, by exact (pd_var (pv 9))⟩))) pad_nil)) (pd_ix ixR_D opD_ix (pd_var (pv 4)) pd_int (fun _ _ => rfl)) (nomark _)) (pssd_one (psd_ret pd_bl)) pssd_nil)) pssd_nil)
    (pssd_cons (psd_set (i := 5) nd rfl (by first | exact .inl rfl | exact .inr rfl) (pd_op op_sub opD_sub (pd_callD (d__law_roll T) (hr.mono (by decide)) (by rfl) hx (pad_cup (pv 0) (pad_cons pd_int pad_nil))) pd_int))
    (pssd_cons (psd_setO (i := 6) nd rfl (by first | exact .inl rfl | exact .inr rfl) (pf_lst (pad_cons (pd_var (pv 4)) (pad_cons (pd_op op_addD opD_add (pd_op op_addD opD_add (pd_slice (pd_var (pv 4)) pod_none (pod_some pd_int)) (pd_tup (pad_cons (pd_op op_addD opD_add (pd_ix ixR_D opD_ix (pd_var (pv 4)) pd_int (fun _ _ => rfl)) (pd_op op_mulD opD_mul (pd_var (pv 5)) (pd_var (pv 2)))) (pad_cons (pd_op op_sub opD_sub (pd_ix ixR_D opD_ix (pd_var (pv 4)) pd_int (fun _ _ => rfl)) (pd_op op_mulD opD_mul (pd_var (pv 5)) (pd_var (pv 1)))) pad_nil)))) (pd_slice (pd_var (pv 4)) (pod_some pd_int) pod_none)) pad_nil))))
    (pssd_cons (psd_setO (i := 6) nd rfl (by first | exact .inl rfl | exact .inr rfl) (pf_cat (pv 6) (PFD.toD (pf_lc (own := [("_law_turn", 7)]) (ws := [7]) hc nd (pid_rng1 (by rfl) T.b_range (pad_cons pd_int pad_nil)) (blkOk_by (N := ["_law_cup_here", "_law_one", "_law_other", "_law_due", "_law_paper", "_law_more", "_law_others", "_law_turn", "_law_value", "_law_by"]) (sc := defScope s__law_gcd_right) (by decide +kernel)) (fun _ _ _ _ _ => ⟨_, by exact (pgd_name (i := 7) nd rfl (by first | exact .inl rfl | exact .inr rfl))⟩) (fun _ _ _ _ _ => ⟨_, by exact ptsd_nil⟩) (fun _ _ _ _ _ => ⟨_, by exact (pd_callD (d__law_spoilt T) (hr.mono (by decide)) (by rfl) passL (pad_cup (pv 0) (pad_cons (pd_var (pv 4)) pad_nil)))⟩)))))
    (pssd_cons (psd_append (pv 6) (pd_op op_addD opD_add (pd_tup (pad_cons (pd_op op_mulD opD_mul (pd_var (pv 3)) pd_int) (pad_cons (pd_op op_mulD opD_mul (pd_ix ixR_D opD_ix (pd_var (pv 4)) pd_int (fun _ _ => rfl)) pd_int) (pad_cons (pd_op op_mulD opD_mul (pd_ix ixR_D opD_ix (pd_var (pv 4)) pd_int (fun _ _ => rfl)) pd_int) pad_nil)))) (pd_slice (pd_var (pv 4)) (pod_some pd_int) pod_none)) (fun h => pe_bm PySem.F.plainAttrs_list PySem.F.slot_list_append PySem.F.type_list_append mt_append (pv 6) h))
    (pssd_frz 6 (pssd_cons (psd_if (ptd_cmp (op_neX hu) opD_ne (PFD.toD (pf_lc (own := [("_law_value", 8)]) (ws := [8]) hc nd (pid_lst (pd_var (pv 6))) (blkOk_by (N := ["_law_cup_here", "_law_one", "_law_other", "_law_due", "_law_paper", "_law_more", "_law_others", "_law_turn", "_law_value", "_law_by"]) (sc := defScope s__law_gcd_right) (by decide +kernel)) (fun _ _ _ _ _ => ⟨_, by exact (pgd_name (i := 8) nd rfl (by first | exact .inl rfl | exact .inr rfl))⟩) (fun _ _ _ _ _ => ⟨_, by exact (ptsd_one (ptd_not (ptd_truth (pd_callD (d__law_same T) (hr.mono (by decide)) (by rfl) passL (pad_cons (pd_callD (d_takes_gcd T) (hr.mono (by decide)) (by rfl) passL (pad_cons (pd_var (pv 1)) (pad_cons (pd_var (pv 2)) (pad_cons (pd_var (pv 8)) pad_nil)))) (pad_cons (pd_callD (d__law_is_gcd T) (hr.mono (by decide)) (by rfl) passL (pad_cons (pd_var (pv 1)) (pad_cons (pd_var (pv 2)) (pad_cons (pd_var (pv 8)) pad_nil)))) pad_nil))))))⟩) (fun _ _ _ _ _ => ⟨_, by exact pd_int⟩))) (pd_lst pad_nil) (nomark _)) (pssd_one (psd_ret pd_bl)) pssd_nil)
    (pssd_one (psd_ret (pd_and (pd_cmp (op_eqX hu) opD_eq (pd_ix ixR_D opD_ix (pd_callD (d_gcd_paper T) (hr.mono (by decide)) (by rfl) hx (pad_cons (pd_var (pv 1)) (pad_cons (pd_var (pv 2)) pad_nil))) pd_int (fun _ _ => rfl)) (pd_var (pv 3)) (nomark _)) (pd_one (pd_cmp op_isBl opD_is (pd_callD (d_takes_gcd T) (hr.mono (by decide)) (by rfl) hx (pad_cons (pd_var (pv 1)) (pad_cons (pd_var (pv 2)) (pad_cons (pd_slice (pd_var (pv 4)) pod_none (pod_some pd_int)) pad_nil)))) pd_bl (nomark _)))))))))))))))))⟩
theorem sc__law_lcm_right : FnScope ["_law_cup_here", "_law_one", "_law_other", "_law_by", "_law_due", "_law_paper", "_law_more", "_law_others", "_law_value", "_law_turn", "_law_many"] ["_law_cup_here", "_law_one", "_law_other"] (defScope s__law_lcm_right) := ⟨rfl, rfl, rfl, by decide +kernel, rfl, by decide +kernel, by decide +kernel⟩
def le__law_lcm_right_0 : GE := (gApp 2 G__law_spoilt (gaCup 0 (gaCons (gVar 5) gaNil)))
def le__law_lcm_right_1 : GE := (gC (.int 1))
def lt__law_lcm_right_0 : GT := (gNot (gTru (gApp 2 G__law_same (gaCons (gApp 3 G_takes_lcm (gaCons (gVar 1) (gaCons (gVar 2) (gaCons (gVar 8) gaNil)))) (gaCons (gApp 3 G__law_is_lcm (gaCons (gVar 1) (gaCons (gVar 2) (gaCons (gVar 8) gaNil)))) gaNil)))))
def le__law_lcm_right_2 : GE := (gVar 10)
def lt__law_lcm_right_1 : GT := (gAnd (gBool (gBin dEq (gBin (fI modOk fun i j => i.fmod j) (gCall dToInt (gaCons (gVar 10) gaNil)) (gCall dAbs (gaCons (gVar 1) gaNil))) (gC (.int 0)))) (gBool (gBin dEq (gBin (fI modOk fun i j => i.fmod j) (gCall dToInt (gaCons (gVar 10) gaNil)) (gCall dAbs (gaCons (gVar 2) gaNil))) (gC (.int 0)))))
def ta__law_lcm_right_0 : GS := (gRet (gC (.bool true)))
def ta__law_lcm_right_1 : GS := (gSeq (gIf (gAnd (gBool (gBin dNe (gVar 1) (gC (.int 0)))) (gAnd (gBool (gBin dNe (gVar 2) (gC (.int 0)))) (gBool (gBin (fB0 fun i j => decide (i < j)) (gCall dAbs (gaCons (gBin dMul (gVar 1) (gVar 2)) gaNil)) (gC (.int 150)))))) (gIf (gBool (gBin dNe (gCall dMinL (gaCons (gL (gLc (giArg dRng2 (gaCons (gC (.int 1)) (gaCons (gC (.int 150)) gaNil))) [10] (ggName 10) lt__law_lcm_right_1 le__law_lcm_right_2)) gaNil)) (gBin dIx (gVar 5) (gC (.int 0))))) (gRet (gC (.bool false))) gSkip) gSkip)
    ta__law_lcm_right_0)
def ta__law_lcm_right_2 : GS := (gSeq (gIf (gBool (gBin dNe (gL (gLc (giLst (gVar 7)) [8] (ggName 8) lt__law_lcm_right_0 le__law_lcm_right_1)) (gDisp .list gaNil))) (gRet (gC (.bool false))) gSkip)
    ta__law_lcm_right_1)
def ta__law_lcm_right_3 : GS := (gSeq (gSet 7 (gBin dAdd (gBin dAdd (gVar 7) (gL (gLc (giArg dRng1 (gaCons (gC (.int 3)) gaNil)) [9] (ggName 9) gYes le__law_lcm_right_0))) (gDisp .list (gaCons (gBin dAdd (gDisp .tuple (gaCons (gBin dMul (gVar 4) (gC (.int 2))) (gaCons (gBin dMul (gBin dIx (gVar 5) (gC (.int 1))) (gC (.int 2))) (gaCons (gBin dMul (gBin dIx (gVar 5) (gC (.int 2))) (gC (.int 2))) gaNil)))) (gSlice (gVar 5) (gPart (gC (.int 3))) gNoPart)) gaNil))))
    ta__law_lcm_right_2)
def ta__law_lcm_right_4 : GS := (gSeq (gSet 7 (gDisp .list (gaCons (gVar 5) (gaCons (gBin dAdd (gSlice (gVar 5) gNoPart (gPart (gC (.int 3)))) (gDisp .tuple (gaCons (gBin dAdd (gBin dIx (gVar 5) (gC (.int 3))) (gBin dMul (gVar 6) (gBin dIx (gVar 5) (gC (.int 2))))) (gaCons (gBin (fI0 fun i j => i - j) (gBin dIx (gVar 5) (gC (.int 4))) (gBin dMul (gVar 6) (gBin dIx (gVar 5) (gC (.int 1))))) gaNil)))) gaNil))))
    ta__law_lcm_right_3)
def ta__law_lcm_right_5 : GS := (gSeq (gSet 6 (gBin (fI0 fun i j => i - j) (gApp 2 G__law_roll (gaCup 0 (gaCons (gC (.int 5)) gaNil))) (gC (.int 2))))
    ta__law_lcm_right_4)
def ta__law_lcm_right_6 : GS := (gSeq (gIf (gOr (gNot (gTru (gApp 2 G__law_integers (gaCons (gVar 5) (gaCons (gC (.int 5)) gaNil))))) (gOr (gBool (gBin dNe (gBin dIx (gVar 5) (gC (.int 0))) (gVar 4))) (gNot (gTru (gApp 3 G__law_is_lcm (gaCons (gVar 1) (gaCons (gVar 2) (gaCons (gVar 5) gaNil)))))))) (gRet (gC (.bool false))) gSkip)
    ta__law_lcm_right_5)
def ta__law_lcm_right_7 : GS := (gSeq (gSet 5 (gApp 2 G_lcm_paper (gaCons (gVar 1) (gaCons (gVar 2) gaNil))))
    ta__law_lcm_right_6)
def g__law_lcm_right : GS := (gSeq (gSet 3 (gApp 2 G__law_common (gaCons (gVar 1) (gaCons (gVar 2) gaNil))))
    (gSeq (gSet 4 (gIfE (gBool (gBin (fB0 fun i j => decide (j < i)) (gVar 3) (gC (.int 0)))) (gBin (fI divOk fun i j => i.fdiv j) (gCall dAbs (gaCons (gBin dMul (gVar 1) (gVar 2)) gaNil)) (gVar 3)) (gC (.int 0))))
    ta__law_lcm_right_7))
def G__law_lcm_right : GF := gFn 11 g__law_lcm_right
theorem d__law_lcm_right (T : Txt P w F mg base K) : DefOk P w F mg base K "_law_lcm_right" 7 3 G__law_lcm_right := by
  obtain ⟨f, fd, Fn, hm, hb⟩ := T.f__law_lcm_right
  refine ⟨f, fd, ["_law_cup_here", "_law_one", "_law_other"], ok_def (N := ["_law_cup_here", "_law_one", "_law_other", "_law_by", "_law_due", "_law_paper", "_law_more", "_law_others", "_law_value", "_law_turn", "_law_many"]) (g := g__law_lcm_right) Fn sc__law_lcm_right ?body, hm, Fn.kp, hb⟩
  intro cdv A outer s H E hr
  have nd := sc__law_lcm_right.nd
  have hu := hr.units
  have tk : Takes (cxOf (L2.CX P w) P w F mg base ["_law_cup_here", "_law_one", "_law_other", "_law_by", "_law_due", "_law_paper", "_law_more", "_law_others", "_law_value", "_law_turn", "_law_many"] "_law_lcm_right" (defScope s__law_lcm_right) f cdv A outer s H E) (fun cls d _ H => E cls d H) := takes_of rfl rfl rfl rfl
  have hx : Passes (L2.CX P w) (cxOf (L2.CX P w) P w F mg base ["_law_cup_here", "_law_one", "_law_other", "_law_by", "_law_due", "_law_paper", "_law_more", "_law_others", "_law_value", "_law_turn", "_law_many"] "_law_lcm_right" (defScope s__law_lcm_right) f cdv A outer s H E) E := passes_call tk fun _ _ _ _ h => h
  have hp : PassesOwn (model P w) (cxOf (L2.CX P w) P w F mg base ["_law_cup_here", "_law_one", "_law_other", "_law_by", "_law_due", "_law_paper", "_law_more", "_law_others", "_law_value", "_law_turn", "_law_many"] "_law_lcm_right" (defScope s__law_lcm_right) f cdv A outer s H E).A (cxOf (L2.CX P w) P w F mg base ["_law_cup_here", "_law_one", "_law_other", "_law_by", "_law_due", "_law_paper", "_law_more", "_law_others", "_law_value", "_law_turn", "_law_many"] "_law_lcm_right" (defScope s__law_lcm_right) f cdv A outer s H E).env (cxOf (L2.CX P w) P w F mg base ["_law_cup_here", "_law_one", "_law_other", "_law_by", "_law_due", "_law_paper", "_law_more", "_law_others", "_law_value", "_law_turn", "_law_many"] "_law_lcm_right" (defScope s__law_lcm_right) f cdv A outer s H E).xe := passes_of rfl
  have hc : (cxOf (L2.CX P w) P w F mg base ["_law_cup_here", "_law_one", "_law_other", "_law_by", "_law_due", "_law_paper", "_law_more", "_law_others", "_law_value", "_law_turn", "_law_many"] "_law_lcm_right" (defScope s__law_lcm_right) f cdv A outer s H E).calm = true := rfl
  exact ⟨_, (pssd_cons (psd_set (i := 3) nd rfl (by first | exact .inl rfl | exact .inr rfl) (pd_callD (d__law_common T) (hr.mono (by decide)) (by rfl) hx (pad_cons (pd_var (pv 1)) (pad_cons (pd_var (pv 2)) pad_nil))))
    (pssd_cons (psd_set (i := 4) nd rfl (by first | exact .inl rfl | exact .inr rfl) (pd_ifExp (ptd_cmp op_gt opD_gt (pd_var (pv 3)) pd_int (nomark _)) (pd_op op_divD opD_div (pd_callB call_abs callD_abs (by rfl) T.b_abs bb_abs (pad_cons (pd_op op_mulD opD_mul (pd_var (pv 1)) (pd_var (pv 2))) pad_nil)) (pd_var (pv 3))) pd_int))
    (pssd_cons (psd_set (i := 5) nd rfl (by first | exact .inl rfl | exact .inr rfl) (pd_callD (d_lcm_paper T) (hr.mono (by decide)) (by rfl) hx (pad_cons (pd_var (pv 1)) (pad_cons (pd_var (pv 2)) pad_nil))))
    (pssd_cons (psd_if (PWD.pt (pwd_or (ptd_not (ptd_truth (pd_callD (d__law_integers T) (hr.mono (by decide)) (by rfl) hx (pad_cons (pd_var (pv 5)) (pad_cons pd_int pad_nil))))) (pwd_or (ptd_cmp (op_neX hu) opD_ne (pd_ix ixR_D opD_ix (pd_var (pv 5)) pd_int (fun _ _ => rfl)) (pd_var (pv 4)) (nomark _)) (pwd_or1 (ptd_not (ptd_truth (pd_callD (d__law_is_lcm T) (hr.mono (by decide)) (by rfl) hx (pad_cons (pd_var (pv 1)) (pad_cons (pd_var (pv 2)) (pad_cons (pd_var (pv 5)) pad_nil)))))))))) (pssd_one (psd_ret pd_bl)) pssd_nil)
    (pssd_cons (psd_set (i := 6) nd rfl (by first | exact .inl rfl | exact .inr rfl) (pd_op op_sub opD_sub (pd_callD (d__law_roll T) (hr.mono (by decide)) (by rfl) hx (pad_cup (pv 0) (pad_cons pd_int pad_nil))) pd_int))
    (pssd_cons (psd_set (i := 7) nd rfl (by first | exact .inl rfl | exact .inr rfl) (pd_lst (pad_cons (pd_var (pv 5)) (pad_cons (pd_op op_addD opD_add (pd_slice (pd_var (pv 5)) pod_none (pod_some pd_int)) (pd_tup (pad_cons (pd_op op_addD opD_add (pd_ix ixR_D opD_ix (pd_var (pv 5)) pd_int (fun _ _ => rfl)) (pd_op op_mulD opD_mul (pd_var (pv 6)) (pd_ix ixR_D opD_ix (pd_var (pv 5)) pd_int (fun _ _ => rfl)))) (pad_cons (pd_op op_sub opD_sub (pd_ix ixR_D opD_ix (pd_var (pv 5)) pd_int (fun _ _ => rfl)) (pd_op op_mulD opD_mul (pd_var (pv 6)) (pd_ix ixR_D opD_ix (pd_var (pv 5)) pd_int (fun _ _ => rfl)))) pad_nil)))) pad_nil))))
    (pssd_cons (psd_set (i := 7) nd rfl (by first | exact .inl rfl | exact .inr rfl) (pd_op op_addD opD_add (pd_op op_addD opD_add (pd_var (pv 7)) (PFD.toD (pf_lc (own := [("_law_turn", 9)]) (ws := [9]) hc nd (pid_rng1 (by rfl) T.b_range (pad_cons pd_int pad_nil)) (blkOk_by (N := ["_law_cup_here", "_law_one", "_law_other", "_law_by", "_law_due", "_law_paper", "_law_more", "_law_others", "_law_value", "_law_turn", "_law_many"]) (sc := defScope s__law_lcm_right) (by decide +kernel)) (fun _ _ _ _ _ => ⟨_, by exact (pgd_name (i := 9) nd rfl (by first | exact .inl rfl | exact .inr rfl))⟩) (fun _ _ _ _ _ => ⟨_, by exact ptsd_nil⟩) (fun _ _ _ _ _ => ⟨_, by exact (pd_callD (d__law_spoilt T) (hr.mono (by decide)) (by rfl) passL (pad_cup (pv 0) (pad_cons (pd_var (pv 5)) pad_nil)))⟩)))) (pd_lst (pad_cons (pd_op op_addD opD_add (pd_tup (pad_cons (pd_op op_mulD opD_mul (pd_var (pv 4)) pd_int) (pad_cons (pd_op op_mulD opD_mul (pd_ix ixR_D opD_ix (pd_var (pv 5)) pd_int (fun _ _ => rfl)) pd_int) (pad_cons (pd_op op_mulD opD_mul (pd_ix ixR_D opD_ix (pd_var (pv 5)) pd_int (fun _ _ => rfl)) pd_int) pad_nil)))) (pd_slice (pd_var (pv 5)) (pod_some pd_int) pod_none)) pad_nil))))
    (pssd_cons (psd_if (ptd_cmp (op_neX hu) opD_ne (PFD.toD (pf_lc (own := [("_law_value", 8)]) (ws := [8]) hc nd (pid_lst (pd_var (pv 7))) (blkOk_by (N := ["_law_cup_here", "_law_one", "_law_other", "_law_by", "_law_due", "_law_paper", "_law_more", "_law_others", "_law_value", "_law_turn", "_law_many"]) (sc := defScope s__law_lcm_right) (by decide +kernel)) (fun _ _ _ _ _ => ⟨_, by exact (pgd_name (i := 8) nd rfl (by first | exact .inl rfl | exact .inr rfl))⟩) (fun _ _ _ _ _ => ⟨_, by exact (ptsd_one (ptd_not (ptd_truth (pd_callD (d__law_same T) (hr.mono (by decide)) (by rfl) passL (pad_cons (pd_callD (d_takes_lcm T) (hr.mono (by decide)) (by rfl) passL (pad_cons (pd_var (pv 1)) (pad_cons (pd_var (pv 2)) (pad_cons (pd_var (pv 8)) pad_nil)))) (pad_cons (pd_callD (d__law_is_lcm T) (hr.mono (by decide)) (by rfl) passL (pad_cons (pd_var (pv 1)) (pad_cons (pd_var (pv 2)) (pad_cons (pd_var (pv 8)) pad_nil)))) pad_nil))))))⟩) (fun _ _ _ _ _ => ⟨_, by exact pd_int⟩))) (pd_lst pad_nil) (nomark _)) (pssd_one (psd_ret pd_bl)) pssd_nil)
    (pssd_cons (psd_if (PWD.pt (pwd_and (ptd_cmp (op_neX hu) opD_ne (pd_var (pv 1)) pd_int (nomark _)) (pwd_and (ptd_cmp (op_neX hu) opD_ne (pd_var (pv 2)) pd_int (nomark _)) (pwd_and1 (ptd_cmp op_lt opD_lt (pd_callB call_abs callD_abs (by rfl) T.b_abs bb_abs (pad_cons (pd_op op_mulD opD_mul (pd_var (pv 1)) (pd_var (pv 2))) pad_nil)) pd_int (nomark _)))))) (pssd_one (psd_if (ptd_cmp (op_neX hu) opD_ne (pd_callB (cr_min rfl) callD_minL (by rfl) T.b_min bb_min (pad_cons (PFD.toD (pf_lc (own := [("_law_many", 10)]) (ws := [10]) hc nd (pid_rng2 (by rfl) T.b_range (pad_cons pd_int (pad_cons pd_int pad_nil))) (blkOk_by (N := ["_law_cup_here", "_law_one", "_law_other", "_law_by", "_law_due", "_law_paper", "_law_more", "_law_others", "_law_value", "_law_turn", "_law_many"]) (sc := defScope s__law_lcm_right) (by decide +kernel)) (fun _ _ _ _ _ => ⟨_, by exact (pgd_name (i := 10) nd rfl (by first | exact .inl rfl | exact .inr rfl))⟩) (fun _ _ _ _ _ => ⟨_, by exact (ptsd_one (PWD.pt (pwd_and (ptd_cmp (op_eqX hu) opD_eq (pd_op op_modN opD_mod (pd_callTy call_int1 callD_int (by rfl) T.b_int bb_int (pad_cons (pd_var (pv 10)) pad_nil)) (pd_callB call_abs callD_abs (by rfl) T.b_abs bb_abs (pad_cons (pd_var (pv 1)) pad_nil))) pd_int (nomark _)) (pwd_and1 (ptd_cmp (op_eqX hu) opD_eq (pd_op op_modN opD_mod (pd_callTy call_int1 callD_int (by rfl) T.b_int bb_int (pad_cons (pd_var (pv 10)) pad_nil)) (pd_callB call_abs callD_abs (by rfl) T.b_abs bb_abs (pad_cons (pd_var (pv 2)) pad_nil))) pd_int (nomark _))))))⟩) (fun _ _ _ _ _ => ⟨_, by exact (pd_var (pv 10))⟩))) pad_nil)) (pd_ix ixR_D opD_ix (pd_var (pv 5)) pd_int (fun _ _ => rfl)) (nomark _)) (pssd_one (psd_ret pd_bl)) pssd_nil)) pssd_nil)
    (pssd_one (psd_ret pd_bl)))))))))))⟩
theorem sc__law_row_right : FnScope ["_law_cup_here", "_law_row", "_law_due", "_law_one", "_law_paper", "_law_others", "_law_odd", "_law_value", "_law_by"] ["_law_cup_here", "_law_row"] (defScope s__law_row_right) := ⟨rfl, rfl, rfl, by decide +kernel, rfl, by decide +kernel, by decide +kernel⟩
def fb__law_row_right_0 : GS := (gSet 2 (gApp 2 G__law_common (gaCons (gVar 2) (gaCons (gVar 3) gaNil))))
def le__law_row_right_0 : GE := (gBin dMul (gVar 8) (gC (.int 2)))
def le__law_row_right_1 : GE := (gC (.int 1))
def lt__law_row_right_0 : GT := (gNot (gTru (gApp 2 G__law_same (gaCons (gApp 2 G_takes_gcd_row (gaCons (gVar 1) (gaCons (gVar 7) gaNil))) (gaCons (gApp 2 G__law_is_row (gaCons (gVar 1) (gaCons (gVar 7) gaNil))) gaNil)))))
def le__law_row_right_2 : GE := (gC (.int 1))
def lt__law_row_right_1 : GT := (gNot (gTru (gApp 2 G__law_same (gaCons (gApp 2 G_takes_gcd_row (gaCons (gVar 1) (gaCons (gVar 7) gaNil))) (gaCons (gC (.bool false)) gaNil)))))
def ta__law_row_right_0 : GS := (gRet (gBin dEq (gL (gLc (giLst (gVar 6)) [7] (ggName 7) lt__law_row_right_1 le__law_row_right_2)) (gDisp .list gaNil)))
def ta__law_row_right_1 : GS := (gSeq (gSet 6 (gDisp .list (gaCons (gDisp .tuple (gaCons (gVar 2) (gaCons (gSlice (gBin dIx (gVar 4) (gC (.int 1))) (gPart (gC (.int 1))) gNoPart) (gaCons (gBin dIx (gVar 4) (gC (.int 2))) gaNil)))) (gaCons (gDisp .tuple (gaCons (gVar 2) (gaCons (gBin dIx (gVar 4) (gC (.int 1))) (gaCons (gBin dAdd (gBin dIx (gVar 4) (gC (.int 2))) (gDisp .tuple (gaCons (gC (.int 0)) gaNil))) gaNil)))) (gaCons (gDisp .tuple (gaCons (gVar 2) (gaCons (gCall dToLst (gaCons (gBin dIx (gVar 4) (gC (.int 1))) gaNil)) (gaCons (gBin dIx (gVar 4) (gC (.int 2))) gaNil)))) (gaCons (gSlice (gVar 4) gNoPart (gPart (gC (.int 2)))) (gaCons (gC .none) gaNil)))))))
    ta__law_row_right_0)
def ta__law_row_right_2 : GS := (gSeq (gIf (gBool (gBin dNe (gL (gLc (giLst (gVar 5)) [7] (ggName 7) lt__law_row_right_0 le__law_row_right_1)) (gDisp .list gaNil))) (gRet (gC (.bool false))) gSkip)
    ta__law_row_right_1)
def ta__law_row_right_3 : GS := (gFrz 5 ta__law_row_right_2)
def ta__law_row_right_4 : GS := (gSeq (gApd 5 (gDisp .tuple (gaCons (gBin dMul (gVar 2) (gC (.int 2))) (gaCons (gCall dToTup (gaCons (gL (gLc (giTup (gBin dIx (gVar 4) (gC (.int 1)))) [8] (ggName 8) gYes le__law_row_right_0)) gaNil)) (gaCons (gBin dIx (gVar 4) (gC (.int 2))) gaNil)))))
    ta__law_row_right_3)
def ta__law_row_right_5 : GS := (gSeq (gSetO 5 (gfDisp (gaCons (gVar 4) (gaCons (gDisp .tuple (gaCons (gVar 2) (gaCons (gApp 2 G__law_spoilt (gaCup 0 (gaCons (gBin dIx (gVar 4) (gC (.int 1))) gaNil))) (gaCons (gBin dIx (gVar 4) (gC (.int 2))) gaNil)))) (gaCons (gDisp .tuple (gaCons (gVar 2) (gaCons (gBin dIx (gVar 4) (gC (.int 1))) (gaCons (gApp 2 G__law_spoilt (gaCup 0 (gaCons (gBin dIx (gVar 4) (gC (.int 2))) gaNil))) gaNil)))) (gaCons (gBin dAdd (gDisp .tuple (gaCons (gBin dAdd (gVar 2) (gC (.int 1))) gaNil)) (gSlice (gVar 4) (gPart (gC (.int 1))) gNoPart)) gaNil))))))
    ta__law_row_right_4)
def ta__law_row_right_6 : GS := (gSeq (gIf (gOr (gNot (gTru (gApp 2 G__law_integers (gaCons (gBin dIx (gVar 4) (gC (.int 1))) (gaCons (gCall dLen (gaCons (gVar 1) gaNil)) gaNil))))) (gOr (gNot (gTru (gApp 2 G__law_integers (gaCons (gBin dIx (gVar 4) (gC (.int 2))) (gaCons (gCall dLen (gaCons (gVar 1) gaNil)) gaNil))))) (gNot (gTru (gApp 2 G__law_is_row (gaCons (gVar 1) (gaCons (gVar 4) gaNil))))))) (gRet (gC (.bool false))) gSkip)
    ta__law_row_right_5)
def ta__law_row_right_7 : GS := (gSeq (gIf (gOr (gNot (gTru (gIsi "tuple" (gVar 4)))) (gOr (gBool (gBin dNe (gCall dLen (gaCons (gVar 4) gaNil)) (gC (.int 3)))) (gOr (gNot (gTru (gApp 2 G__law_integers (gaCons (gSlice (gVar 4) gNoPart (gPart (gC (.int 1)))) (gaCons (gC (.int 1)) gaNil))))) (gBool (gBin dNe (gBin dIx (gVar 4) (gC (.int 0))) (gVar 2)))))) (gRet (gC (.bool false))) gSkip)
    ta__law_row_right_6)
def ta__law_row_right_8 : GS := (gSeq (gSet 4 (gApp 1 G_gcd_row_paper (gaCons (gVar 1) gaNil)))
    ta__law_row_right_7)
def g__law_row_right : GS := (gSeq (gSet 2 (gC (.int 0)))
    (gSeq (gFor (giTup (gVar 1)) (ggName 3) fb__law_row_right_0)
    ta__law_row_right_8))
def G__law_row_right : GF := gFn 9 g__law_row_right
theorem d__law_row_right (T : Txt P w F mg base K) : DefOk P w F mg base K "_law_row_right" 7 2 G__law_row_right := by
  obtain ⟨f, fd, Fn, hm, hb⟩ := T.f__law_row_right
  refine ⟨f, fd, ["_law_cup_here", "_law_row"], ok_def (N := ["_law_cup_here", "_law_row", "_law_due", "_law_one", "_law_paper", "_law_others", "_law_odd", "_law_value", "_law_by"]) (g := g__law_row_right) Fn sc__law_row_right ?body, hm, Fn.kp, hb⟩
  intro cdv A outer s H E hr
  have nd := sc__law_row_right.nd
  have hu := hr.units
  have tk : Takes (cxOf (L2.CX P w) P w F mg base ["_law_cup_here", "_law_row", "_law_due", "_law_one", "_law_paper", "_law_others", "_law_odd", "_law_value", "_law_by"] "_law_row_right" (defScope s__law_row_right) f cdv A outer s H E) (fun cls d _ H => E cls d H) := takes_of rfl rfl rfl rfl
  have hx : Passes (L2.CX P w) (cxOf (L2.CX P w) P w F mg base ["_law_cup_here", "_law_row", "_law_due", "_law_one", "_law_paper", "_law_others", "_law_odd", "_law_value", "_law_by"] "_law_row_right" (defScope s__law_row_right) f cdv A outer s H E) E := passes_call tk fun _ _ _ _ h => h
  have hp : PassesOwn (model P w) (cxOf (L2.CX P w) P w F mg base ["_law_cup_here", "_law_row", "_law_due", "_law_one", "_law_paper", "_law_others", "_law_odd", "_law_value", "_law_by"] "_law_row_right" (defScope s__law_row_right) f cdv A outer s H E).A (cxOf (L2.CX P w) P w F mg base ["_law_cup_here", "_law_row", "_law_due", "_law_one", "_law_paper", "_law_others", "_law_odd", "_law_value", "_law_by"] "_law_row_right" (defScope s__law_row_right) f cdv A outer s H E).env (cxOf (L2.CX P w) P w F mg base ["_law_cup_here", "_law_row", "_law_due", "_law_one", "_law_paper", "_law_others", "_law_odd", "_law_value", "_law_by"] "_law_row_right" (defScope s__law_row_right) f cdv A outer s H E).xe := passes_of rfl
  have hc : (cxOf (L2.CX P w) P w F mg base ["_law_cup_here", "_law_row", "_law_due", "_law_one", "_law_paper", "_law_others", "_law_odd", "_law_value", "_law_by"] "_law_row_right" (defScope s__law_row_right) f cdv A outer s H E).calm = true := rfl
  exact ⟨_, (pssd_cons (psd_set (i := 2) nd rfl (by first | exact .inl rfl | exact .inr rfl) pd_int)
    (pssd_cons (psd_for hp hc (pid_tup (pd_var (pv 1))) (pgd_name (i := 3) nd rfl (by first | exact .inl rfl | exact .inr rfl)) (pssd_one (psd_set (i := 2) nd rfl (by first | exact .inl rfl | exact .inr rfl) (pd_callD (d__law_common T) (hr.mono (by decide)) (by rfl) hx (pad_cons (pd_var (pv 2)) (pad_cons (pd_var (pv 3)) pad_nil))))))
    (pssd_cons (psd_set (i := 4) nd rfl (by first | exact .inl rfl | exact .inr rfl) (pd_callD (d_gcd_row_paper T) (hr.mono (by decide)) (by rfl) hx (pad_cons (pd_var (pv 1)) pad_nil)))
    (pssd_cons (psd_if (PWD.pt (pwd_or (ptd_not (ptd_truth (pd_isi (T := "tuple") (pd_var (pv 4)) (by rfl) T.b_isinstance (by rfl) T.b_tuple bb_tuple))) (pwd_or (ptd_cmp (op_neX hu) opD_ne (pd_callB call_len_seq callD_len (by rfl) T.b_len bb_len (pad_cons (pd_var (pv 4)) pad_nil)) pd_int (nomark _)) (pwd_or (ptd_not (ptd_truth (pd_callD (d__law_integers T) (hr.mono (by decide)) (by rfl) hx (pad_cons (pd_slice (pd_var (pv 4)) pod_none (pod_some pd_int)) (pad_cons pd_int pad_nil))))) (pwd_or1 (ptd_cmp (op_neX hu) opD_ne (pd_ix ixR_D opD_ix (pd_var (pv 4)) pd_int (fun _ _ => rfl)) (pd_var (pv 2)) (nomark _))))))) (pssd_one (psd_ret pd_bl)) pssd_nil)
    (pssd_cons (psd_if (PWD.pt (pwd_or (ptd_not (ptd_truth (pd_callD (d__law_integers T) (hr.mono (by decide)) (by rfl) hx (pad_cons (pd_ix ixR_D opD_ix (pd_var (pv 4)) pd_int (fun _ _ => rfl)) (pad_cons (pd_callB call_len_seq callD_len (by rfl) T.b_len bb_len (pad_cons (pd_var (pv 1)) pad_nil)) pad_nil))))) (pwd_or (ptd_not (ptd_truth (pd_callD (d__law_integers T) (hr.mono (by decide)) (by rfl) hx (pad_cons (pd_ix ixR_D opD_ix (pd_var (pv 4)) pd_int (fun _ _ => rfl)) (pad_cons (pd_callB call_len_seq callD_len (by rfl) T.b_len bb_len (pad_cons (pd_var (pv 1)) pad_nil)) pad_nil))))) (pwd_or1 (ptd_not (ptd_truth (pd_callD (d__law_is_row T) (hr.mono (by decide)) (by rfl) hx (pad_cons (pd_var (pv 1)) (pad_cons (pd_var (pv 4)) pad_nil))))))))) (pssd_one (psd_ret pd_bl)) pssd_nil)
    (pssd_cons (psd_setO (i := 5) nd rfl (by first | exact .inl rfl | exact .inr rfl) (pf_lst (pad_cons (pd_var (pv 4)) (pad_cons (pd_tup (pad_cons (pd_var (pv 2)) (pad_cons (pd_callD (d__law_spoilt T) (hr.mono (by decide)) (by rfl) hx (pad_cup (pv 0) (pad_cons (pd_ix ixR_D opD_ix (pd_var (pv 4)) pd_int (fun _ _ => rfl)) pad_nil))) (pad_cons (pd_ix ixR_D opD_ix (pd_var (pv 4)) pd_int (fun _ _ => rfl)) pad_nil)))) (pad_cons (pd_tup (pad_cons (pd_var (pv 2)) (pad_cons (pd_ix ixR_D opD_ix (pd_var (pv 4)) pd_int (fun _ _ => rfl)) (pad_cons (pd_callD (d__law_spoilt T) (hr.mono (by decide)) (by rfl) hx (pad_cup (pv 0) (pad_cons (pd_ix ixR_D opD_ix (pd_var (pv 4)) pd_int (fun _ _ => rfl)) pad_nil))) pad_nil)))) (pad_cons (pd_op op_addD opD_add (pd_tup (pad_cons (pd_op op_addD opD_add (pd_var (pv 2)) pd_int) pad_nil)) (pd_slice (pd_var (pv 4)) (pod_some pd_int) pod_none)) pad_nil))))))
    (pssd_cons (psd_append (pv 5) (pd_tup (pad_cons (pd_op op_mulD opD_mul (pd_var (pv 2)) pd_int) (pad_cons (pd_callTy call_tuple_of callD_tuple (by rfl) T.b_tuple bb_tuple (pad_cons (PFD.toD (pf_lc (own := [("_law_by", 8)]) (ws := [8]) hc nd (pid_tup (pd_ix ixR_D opD_ix (pd_var (pv 4)) pd_int (fun _ _ => rfl))) (blkOk_by (N := ["_law_cup_here", "_law_row", "_law_due", "_law_one", "_law_paper", "_law_others", "_law_odd", "_law_value", "_law_by"]) (sc := defScope s__law_row_right) (by decide +kernel)) (fun _ _ _ _ _ => ⟨_, by exact (pgd_name (i := 8) nd rfl (by first | exact .inl rfl | exact .inr rfl))⟩) (fun _ _ _ _ _ => ⟨_, by exact ptsd_nil⟩) (fun _ _ _ _ _ => ⟨_, by exact (pd_op op_mulD opD_mul (pd_var (pv 8)) pd_int)⟩))) pad_nil)) (pad_cons (pd_ix ixR_D opD_ix (pd_var (pv 4)) pd_int (fun _ _ => rfl)) pad_nil)))) (fun h => pe_bm PySem.F.plainAttrs_list PySem.F.slot_list_append PySem.F.type_list_append mt_append (pv 5) h))
    (pssd_frz 5 (pssd_cons (psd_if (ptd_cmp (op_neX hu) opD_ne (PFD.toD (pf_lc (own := [("_law_value", 7)]) (ws := [7]) hc nd (pid_lst (pd_var (pv 5))) (blkOk_by (N := ["_law_cup_here", "_law_row", "_law_due", "_law_one", "_law_paper", "_law_others", "_law_odd", "_law_value", "_law_by"]) (sc := defScope s__law_row_right) (by decide +kernel)) (fun _ _ _ _ _ => ⟨_, by exact (pgd_name (i := 7) nd rfl (by first | exact .inl rfl | exact .inr rfl))⟩) (fun _ _ _ _ _ => ⟨_, by exact (ptsd_one (ptd_not (ptd_truth (pd_callD (d__law_same T) (hr.mono (by decide)) (by rfl) passL (pad_cons (pd_callD (d_takes_gcd_row T) (hr.mono (by decide)) (by rfl) passL (pad_cons (pd_var (pv 1)) (pad_cons (pd_var (pv 7)) pad_nil))) (pad_cons (pd_callD (d__law_is_row T) (hr.mono (by decide)) (by rfl) passL (pad_cons (pd_var (pv 1)) (pad_cons (pd_var (pv 7)) pad_nil))) pad_nil))))))⟩) (fun _ _ _ _ _ => ⟨_, by exact pd_int⟩))) (pd_lst pad_nil) (nomark _)) (pssd_one (psd_ret pd_bl)) pssd_nil)
    (pssd_cons (psd_set (i := 6) nd rfl (by first | exact .inl rfl | exact .inr rfl) (pd_lst (pad_cons (pd_tup (pad_cons (pd_var (pv 2)) (pad_cons (pd_slice (pd_ix ixR_D opD_ix (pd_var (pv 4)) pd_int (fun _ _ => rfl)) (pod_some pd_int) pod_none) (pad_cons (pd_ix ixR_D opD_ix (pd_var (pv 4)) pd_int (fun _ _ => rfl)) pad_nil)))) (pad_cons (pd_tup (pad_cons (pd_var (pv 2)) (pad_cons (pd_ix ixR_D opD_ix (pd_var (pv 4)) pd_int (fun _ _ => rfl)) (pad_cons (pd_op op_addD opD_add (pd_ix ixR_D opD_ix (pd_var (pv 4)) pd_int (fun _ _ => rfl)) (pd_tup (pad_cons pd_int pad_nil))) pad_nil)))) (pad_cons (pd_tup (pad_cons (pd_var (pv 2)) (pad_cons (pd_callTy call_list_of callD_list (by rfl) T.b_list bb_list (pad_cons (pd_ix ixR_D opD_ix (pd_var (pv 4)) pd_int (fun _ _ => rfl)) pad_nil)) (pad_cons (pd_ix ixR_D opD_ix (pd_var (pv 4)) pd_int (fun _ _ => rfl)) pad_nil)))) (pad_cons (pd_slice (pd_var (pv 4)) pod_none (pod_some pd_int)) (pad_cons pd_non pad_nil)))))))
    (pssd_one (psd_ret (pd_cmp (op_eqX hu) opD_eq (PFD.toD (pf_lc (own := [("_law_value", 7)]) (ws := [7]) hc nd (pid_lst (pd_var (pv 6))) (blkOk_by (N := ["_law_cup_here", "_law_row", "_law_due", "_law_one", "_law_paper", "_law_others", "_law_odd", "_law_value", "_law_by"]) (sc := defScope s__law_row_right) (by decide +kernel)) (fun _ _ _ _ _ => ⟨_, by exact (pgd_name (i := 7) nd rfl (by first | exact .inl rfl | exact .inr rfl))⟩) (fun _ _ _ _ _ => ⟨_, by exact (ptsd_one (ptd_not (ptd_truth (pd_callD (d__law_same T) (hr.mono (by decide)) (by rfl) passL (pad_cons (pd_callD (d_takes_gcd_row T) (hr.mono (by decide)) (by rfl) passL (pad_cons (pd_var (pv 1)) (pad_cons (pd_var (pv 7)) pad_nil))) (pad_cons pd_bl pad_nil))))))⟩) (fun _ _ _ _ _ => ⟨_, by exact pd_int⟩))) (pd_lst pad_nil) (nomark _))))))))))))))⟩
theorem sc__law_written : FnScope ["_law_told", "_law_odd", "_law_value"] [] (defScope s__law_written) := ⟨rfl, rfl, rfl, by decide +kernel, rfl, by decide +kernel, by decide +kernel⟩
def le__law_written_0 : GE := (gVar 2)
def lt__law_written_0 : GT := (gBool (gBin dIsNot (gApp 2 G_takes_gcd_row (gaCons (gDisp .tuple (gaCons (gC (.int 1)) gaNil)) (gaCons (gVar 2) gaNil))) (gC (.bool false))))
def le__law_written_1 : GE := (gApp 3 G_takes_gcd (gaCons (gC (.int 1)) (gaCons (gC (.int 0)) (gaCons (gVar 2) gaNil))))
def le__law_written_2 : GE := (gApp 3 G_takes_lcm (gaCons (gC (.int 1)) (gaCons (gC (.int 0)) (gaCons (gVar 2) gaNil))))
def ta__law_written_0 : GS := (gRet (gAndV (gBin dEq (gVar 0) (gBin dMul (gDisp .list (gaCons (gC (.bool false)) gaNil)) (gC (.int 16)))) (gAndV (gBin dIs (gApp 3 G_takes_gcd (gaCons (gC (.int 1)) (gaCons (gC (.int 0)) (gaCons (gDisp .tuple (gaCons (gC (.int 1)) (gaCons (gC (.int 1)) (gaCons (gC (.int 0)) (gaCons (gC (.int 1)) (gaCons (gC (.int 0)) gaNil)))))) gaNil)))) (gC (.bool true))) (gBin dEq (gBin dIx (gApp 1 G_gcd_row_paper (gaCons (gDisp .tuple (gaCons (gC (.int 0)) (gaCons (gC (.int 0)) gaNil))) gaNil)) (gC (.int 0))) (gC (.int 0))))))
def ta__law_written_1 : GS := (gSeq (gSet 0 (gBin dAdd (gL (gLc (giLst (gVar 1)) [2] (ggName 2) gYes le__law_written_1)) (gL (gLc (giLst (gVar 1)) [2] (ggName 2) gYes le__law_written_2))))
    ta__law_written_0)
def ta__law_written_2 : GS := (gSeq (gSet 1 (gDisp .list (gaCons (gC .none) (gaCons (gDisp .tuple gaNil) (gaCons (gDisp .list (gaCons (gC (.int 1)) (gaCons (gC (.int 1)) (gaCons (gC (.int 0)) (gaCons (gC (.int 1)) (gaCons (gC (.int 0)) gaNil)))))) (gaCons (gC (.str (PySem.Str.ofString "paper"))) (gaCons (gDisp .tuple (gaCons (gC (.bool true)) (gaCons (gC (.int 1)) (gaCons (gC (.int 0)) (gaCons (gC (.int 1)) (gaCons (gC (.int 0)) gaNil)))))) (gaCons (gDisp .tuple (gaCons (gC (.int 1)) (gaCons (gC (.int 1)) (gaCons (gC (.int 0)) (gaCons (gC (.int 1)) (gaCons (gC (.int 0)) (gaCons (gC (.int 0)) gaNil))))))) (gaCons (gDisp .tuple (gaCons (gDisp .tuple (gaCons (gC (.int 1)) gaNil)) (gaCons (gC (.int 1)) (gaCons (gC (.int 0)) (gaCons (gC (.int 1)) (gaCons (gC (.int 0)) gaNil)))))) (gaCons (gDisp .tuple (gaCons (gC (.int 1)) (gaCons (gC (.bool true)) (gaCons (gC (.int 0)) (gaCons (gC (.int 1)) (gaCons (gC (.int 0)) gaNil)))))) gaNil))))))))))
    ta__law_written_1)
def ta__law_written_3 : GS := (gSeq (gIf (gBool (gBin dNe (gL (gLc (giLst (gVar 1)) [2] (ggName 2) lt__law_written_0 le__law_written_0)) (gDisp .list gaNil))) (gRet (gC (.bool false))) gSkip)
    ta__law_written_2)
def ta__law_written_4 : GS := (gSeq (gSet 1 (gBin dAdd (gVar 1) (gDisp .list (gaCons (gDisp .tuple (gaCons (gC (.int 1)) (gaCons (gDisp .tuple (gaCons (gC (.int 1)) gaNil)) (gaCons (gC .none) gaNil)))) (gaCons (gDisp .tuple (gaCons (gC (.int 1)) (gaCons (gDisp .tuple (gaCons (gC (.int 1)) gaNil)) (gaCons (gDisp .list (gaCons (gC (.int 1)) gaNil)) gaNil)))) (gaCons (gDisp .tuple (gaCons (gC (.int 1)) (gaCons (gDisp .tuple (gaCons (gC (.bool true)) gaNil)) (gaCons (gDisp .tuple (gaCons (gC (.int 1)) gaNil)) gaNil)))) (gaCons (gDisp .tuple (gaCons (gC (.int 1)) (gaCons (gDisp .tuple (gaCons (gC (.int 1)) gaNil)) (gaCons (gDisp .tuple (gaCons (gC .none) gaNil)) gaNil)))) gaNil)))))))
    ta__law_written_3)
def ta__law_written_5 : GS := (gSeq (gSet 1 (gDisp .list (gaCons (gDisp .tuple (gaCons (gC (.bool true)) (gaCons (gDisp .tuple (gaCons (gC (.int 1)) gaNil)) (gaCons (gDisp .tuple (gaCons (gC (.int 1)) gaNil)) gaNil)))) (gaCons (gDisp .tuple (gaCons (gC .none) (gaCons (gDisp .tuple (gaCons (gC (.int 1)) gaNil)) (gaCons (gDisp .tuple (gaCons (gC (.int 1)) gaNil)) gaNil)))) (gaCons (gDisp .tuple (gaCons (gC (.str (PySem.Str.ofString "1"))) (gaCons (gDisp .tuple (gaCons (gC (.int 1)) gaNil)) (gaCons (gDisp .tuple (gaCons (gC (.int 1)) gaNil)) gaNil)))) (gaCons (gDisp .tuple (gaCons (gC (.int 1)) (gaCons (gC .none) (gaCons (gDisp .tuple (gaCons (gC (.int 1)) gaNil)) gaNil)))) gaNil))))))
    ta__law_written_4)
def ta__law_written_6 : GS := (gSeq (gIf (gBool (gBin dNe (gVar 0) (gDisp .list (gaCons (gC (.bool false)) (gaCons (gC (.bool false)) (gaCons (gC (.bool true)) gaNil)))))) (gRet (gC (.bool false))) gSkip)
    ta__law_written_5)
def ta__law_written_7 : GS := (gSeq (gSet 0 (gDisp .list (gaCons (gApp 3 G_takes_lcm (gaCons (gC (.int 4)) (gaCons (gC (.int 6)) (gaCons (gDisp .tuple (gaCons (gUn dNeg (gC (.int 12))) (gaCons (gUn dNeg (gC (.int 3))) (gaCons (gUn dNeg (gC (.int 2))) (gaCons (gUn dNeg (gC (.int 1))) (gaCons (gC (.int 1)) gaNil)))))) gaNil)))) (gaCons (gApp 2 G_takes_gcd_row (gaCons (gDisp .tuple (gaCons (gC (.int 1)) gaNil)) (gaCons (gDisp .tuple (gaCons (gUn dNeg (gC (.int 1))) (gaCons (gDisp .tuple (gaCons (gUn dNeg (gC (.int 1))) gaNil)) (gaCons (gDisp .tuple (gaCons (gUn dNeg (gC (.int 1))) gaNil)) gaNil)))) gaNil))) (gaCons (gApp 2 G_takes_gcd_row (gaCons (gDisp .tuple (gaCons (gC (.int 1)) gaNil)) (gaCons (gDisp .tuple (gaCons (gC (.int 1)) (gaCons (gDisp .tuple (gaCons (gC (.int 1)) gaNil)) (gaCons (gDisp .tuple (gaCons (gC (.int 1)) gaNil)) gaNil)))) gaNil))) gaNil)))))
    ta__law_written_6)
def ta__law_written_8 : GS := (gSeq (gIf (gBool (gBin dNe (gVar 0) (gDisp .list (gaCons (gC (.bool true)) (gaCons (gC (.bool true)) (gaCons (gC (.bool false)) (gaCons (gC (.bool false)) (gaCons (gC (.bool false)) (gaCons (gC (.bool true)) (gaCons (gC (.bool true)) (gaCons (gC (.bool false)) (gaCons (gC (.bool true)) (gaCons (gC (.bool true)) (gaCons (gC (.bool false)) gaNil)))))))))))))) (gRet (gC (.bool false))) gSkip)
    ta__law_written_7)
def ta__law_written_9 : GS := (gSeq (gSet 0 (gBin dAdd (gVar 0) (gDisp .list (gaCons (gApp 2 G_takes_gcd_row (gaCons (gDisp .tuple (gaCons (gC (.int 6)) (gaCons (gC (.int 10)) (gaCons (gC (.int 15)) gaNil)))) (gaCons (gDisp .tuple (gaCons (gC (.int 1)) (gaCons (gDisp .tuple (gaCons (gC (.int 1)) (gaCons (gC (.int 1)) (gaCons (gUn dNeg (gC (.int 1))) gaNil)))) (gaCons (gDisp .tuple (gaCons (gC (.int 6)) (gaCons (gC (.int 10)) (gaCons (gC (.int 15)) gaNil)))) gaNil)))) gaNil))) (gaCons (gApp 2 G_takes_gcd_row (gaCons (gDisp .tuple (gaCons (gC (.int 6)) (gaCons (gC (.int 10)) (gaCons (gC (.int 15)) gaNil)))) (gaCons (gDisp .tuple (gaCons (gC (.int 1)) (gaCons (gDisp .tuple (gaCons (gC (.int 1)) (gaCons (gC (.int 1)) (gaCons (gC (.int 1)) gaNil)))) (gaCons (gDisp .tuple (gaCons (gC (.int 6)) (gaCons (gC (.int 10)) (gaCons (gC (.int 15)) gaNil)))) gaNil)))) gaNil))) gaNil)))))
    ta__law_written_8)
def ta__law_written_10 : GS := (gSeq (gSet 0 (gBin dAdd (gVar 0) (gDisp .list (gaCons (gApp 3 G_takes_lcm (gaCons (gC (.int 4)) (gaCons (gC (.int 6)) (gaCons (gDisp .tuple (gaCons (gC (.int 12)) (gaCons (gC (.int 3)) (gaCons (gC (.int 2)) (gaCons (gC (.int 1)) (gaCons (gUn dNeg (gC (.int 1))) gaNil)))))) gaNil)))) (gaCons (gApp 3 G_takes_lcm (gaCons (gC (.int 4)) (gaCons (gC (.int 6)) (gaCons (gDisp .tuple (gaCons (gC (.int 24)) (gaCons (gC (.int 6)) (gaCons (gC (.int 4)) (gaCons (gC (.int 1)) (gaCons (gUn dNeg (gC (.int 1))) gaNil)))))) gaNil)))) (gaCons (gApp 3 G_takes_lcm (gaCons (gC (.int 0)) (gaCons (gC (.int 3)) (gaCons (gDisp .tuple (gaCons (gC (.int 0)) (gaCons (gC (.int 1)) (gaCons (gC (.int 0)) (gaCons (gC (.int 1)) (gaCons (gC (.int 5)) gaNil)))))) gaNil)))) gaNil))))))
    ta__law_written_9)
def ta__law_written_11 : GS := (gSeq (gSet 0 (gBin dAdd (gVar 0) (gDisp .list (gaCons (gApp 3 G_takes_gcd (gaCons (gC (.int 12)) (gaCons (gC (.int 18)) (gaCons (gDisp .tuple (gaCons (gC (.int 6)) (gaCons (gUn dNeg (gC (.int 1))) (gaCons (gC (.int 1)) (gaCons (gC (.int 2)) (gaCons (gC (.int 4)) gaNil)))))) gaNil)))) (gaCons (gApp 3 G_takes_gcd (gaCons (gC (.int 12)) (gaCons (gC (.int 18)) (gaCons (gDisp .tuple (gaCons (gC (.int 12)) (gaCons (gUn dNeg (gC (.int 2))) (gaCons (gC (.int 2)) (gaCons (gC (.int 1)) (gaCons (gC (.int 1)) gaNil)))))) gaNil)))) (gaCons (gApp 3 G_takes_gcd (gaCons (gC (.int 0)) (gaCons (gC (.int 0)) (gaCons (gDisp .tuple (gaCons (gC (.int 0)) (gaCons (gC (.int 5)) (gaCons (gC (.int 7)) (gaCons (gC (.int 3)) (gaCons (gUn dNeg (gC (.int 2))) gaNil)))))) gaNil)))) gaNil))))))
    ta__law_written_10)
def ta__law_written_12 : GS := (gSeq (gSet 0 (gDisp .list (gaCons (gApp 3 G_takes_gcd (gaCons (gC (.int 12)) (gaCons (gC (.int 18)) (gaCons (gDisp .tuple (gaCons (gC (.int 6)) (gaCons (gUn dNeg (gC (.int 1))) (gaCons (gC (.int 1)) (gaCons (gC (.int 2)) (gaCons (gC (.int 3)) gaNil)))))) gaNil)))) (gaCons (gApp 3 G_takes_gcd (gaCons (gC (.int 12)) (gaCons (gC (.int 18)) (gaCons (gDisp .tuple (gaCons (gC (.int 6)) (gaCons (gC (.int 2)) (gaCons (gUn dNeg (gC (.int 1))) (gaCons (gC (.int 2)) (gaCons (gC (.int 3)) gaNil)))))) gaNil)))) (gaCons (gApp 3 G_takes_gcd (gaCons (gC (.int 12)) (gaCons (gC (.int 18)) (gaCons (gDisp .tuple (gaCons (gUn dNeg (gC (.int 6))) (gaCons (gC (.int 1)) (gaCons (gUn dNeg (gC (.int 1))) (gaCons (gUn dNeg (gC (.int 2))) (gaCons (gUn dNeg (gC (.int 3))) gaNil)))))) gaNil)))) gaNil)))))
    ta__law_written_11)
def g__law_written : GS := (gSeq (gIf (gOr (gBool (gBin dNe (gApp 2 G_gcd_paper (gaCons (gC (.int 0)) (gaCons (gC (.int 0)) gaNil))) (gDisp .tuple (gaCons (gC (.int 0)) (gaCons (gC (.int 0)) (gaCons (gC (.int 0)) (gaCons (gC (.int 0)) (gaCons (gC (.int 0)) gaNil)))))))) (gOr (gBool (gBin dNe (gBin dIx (gApp 2 G_gcd_paper (gaCons (gC (.int 12)) (gaCons (gUn dNeg (gC (.int 18))) gaNil))) (gC (.int 0))) (gC (.int 6)))) (gOr (gBool (gBin dNe (gBin dIx (gApp 2 G_gcd_paper (gaCons (gC (.int 0)) (gaCons (gUn dNeg (gC (.int 7))) gaNil))) (gC (.int 0))) (gC (.int 7)))) (gBool (gBin dNe (gBin dIx (gApp 2 G_lcm_paper (gaCons (gC (.int 4)) (gaCons (gUn dNeg (gC (.int 6))) gaNil))) (gC (.int 0))) (gC (.int 12))))))) (gRet (gC (.bool false))) gSkip)
    ta__law_written_12)
def G__law_written : GF := gFn 3 g__law_written
theorem d__law_written (T : Txt P w F mg base K) : DefOk P w F mg base K "_law_written" 7 0 G__law_written := by
  obtain ⟨f, fd, Fn, hm, hb⟩ := T.f__law_written
  refine ⟨f, fd, [], ok_def (N := ["_law_told", "_law_odd", "_law_value"]) (g := g__law_written) Fn sc__law_written ?body, hm, Fn.kp, hb⟩
  intro cdv A outer s H E hr
  have nd := sc__law_written.nd
  have hu := hr.units
  have tk : Takes (cxOf (L2.CX P w) P w F mg base ["_law_told", "_law_odd", "_law_value"] "_law_written" (defScope s__law_written) f cdv A outer s H E) (fun cls d _ H => E cls d H) := takes_of rfl rfl rfl rfl
  have hx : Passes (L2.CX P w) (cxOf (L2.CX P w) P w F mg base ["_law_told", "_law_odd", "_law_value"] "_law_written" (defScope s__law_written) f cdv A outer s H E) E := passes_call tk fun _ _ _ _ h => h
  have hp : PassesOwn (model P w) (cxOf (L2.CX P w) P w F mg base ["_law_told", "_law_odd", "_law_value"] "_law_written" (defScope s__law_written) f cdv A outer s H E).A (cxOf (L2.CX P w) P w F mg base ["_law_told", "_law_odd", "_law_value"] "_law_written" (defScope s__law_written) f cdv A outer s H E).env (cxOf (L2.CX P w) P w F mg base ["_law_told", "_law_odd", "_law_value"] "_law_written" (defScope s__law_written) f cdv A outer s H E).xe := passes_of rfl
  have hc : (cxOf (L2.CX P w) P w F mg base ["_law_told", "_law_odd", "_law_value"] "_law_written" (defScope s__law_written) f cdv A outer s H E).calm = true := rfl
  exact ⟨_, (pssd_cons (psd_if (PWD.pt (pwd_or (ptd_cmp (op_neX hu) opD_ne (pd_callD (d_gcd_paper T) (hr.mono (by decide)) (by rfl) hx (pad_cons pd_int (pad_cons pd_int pad_nil))) (pd_tup (pad_cons pd_int (pad_cons pd_int (pad_cons pd_int (pad_cons pd_int (pad_cons pd_int pad_nil)))))) (nomark _)) (pwd_or (ptd_cmp (op_neX hu) opD_ne (pd_ix ixR_D opD_ix (pd_callD (d_gcd_paper T) (hr.mono (by decide)) (by rfl) hx (pad_cons pd_int (pad_cons (pd_neg pd_int) pad_nil))) pd_int (fun _ _ => rfl)) pd_int (nomark _)) (pwd_or (ptd_cmp (op_neX hu) opD_ne (pd_ix ixR_D opD_ix (pd_callD (d_gcd_paper T) (hr.mono (by decide)) (by rfl) hx (pad_cons pd_int (pad_cons (pd_neg pd_int) pad_nil))) pd_int (fun _ _ => rfl)) pd_int (nomark _)) (pwd_or1 (ptd_cmp (op_neX hu) opD_ne (pd_ix ixR_D opD_ix (pd_callD (d_lcm_paper T) (hr.mono (by decide)) (by rfl) hx (pad_cons pd_int (pad_cons (pd_neg pd_int) pad_nil))) pd_int (fun _ _ => rfl)) pd_int (nomark _))))))) (pssd_one (psd_ret pd_bl)) pssd_nil)
    (pssd_cons (psd_set (i := 0) nd rfl (by first | exact .inl rfl | exact .inr rfl) (pd_lst (pad_cons (pd_callD (d_takes_gcd T) (hr.mono (by decide)) (by rfl) hx (pad_cons pd_int (pad_cons pd_int (pad_cons (pd_tup (pad_cons pd_int (pad_cons (pd_neg pd_int) (pad_cons pd_int (pad_cons pd_int (pad_cons pd_int pad_nil)))))) pad_nil)))) (pad_cons (pd_callD (d_takes_gcd T) (hr.mono (by decide)) (by rfl) hx (pad_cons pd_int (pad_cons pd_int (pad_cons (pd_tup (pad_cons pd_int (pad_cons pd_int (pad_cons (pd_neg pd_int) (pad_cons pd_int (pad_cons pd_int pad_nil)))))) pad_nil)))) (pad_cons (pd_callD (d_takes_gcd T) (hr.mono (by decide)) (by rfl) hx (pad_cons pd_int (pad_cons pd_int (pad_cons (pd_tup (pad_cons (pd_neg pd_int) (pad_cons pd_int (pad_cons (pd_neg pd_int) (pad_cons (pd_neg pd_int) (pad_cons (pd_neg pd_int) pad_nil)))))) pad_nil)))) pad_nil)))))
    (pssd_cons (psd_set (i := 0) nd rfl (by first | exact .inl rfl | exact .inr rfl) (pd_op op_addD opD_add (pd_var (pv 0)) (pd_lst (pad_cons (pd_callD (d_takes_gcd T) (hr.mono (by decide)) (by rfl) hx (pad_cons pd_int (pad_cons pd_int (pad_cons (pd_tup (pad_cons pd_int (pad_cons (pd_neg pd_int) (pad_cons pd_int (pad_cons pd_int (pad_cons pd_int pad_nil)))))) pad_nil)))) (pad_cons (pd_callD (d_takes_gcd T) (hr.mono (by decide)) (by rfl) hx (pad_cons pd_int (pad_cons pd_int (pad_cons (pd_tup (pad_cons pd_int (pad_cons (pd_neg pd_int) (pad_cons pd_int (pad_cons pd_int (pad_cons pd_int pad_nil)))))) pad_nil)))) (pad_cons (pd_callD (d_takes_gcd T) (hr.mono (by decide)) (by rfl) hx (pad_cons pd_int (pad_cons pd_int (pad_cons (pd_tup (pad_cons pd_int (pad_cons pd_int (pad_cons pd_int (pad_cons pd_int (pad_cons (pd_neg pd_int) pad_nil)))))) pad_nil)))) pad_nil))))))
    (pssd_cons (psd_set (i := 0) nd rfl (by first | exact .inl rfl | exact .inr rfl) (pd_op op_addD opD_add (pd_var (pv 0)) (pd_lst (pad_cons (pd_callD (d_takes_lcm T) (hr.mono (by decide)) (by rfl) hx (pad_cons pd_int (pad_cons pd_int (pad_cons (pd_tup (pad_cons pd_int (pad_cons pd_int (pad_cons pd_int (pad_cons pd_int (pad_cons (pd_neg pd_int) pad_nil)))))) pad_nil)))) (pad_cons (pd_callD (d_takes_lcm T) (hr.mono (by decide)) (by rfl) hx (pad_cons pd_int (pad_cons pd_int (pad_cons (pd_tup (pad_cons pd_int (pad_cons pd_int (pad_cons pd_int (pad_cons pd_int (pad_cons (pd_neg pd_int) pad_nil)))))) pad_nil)))) (pad_cons (pd_callD (d_takes_lcm T) (hr.mono (by decide)) (by rfl) hx (pad_cons pd_int (pad_cons pd_int (pad_cons (pd_tup (pad_cons pd_int (pad_cons pd_int (pad_cons pd_int (pad_cons pd_int (pad_cons pd_int pad_nil)))))) pad_nil)))) pad_nil))))))
    (pssd_cons (psd_set (i := 0) nd rfl (by first | exact .inl rfl | exact .inr rfl) (pd_op op_addD opD_add (pd_var (pv 0)) (pd_lst (pad_cons (pd_callD (d_takes_gcd_row T) (hr.mono (by decide)) (by rfl) hx (pad_cons (pd_tup (pad_cons pd_int (pad_cons pd_int (pad_cons pd_int pad_nil)))) (pad_cons (pd_tup (pad_cons pd_int (pad_cons (pd_tup (pad_cons pd_int (pad_cons pd_int (pad_cons (pd_neg pd_int) pad_nil)))) (pad_cons (pd_tup (pad_cons pd_int (pad_cons pd_int (pad_cons pd_int pad_nil)))) pad_nil)))) pad_nil))) (pad_cons (pd_callD (d_takes_gcd_row T) (hr.mono (by decide)) (by rfl) hx (pad_cons (pd_tup (pad_cons pd_int (pad_cons pd_int (pad_cons pd_int pad_nil)))) (pad_cons (pd_tup (pad_cons pd_int (pad_cons (pd_tup (pad_cons pd_int (pad_cons pd_int (pad_cons pd_int pad_nil)))) (pad_cons (pd_tup (pad_cons pd_int (pad_cons pd_int (pad_cons pd_int pad_nil)))) pad_nil)))) pad_nil))) pad_nil)))))
    (pssd_cons (psd_if (ptd_cmp (op_neX hu) opD_ne (pd_var (pv 0)) (pd_lst (pad_cons pd_bl (pad_cons pd_bl (pad_cons pd_bl (pad_cons pd_bl (pad_cons pd_bl (pad_cons pd_bl (pad_cons pd_bl (pad_cons pd_bl (pad_cons pd_bl (pad_cons pd_bl (pad_cons pd_bl pad_nil)))))))))))) (nomark _)) (pssd_one (psd_ret pd_bl)) pssd_nil)
    (pssd_cons (psd_set (i := 0) nd rfl (by first | exact .inl rfl | exact .inr rfl) (pd_lst (pad_cons (pd_callD (d_takes_lcm T) (hr.mono (by decide)) (by rfl) hx (pad_cons pd_int (pad_cons pd_int (pad_cons (pd_tup (pad_cons (pd_neg pd_int) (pad_cons (pd_neg pd_int) (pad_cons (pd_neg pd_int) (pad_cons (pd_neg pd_int) (pad_cons pd_int pad_nil)))))) pad_nil)))) (pad_cons (pd_callD (d_takes_gcd_row T) (hr.mono (by decide)) (by rfl) hx (pad_cons (pd_tup (pad_cons pd_int pad_nil)) (pad_cons (pd_tup (pad_cons (pd_neg pd_int) (pad_cons (pd_tup (pad_cons (pd_neg pd_int) pad_nil)) (pad_cons (pd_tup (pad_cons (pd_neg pd_int) pad_nil)) pad_nil)))) pad_nil))) (pad_cons (pd_callD (d_takes_gcd_row T) (hr.mono (by decide)) (by rfl) hx (pad_cons (pd_tup (pad_cons pd_int pad_nil)) (pad_cons (pd_tup (pad_cons pd_int (pad_cons (pd_tup (pad_cons pd_int pad_nil)) (pad_cons (pd_tup (pad_cons pd_int pad_nil)) pad_nil)))) pad_nil))) pad_nil)))))
    (pssd_cons (psd_if (ptd_cmp (op_neX hu) opD_ne (pd_var (pv 0)) (pd_lst (pad_cons pd_bl (pad_cons pd_bl (pad_cons pd_bl pad_nil)))) (nomark _)) (pssd_one (psd_ret pd_bl)) pssd_nil)
    (pssd_cons (psd_set (i := 1) nd rfl (by first | exact .inl rfl | exact .inr rfl) (pd_lst (pad_cons (pd_tup (pad_cons pd_bl (pad_cons (pd_tup (pad_cons pd_int pad_nil)) (pad_cons (pd_tup (pad_cons pd_int pad_nil)) pad_nil)))) (pad_cons (pd_tup (pad_cons pd_non (pad_cons (pd_tup (pad_cons pd_int pad_nil)) (pad_cons (pd_tup (pad_cons pd_int pad_nil)) pad_nil)))) (pad_cons (pd_tup (pad_cons pd_str (pad_cons (pd_tup (pad_cons pd_int pad_nil)) (pad_cons (pd_tup (pad_cons pd_int pad_nil)) pad_nil)))) (pad_cons (pd_tup (pad_cons pd_int (pad_cons pd_non (pad_cons (pd_tup (pad_cons pd_int pad_nil)) pad_nil)))) pad_nil))))))
    (pssd_cons (psd_set (i := 1) nd rfl (by first | exact .inl rfl | exact .inr rfl) (pd_op op_addD opD_add (pd_var (pv 1)) (pd_lst (pad_cons (pd_tup (pad_cons pd_int (pad_cons (pd_tup (pad_cons pd_int pad_nil)) (pad_cons pd_non pad_nil)))) (pad_cons (pd_tup (pad_cons pd_int (pad_cons (pd_tup (pad_cons pd_int pad_nil)) (pad_cons (pd_lst (pad_cons pd_int pad_nil)) pad_nil)))) (pad_cons (pd_tup (pad_cons pd_int (pad_cons (pd_tup (pad_cons pd_bl pad_nil)) (pad_cons (pd_tup (pad_cons pd_int pad_nil)) pad_nil)))) (pad_cons (pd_tup (pad_cons pd_int (pad_cons (pd_tup (pad_cons pd_int pad_nil)) (pad_cons (pd_tup (pad_cons pd_non pad_nil)) pad_nil)))) pad_nil)))))))
    (pssd_cons (psd_if (ptd_cmp (op_neX hu) opD_ne (PFD.toD (pf_lc (own := [("_law_value", 2)]) (ws := [2]) hc nd (pid_lst (pd_var (pv 1))) (blkOk_by (N := ["_law_told", "_law_odd", "_law_value"]) (sc := defScope s__law_written) (by decide +kernel)) (fun _ _ _ _ _ => ⟨_, by exact (pgd_name (i := 2) nd rfl (by first | exact .inl rfl | exact .inr rfl))⟩) (fun _ _ _ _ _ => ⟨_, by exact (ptsd_one (ptd_cmp op_notBl opD_isNot (pd_callD (d_takes_gcd_row T) (hr.mono (by decide)) (by rfl) passL (pad_cons (pd_tup (pad_cons pd_int pad_nil)) (pad_cons (pd_var (pv 2)) pad_nil))) pd_bl (nomark _)))⟩) (fun _ _ _ _ _ => ⟨_, by exact (pd_var (pv 2))⟩))) (pd_lst pad_nil) (nomark _)) (pssd_one (psd_ret pd_bl)) pssd_nil)
    (pssd_cons (psd_set (i := 1) nd rfl (by first | exact .inl rfl | exact .inr rfl) (pd_lst (pad_cons pd_non (pad_cons (pd_tup pad_nil) (pad_cons (pd_lst (pad_cons pd_int (pad_cons pd_int (pad_cons pd_int (pad_cons pd_int (pad_cons pd_int pad_nil)))))) (pad_cons pd_str (pad_cons (pd_tup (pad_cons pd_bl (pad_cons pd_int (pad_cons pd_int (pad_cons pd_int (pad_cons pd_int pad_nil)))))) (pad_cons (pd_tup (pad_cons pd_int (pad_cons pd_int (pad_cons pd_int (pad_cons pd_int (pad_cons pd_int (pad_cons pd_int pad_nil))))))) (pad_cons (pd_tup (pad_cons (pd_tup (pad_cons pd_int pad_nil)) (pad_cons pd_int (pad_cons pd_int (pad_cons pd_int (pad_cons pd_int pad_nil)))))) (pad_cons (pd_tup (pad_cons pd_int (pad_cons pd_bl (pad_cons pd_int (pad_cons pd_int (pad_cons pd_int pad_nil)))))) pad_nil))))))))))
    (pssd_cons (psd_set (i := 0) nd rfl (by first | exact .inl rfl | exact .inr rfl) (pd_op op_addD opD_add (PFD.toD (pf_lc (own := [("_law_value", 2)]) (ws := [2]) hc nd (pid_lst (pd_var (pv 1))) (blkOk_by (N := ["_law_told", "_law_odd", "_law_value"]) (sc := defScope s__law_written) (by decide +kernel)) (fun _ _ _ _ _ => ⟨_, by exact (pgd_name (i := 2) nd rfl (by first | exact .inl rfl | exact .inr rfl))⟩) (fun _ _ _ _ _ => ⟨_, by exact ptsd_nil⟩) (fun _ _ _ _ _ => ⟨_, by exact (pd_callD (d_takes_gcd T) (hr.mono (by decide)) (by rfl) passL (pad_cons pd_int (pad_cons pd_int (pad_cons (pd_var (pv 2)) pad_nil))))⟩))) (PFD.toD (pf_lc (own := [("_law_value", 2)]) (ws := [2]) hc nd (pid_lst (pd_var (pv 1))) (blkOk_by (N := ["_law_told", "_law_odd", "_law_value"]) (sc := defScope s__law_written) (by decide +kernel)) (fun _ _ _ _ _ => ⟨_, by exact (pgd_name (i := 2) nd rfl (by first | exact .inl rfl | exact .inr rfl))⟩) (fun _ _ _ _ _ => ⟨_, by exact ptsd_nil⟩) (fun _ _ _ _ _ => ⟨_, by exact (pd_callD (d_takes_lcm T) (hr.mono (by decide)) (by rfl) passL (pad_cons pd_int (pad_cons pd_int (pad_cons (pd_var (pv 2)) pad_nil))))⟩)))))
    (pssd_one (psd_ret (pd_and (pd_cmp (op_eqX hu) opD_eq (pd_var (pv 0)) (pd_op op_mulD opD_mul (pd_lst (pad_cons pd_bl pad_nil)) pd_int) (nomark _)) (pd_and (pd_cmp op_isBl opD_is (pd_callD (d_takes_gcd T) (hr.mono (by decide)) (by rfl) hx (pad_cons pd_int (pad_cons pd_int (pad_cons (pd_tup (pad_cons pd_int (pad_cons pd_int (pad_cons pd_int (pad_cons pd_int (pad_cons pd_int pad_nil)))))) pad_nil)))) pd_bl (nomark _)) (pd_one (pd_cmp (op_eqX hu) opD_eq (pd_ix ixR_D opD_ix (pd_callD (d_gcd_row_paper T) (hr.mono (by decide)) (by rfl) hx (pad_cons (pd_tup (pad_cons pd_int (pad_cons pd_int pad_nil))) pad_nil)) pd_int (fun _ _ => rfl)) pd_int (nomark _))))))))))))))))))))⟩
end
end Prog

set_option Elab.async false
set_option linter.all false
set_option maxRecDepth 100000
set_option maxHeartbeats 4000000
set_option autoImplicit false
namespace Prog
open PySem PySem.Spec PyProof.Rows L2 DL
section
variable {P : Program} {w : World} {F : PySem.W.Frag} {mg : Str → Option Value} {base : Heap} {K : Kx}
theorem sc__law_error : FnScope ["_law_call"] ["_law_call"] (defScope s__law_error) := ⟨rfl, rfl, rfl, by decide +kernel, rfl, by decide +kernel, by decide +kernel⟩
def okE (k : Nat) : Bool := k == 1 || k == 2
def txtE (k : Nat) : Str := if k = 1 then PySem.Str.ofString "number" else if k = 2 then PySem.Str.ofString "row" else PySem.Str.ofString ""
def gErr (gb : GE) : GE := gLam okE txtE gb
theorem pd_err {X : Cx} {K : Kx} {E : XK} (T : Txt X.prog X.w X.K X.mg X.base K) {c Pt : Addr} {k : Nat} {p lpos pos : Pos} {params : Arguments} {body : Expr} {scope : Scope} {gb : GE} (hg : Gl X "_law_error") (TB : LamX.TabB X.base X.mg c Pt) (hcode : X.env.code = .ref c)
    (hmT : (Pt, X.env.qual ++ "<lambda>") ∈ K.T) (hu : ∀ p ∈ K.T, p.1 = Pt → p.2 = X.env.qual ++ "<lambda>") (hr : Room (k + 2) X.A) (L : LamX.LamS X.env.scope scope) (hdef : defaultsOf params X.env = ([], []))
    (hbind : ∀ (q : Str) (cl : List (Str × Addr)) (pm cv ctv : Value), bindArgs (PySem.W.kla_fn "<lambda>" q params body scope cl pm cv ctv) ⟨[], []⟩ = pure [])
    (hbody : ∀ (A : Around) (outer : List Env) (s : Shared) (H : Hp) (E : XK) (f c' : Addr), Room k (A.deeper (LamX.lamEnv X scope s.heap.objs.size f c')) → ∃ t, PD (LamX.lamCx X A outer s H E scope f c') K E body t gb) :
    PD X K E (.Call (.Name "_law_error" p) [.Lambda params body scope lpos] [] pos) (LamX.tLam K.T (TTerr K okE txtE) (fun E' => tOf K E' gb)) (gErr gb) := by
  obtain ⟨g, fd, Fn, hm, hb⟩ := T.f__law_error
  obtain ⟨oc, od, kV, doc, pm, an, cdv, ct, osl, rfl, lk, hcd⟩ := Fn.ex
  exact pd_lamErr (ok := okE) (txt := txtE) hg hm Fn.kp lk hcd hb sc__law_error rfl (Or.inl rfl) (gives_err (fun s H => (HdsOk.cons ⟨rfl, by decide, .inl T.g_InvalidField⟩ (fun _ _ _ _ _ _ _ => pss_one (ps_ret pe_str)) (HdsOk.cons ⟨rfl, by decide, .inl T.g_InvalidNumber⟩ (fun _ _ _ _ _ _ _ => pss_one (ps_ret pe_str)) (HdsOk.cons ⟨rfl, by decide, .inl T.g_InvalidRow⟩ (fun _ _ _ _ _ _ _ => pss_one (ps_ret pe_str)) (HdsOk.cons ⟨rfl, by decide, .inl T.g_InvalidTable⟩ (fun _ _ _ _ _ _ _ => pss_one (ps_ret pe_str)) (HdsOk.cons ⟨rfl, by decide, .inl T.g_PaperError⟩ (fun _ _ _ _ _ _ _ => pss_one (ps_ret pe_str)) HdsOk.nil)))))) (fun k d D σ H hk hD => by
    have hk' : k = 1 ∨ k = 2 := by simpa [okE, or_assoc] using hk
    rcases hk' with rfl | rfl
    · exact ⟨false, T.m_InvalidNumber_InvalidField, fun z => (nomatch z), fun _ => ⟨true, T.m_InvalidNumber_InvalidNumber, fun _ _ _ => hD, fun z => nomatch z⟩⟩
    · exact ⟨false, T.m_InvalidRow_InvalidField, fun z => (nomatch z), fun _ => ⟨false, T.m_InvalidRow_InvalidNumber, fun z => (nomatch z), fun _ => ⟨true, T.m_InvalidRow_InvalidRow, fun _ _ _ => hD, fun z => nomatch z⟩⟩⟩) (fun f => rfl)) TB hcode hmT hu hr L hdef hbind hbody
theorem sc_law : FnScope ["_law_script", "_law_cup_here", "_law_turn", "_law_far", "_law_words", "_law_row", "_law_one", "_law_other", "_law_odd", "_law_at"] ["_law_script"] (defScope s_law) := ⟨rfl, rfl, rfl, by decide +kernel, rfl, by decide +kernel, by decide +kernel⟩
def le_law_0 : GE := (gApp 1 G__law_integer (gaCup 1 gaNil))
def fb_law_0 : GS := (gSeq (gPar 6 7 (gaCons (gApp 1 G__law_integer (gaCup 1 gaNil)) (gaCons (gApp 1 G__law_integer (gaCup 1 gaNil)) gaNil)))
    (gSeq (gIf (gBool (gBin dEq (gApp 2 G__law_roll (gaCup 1 (gaCons (gC (.int 3)) gaNil))) (gC (.int 0)))) (gSet 7 (gIfE (gBool (gBin (fB0 fun i j => decide (i < j)) (gCall dAbs (gaCons (gVar 6) gaNil)) (gBin (fI powOk fun i j => i ^ j.toNat) (gC (.int 10)) (gC (.int 40))))) (gBin dMul (gVar 6) (gApp 2 G__law_some (gaCup 1 (gaCons (gDisp .list (gaCons (gC (.int 1)) (gaCons (gUn dNeg (gC (.int 1))) (gaCons (gC (.int 2)) (gaCons (gC (.int 0)) gaNil))))) gaNil)))) (gVar 6))) gSkip)
    (gSeq (gIf (gOr (gNot (gTru (gApp 3 G__law_gcd_right (gaCup 1 (gaCons (gVar 6) (gaCons (gVar 7) gaNil)))))) (gNot (gTru (gApp 3 G__law_lcm_right (gaCup 1 (gaCons (gVar 6) (gaCons (gVar 7) gaNil))))))) (gRet (gC (.bool false))) gSkip)
    (gSeq (gSet 5 (gCall dToTup (gaCons (gL (gLc (giArg dRng1 (gaCons (gBin dAdd (gC (.int 1)) (gApp 2 G__law_roll (gaCup 1 (gaCons (gC (.int 6)) gaNil)))) gaNil)) [9] (ggName 9) gYes le_law_0)) gaNil)))
    (gIf (gNot (gTru (gApp 2 G__law_row_right (gaCup 1 (gaCons (gVar 5) gaNil))))) (gRet (gC (.bool false))) gSkip)))))
def le_law_1 : GE := (gErr (gApp 2 G_gcd_paper (gaCons (gVar 8) (gaCons (gC .none) gaNil))))
def le_law_2 : GE := (gErr (gApp 2 G_gcd_paper (gaCons (gC (.int 1)) (gaCons (gVar 8) gaNil))))
def le_law_3 : GE := (gErr (gApp 1 G_gcd_row_paper (gaCons (gVar 8) gaNil)))
def ta_law_0 : GS := (gRet (gAndV (gBin dEq (gVar 4) (gBin dAdd (gBin dMul (gDisp .list (gaCons (gC (.str (PySem.Str.ofString "number"))) gaNil)) (gC (.int 11))) (gBin dMul (gDisp .list (gaCons (gC (.str (PySem.Str.ofString "row"))) gaNil)) (gC (.int 7))))) (fun _ cu => G__law_written [] cu)))
def ta_law_1 : GS := (gFrz 4 ta_law_0)
def ta_law_2 : GS := (gSeq (gApd 4 (gErr (gApp 2 G_takes_gcd_row (gaCons (gDisp .tuple gaNil) (gaCons (gC .none) gaNil)))))
    ta_law_1)
def ta_law_3 : GS := (gSeq (gSetO 4 (gfCat 4 (gL (gLc (giTup (gDisp .tuple (gaCons (gC .none) (gaCons (gDisp .tuple gaNil) (gaCons (gDisp .tuple (gaCons (gC (.int 1)) (gaCons (gC (.bool true)) gaNil))) (gaCons (gDisp .list (gaCons (gC (.int 1)) gaNil)) (gaCons (gBin dMulT (gDisp .tuple (gaCons (gC (.int 1)) gaNil)) (gC (.int 7))) (gaCons (gDisp .tuple (gaCons (gVar 3) gaNil)) gaNil)))))))) [8] (ggName 8) gYes le_law_3))))
    ta_law_2)
def ta_law_4 : GS := (gSeq (gApd 4 (gErr (gApp 3 G_takes_lcm (gaCons (gC (.int 1)) (gaCons (gVar 3) (gaCons (gC .none) gaNil))))))
    ta_law_3)
def ta_law_5 : GS := (gSeq (gApd 4 (gErr (gApp 3 G_takes_gcd (gaCons (gC .none) (gaCons (gC (.int 1)) (gaCons (gC .none) gaNil))))))
    ta_law_4)
def ta_law_6 : GS := (gSeq (gApd 4 (gErr (gApp 2 G_lcm_paper (gaCons (gC (.int 1)) (gaCons (gC .none) gaNil)))))
    ta_law_5)
def ta_law_7 : GS := (gSeq (gSetO 4 (gfCat 4 (gL (gLc (giTup (gDisp .tuple (gaCons (gC .none) (gaCons (gDisp .tuple (gaCons (gC (.int 1)) gaNil)) (gaCons (gVar 3) gaNil))))) [8] (ggName 8) gYes le_law_2))))
    ta_law_6)
def ta_law_8 : GS := (gSeq (gSetO 4 (gfCat 4 (gL (gLc (giTup (gDisp .tuple (gaCons (gC .none) (gaCons (gC (.bool true)) (gaCons (gVar 3) (gaCons (gBin (fI0 fun i j => i - j) (gC (.int 0)) (gVar 3)) (gaCons (gC (.str (PySem.Str.ofString "1"))) gaNil))))))) [8] (ggName 8) gYes le_law_1))))
    ta_law_7)
def ta_law_9 : GS := (gSeq (gSetO 4 (gfDisp gaNil))
    ta_law_8)
def ta_law_10 : GS := (gSeq (gSet 3 (gBin dAdd (gBin dMul (gBin (fI powOk fun i j => i ^ j.toNat) (gC (.int 10)) (gC (.int 50))) (gBin (fI powOk fun i j => i ^ j.toNat) (gC (.int 10)) (gC (.int 50)))) (gC (.int 1))))
    ta_law_9)
def g_law : GS := (gSeq (gFor (giArg dRng1 (gaCons (gC (.int 4)) gaNil)) (ggName 2) fb_law_0)
    ta_law_10)
theorem ok__law (T : Txt P w F mg base K) (hg : ∀ ns : List Int, ns.length ≤ 63 → ∃ cu, g_law (.un :: .cup :: List.replicate 8 .un) (cup0 (cell0 ns)) = .ok (.ret (.bool true)) cu) :
    ∃ (f : Addr) (fd : FuncData), FnOk P w F mg base (L2.CX P w) 9 f fd ["_law_script"] (spLaw K F) ∧ mg "law" = some (.ref f) ∧ Binds F fd ["_law_script"] [] ∧ ∃ (oc : Value) (od : Option Addr) (osl : Array (Option Value)), F.lookup f = some ⟨oc, od, .func fd, osl⟩ := by
  obtain ⟨f, fd, c, Pt, Fn, hm, hb, TB, hmT, hu0⟩ := T.k_law
  obtain ⟨fc, fdc, hcup, hmc, hkc, hbc⟩ := ok__law_cup T
  refine ⟨f, fd, ok_law (N := ["_law_script", "_law_cup_here", "_law_turn", "_law_far", "_law_words", "_law_row", "_law_one", "_law_other", "_law_odd", "_law_at"]) (n := 8) Fn sc_law rfl rfl rfl (by first | exact .inl rfl | exact .inr rfl) (by first | exact .inl rfl | exact .inr (.inl rfl)) rfl rfl hcup hmc hkc hbc (by decide) (fun _ => rfl) ?body hg, hm, hb, let ⟨oc, od, _, _, _, _, _, osl, _, lk, _⟩ := Fn.ex; ⟨oc, od, osl, lk⟩⟩
  intro A outer s H E hr
  have nd := sc_law.nd
  have hu := hr.units
  have tk : Takes (cxOf (L2.CX P w) P w F mg base ["_law_script", "_law_cup_here", "_law_turn", "_law_far", "_law_words", "_law_row", "_law_one", "_law_other", "_law_odd", "_law_at"] "law" (defScope s_law) f (.ref c) A outer s H E) (fun cls d _ H => E cls d H) := takes_of rfl rfl rfl rfl
  have hx : Passes (L2.CX P w) (cxOf (L2.CX P w) P w F mg base ["_law_script", "_law_cup_here", "_law_turn", "_law_far", "_law_words", "_law_row", "_law_one", "_law_other", "_law_odd", "_law_at"] "law" (defScope s_law) f (.ref c) A outer s H E) E := passes_call tk fun _ _ _ _ h => h
  have hp : PassesOwn (model P w) (cxOf (L2.CX P w) P w F mg base ["_law_script", "_law_cup_here", "_law_turn", "_law_far", "_law_words", "_law_row", "_law_one", "_law_other", "_law_odd", "_law_at"] "law" (defScope s_law) f (.ref c) A outer s H E).A (cxOf (L2.CX P w) P w F mg base ["_law_script", "_law_cup_here", "_law_turn", "_law_far", "_law_words", "_law_row", "_law_one", "_law_other", "_law_odd", "_law_at"] "law" (defScope s_law) f (.ref c) A outer s H E).env (cxOf (L2.CX P w) P w F mg base ["_law_script", "_law_cup_here", "_law_turn", "_law_far", "_law_words", "_law_row", "_law_one", "_law_other", "_law_odd", "_law_at"] "law" (defScope s_law) f (.ref c) A outer s H E).xe := passes_of rfl
  have hc : (cxOf (L2.CX P w) P w F mg base ["_law_script", "_law_cup_here", "_law_turn", "_law_far", "_law_words", "_law_row", "_law_one", "_law_other", "_law_odd", "_law_at"] "law" (defScope s_law) f (.ref c) A outer s H E).calm = true := rfl
  exact ⟨_, (pssd_cons (psd_for hp hc (pid_rng1 (by rfl) T.b_range (pad_cons pd_int pad_nil)) (pgd_name (i := 2) nd rfl (by first | exact .inl rfl | exact .inr rfl)) (pssd_cons (psd_par (i := 6) (j := 7) hc nd rfl rfl (by decide) rfl rfl (pad_cons (pd_callD (d__law_integer T) (hr.mono (by decide)) (by rfl) hx (pad_cup (pv 1) pad_nil)) (pad_cons (pd_callD (d__law_integer T) (hr.mono (by decide)) (by rfl) hx (pad_cup (pv 1) pad_nil)) pad_nil)))
    (pssd_cons (psd_if (ptd_cmp (op_eqX hu) opD_eq (pd_callD (d__law_roll T) (hr.mono (by decide)) (by rfl) hx (pad_cup (pv 1) (pad_cons pd_int pad_nil))) pd_int (nomark _)) (pssd_one (psd_set (i := 7) nd rfl (by first | exact .inl rfl | exact .inr rfl) (pd_ifExp (ptd_cmp op_lt opD_lt (pd_callB call_abs callD_abs (by rfl) T.b_abs bb_abs (pad_cons (pd_var (pv 6)) pad_nil)) (pd_op op_pow opD_pow pd_int pd_int) (nomark _)) (pd_op op_mulD opD_mul (pd_var (pv 6)) (pd_callD (d__law_some T) (hr.mono (by decide)) (by rfl) hx (pad_cup (pv 1) (pad_cons (pd_lst (pad_cons pd_int (pad_cons (pd_neg pd_int) (pad_cons pd_int (pad_cons pd_int pad_nil))))) pad_nil)))) (pd_var (pv 6))))) pssd_nil)
    (pssd_cons (psd_if (PWD.pt (pwd_or (ptd_not (ptd_truth (pd_callD (d__law_gcd_right T) (hr.mono (by decide)) (by rfl) hx (pad_cup (pv 1) (pad_cons (pd_var (pv 6)) (pad_cons (pd_var (pv 7)) pad_nil)))))) (pwd_or1 (ptd_not (ptd_truth (pd_callD (d__law_lcm_right T) (hr.mono (by decide)) (by rfl) hx (pad_cup (pv 1) (pad_cons (pd_var (pv 6)) (pad_cons (pd_var (pv 7)) pad_nil))))))))) (pssd_one (psd_ret pd_bl)) pssd_nil)
    (pssd_cons (psd_set (i := 5) nd rfl (by first | exact .inl rfl | exact .inr rfl) (pd_callTy call_tuple_of callD_tuple (by rfl) T.b_tuple bb_tuple (pad_cons (PFD.toD (pf_lc (own := [("_law_at", 9)]) (ws := [9]) hc nd (pid_rng1 (by rfl) T.b_range (pad_cons (pd_op op_addD opD_add pd_int (pd_callD (d__law_roll T) (hr.mono (by decide)) (by rfl) hx (pad_cup (pv 1) (pad_cons pd_int pad_nil)))) pad_nil)) (blkOk_by (N := ["_law_script", "_law_cup_here", "_law_turn", "_law_far", "_law_words", "_law_row", "_law_one", "_law_other", "_law_odd", "_law_at"]) (sc := defScope s_law) (by decide +kernel)) (fun _ _ _ _ _ => ⟨_, by exact (pgd_name (i := 9) nd rfl (by first | exact .inl rfl | exact .inr rfl))⟩) (fun _ _ _ _ _ => ⟨_, by exact ptsd_nil⟩) (fun _ _ _ _ _ => ⟨_, by exact (pd_callD (d__law_integer T) (hr.mono (by decide)) (by rfl) passL (pad_cup (pv 1) pad_nil))⟩))) pad_nil)))
    (pssd_one (psd_if (ptd_not (ptd_truth (pd_callD (d__law_row_right T) (hr.mono (by decide)) (by rfl) hx (pad_cup (pv 1) (pad_cons (pd_var (pv 5)) pad_nil))))) (pssd_one (psd_ret pd_bl)) pssd_nil)))))))
    (pssd_cons (psd_set (i := 3) nd rfl (by first | exact .inl rfl | exact .inr rfl) (pd_op op_addD opD_add (pd_op op_mulD opD_mul (pd_op op_pow opD_pow pd_int pd_int) (pd_op op_pow opD_pow pd_int pd_int)) pd_int))
    (pssd_cons (psd_setO (i := 4) nd rfl (by first | exact .inl rfl | exact .inr rfl) (pf_lst pad_nil))
    (pssd_cons (psd_setO (i := 4) nd rfl (by first | exact .inl rfl | exact .inr rfl) (pf_cat (pv 4) (PFD.toD (pf_lc (own := [("_law_odd", 8)]) (ws := [8]) hc nd (pid_tup (pd_tup (pad_cons pd_non (pad_cons pd_bl (pad_cons (pd_var (pv 3)) (pad_cons (pd_op op_sub opD_sub pd_int (pd_var (pv 3))) (pad_cons pd_str pad_nil))))))) (blkOk_by (N := ["_law_script", "_law_cup_here", "_law_turn", "_law_far", "_law_words", "_law_row", "_law_one", "_law_other", "_law_odd", "_law_at"]) (sc := defScope s_law) (by decide +kernel)) (fun _ _ _ _ _ => ⟨_, by exact (pgd_name (i := 8) nd rfl (by first | exact .inl rfl | exact .inr rfl))⟩) (fun _ _ _ _ _ => ⟨_, by exact ptsd_nil⟩) (fun _ _ _ _ _ => ⟨_, by exact (pd_err (k := 6) T (by rfl) TB (by rfl) hmT hu0 (hr.mono (by decide)) (LamX.lamS_by (by rfl)) rfl (fun _ _ _ _ _ => rfl) (fun A outer s H E f c' hr => ⟨_, by exact (pd_callD (d_gcd_paper T) (hr.mono (by decide)) (by rfl) passLam (pad_cons (pd_var (pv 8)) (pad_cons pd_non pad_nil)))⟩))⟩)))))
    (pssd_cons (psd_setO (i := 4) nd rfl (by first | exact .inl rfl | exact .inr rfl) (pf_cat (pv 4) (PFD.toD (pf_lc (own := [("_law_odd", 8)]) (ws := [8]) hc nd (pid_tup (pd_tup (pad_cons pd_non (pad_cons (pd_tup (pad_cons pd_int pad_nil)) (pad_cons (pd_var (pv 3)) pad_nil))))) (blkOk_by (N := ["_law_script", "_law_cup_here", "_law_turn", "_law_far", "_law_words", "_law_row", "_law_one", "_law_other", "_law_odd", "_law_at"]) (sc := defScope s_law) (by decide +kernel)) (fun _ _ _ _ _ => ⟨_, by exact (pgd_name (i := 8) nd rfl (by first | exact .inl rfl | exact .inr rfl))⟩) (fun _ _ _ _ _ => ⟨_, by exact ptsd_nil⟩) (fun _ _ _ _ _ => ⟨_, by exact (pd_err (k := 6) T (by rfl) TB (by rfl) hmT hu0 (hr.mono (by decide)) (LamX.lamS_by (by rfl)) rfl (fun _ _ _ _ _ => rfl) (fun A outer s H E f c' hr => ⟨_, by exact (pd_callD (d_gcd_paper T) (hr.mono (by decide)) (by rfl) passLam (pad_cons pd_int (pad_cons (pd_var (pv 8)) pad_nil)))⟩))⟩)))))
    (pssd_cons (psd_append (pv 4) (pd_err (k := 6) T (by rfl) TB (by rfl) hmT hu0 (hr.mono (by decide)) (LamX.lamS_by (by rfl)) rfl (fun _ _ _ _ _ => rfl) (fun A outer s H E f c' hr => ⟨_, by exact (pd_callD (d_lcm_paper T) (hr.mono (by decide)) (by rfl) passLam (pad_cons pd_int (pad_cons pd_non pad_nil)))⟩)) (fun h => pe_bm PySem.F.plainAttrs_list PySem.F.slot_list_append PySem.F.type_list_append mt_append (pv 4) h))
    (pssd_cons (psd_append (pv 4) (pd_err (k := 6) T (by rfl) TB (by rfl) hmT hu0 (hr.mono (by decide)) (LamX.lamS_by (by rfl)) rfl (fun _ _ _ _ _ => rfl) (fun A outer s H E f c' hr => ⟨_, by exact (pd_callD (d_takes_gcd T) (hr.mono (by decide)) (by rfl) passLam (pad_cons pd_non (pad_cons pd_int (pad_cons pd_non pad_nil))))⟩)) (fun h => pe_bm PySem.F.plainAttrs_list PySem.F.slot_list_append PySem.F.type_list_append mt_append (pv 4) h))
    (pssd_cons (psd_append (pv 4) (pd_err (k := 6) T (by rfl) TB (by rfl) hmT hu0 (hr.mono (by decide)) (LamX.lamS_by (by rfl)) rfl (fun _ _ _ _ _ => rfl) (fun A outer s H E f c' hr => ⟨_, by exact (pd_callD (d_takes_lcm T) (hr.mono (by decide)) (by rfl) passLam (pad_cons pd_int (pad_cons (pd_var (pv 3)) (pad_cons pd_non pad_nil))))⟩)) (fun h => pe_bm PySem.F.plainAttrs_list PySem.F.slot_list_append PySem.F.type_list_append mt_append (pv 4) h))
    (pssd_cons (psd_setO (i := 4) nd rfl (by first | exact .inl rfl | exact .inr rfl) (pf_cat (pv 4) (PFD.toD (pf_lc (own := [("_law_odd", 8)]) (ws := [8]) hc nd (pid_tup (pd_tup (pad_cons pd_non (pad_cons (pd_tup pad_nil) (pad_cons (pd_tup (pad_cons pd_int (pad_cons pd_bl pad_nil))) (pad_cons (pd_lst (pad_cons pd_int pad_nil)) (pad_cons (pd_op op_mulDT opD_mulT (pd_tup (pad_cons pd_int pad_nil)) pd_int) (pad_cons (pd_tup (pad_cons (pd_var (pv 3)) pad_nil)) pad_nil)))))))) (blkOk_by (N := ["_law_script", "_law_cup_here", "_law_turn", "_law_far", "_law_words", "_law_row", "_law_one", "_law_other", "_law_odd", "_law_at"]) (sc := defScope s_law) (by decide +kernel)) (fun _ _ _ _ _ => ⟨_, by exact (pgd_name (i := 8) nd rfl (by first | exact .inl rfl | exact .inr rfl))⟩) (fun _ _ _ _ _ => ⟨_, by exact ptsd_nil⟩) (fun _ _ _ _ _ => ⟨_, by exact (pd_err (k := 6) T (by rfl) TB (by rfl) hmT hu0 (hr.mono (by decide)) (LamX.lamS_by (by rfl)) rfl (fun _ _ _ _ _ => rfl) (fun A outer s H E f c' hr => ⟨_, by exact (pd_callD (d_gcd_row_paper T) (hr.mono (by decide)) (by rfl) passLam (pad_cons (pd_var (pv 8)) pad_nil))⟩))⟩)))))
    (pssd_cons (psd_append (pv 4) (pd_err (k := 6) T (by rfl) TB (by rfl) hmT hu0 (hr.mono (by decide)) (LamX.lamS_by (by rfl)) rfl (fun _ _ _ _ _ => rfl) (fun A outer s H E f c' hr => ⟨_, by exact (pd_callD (d_takes_gcd_row T) (hr.mono (by decide)) (by rfl) passLam (pad_cons (pd_tup pad_nil) (pad_cons pd_non pad_nil)))⟩)) (fun h => pe_bm PySem.F.plainAttrs_list PySem.F.slot_list_append PySem.F.type_list_append mt_append (pv 4) h))
    (pssd_frz 4 (pssd_one (psd_ret (pd_and (pd_cmp (op_eqX hu) opD_eq (pd_var (pv 4)) (pd_op op_addD opD_add (pd_op op_mulD opD_mul (pd_lst (pad_cons pd_str pad_nil)) pd_int) (pd_op op_mulD opD_mul (pd_lst (pad_cons pd_str pad_nil)) pd_int)) (nomark _)) (pd_one (pd_callD0 (d__law_written T) (hr.mono (by decide)) (by rfl) hx))))))))))))))))⟩
end
end Prog

set_option Elab.async false
set_option linter.all false
set_option maxRecDepth 100000
set_option maxHeartbeats 4000000
set_option autoImplicit false
set_option exponentiation.threshold 4000
namespace Prog
open PySem PySem.Spec L2 DL
def rollC (cu : Cu) (m : Int) : Cu := if 0 < cu.1 then (cu.1.fdiv m, cu.2) else (cu.1, (cu.2 * 31039 + 7973).fmod 2147483543)
def rollY (cu : Cu) : Int := (cu.2 * 31039 + 7973).fmod 2147483543
def rollV (cu : Cu) (m : Int) : Int := if 0 < cu.1 then cu.1.fmod m else (((rollY cu * (rollY cu + 229)).fmod 2147483587).fdiv 821).fmod m
section
variable {cu : Cu} {m : Int} {zs : List Int}
theorem roll_lo (h : 1 ≤ m) : 0 ≤ rollV cu m := by
  unfold rollV
  split
  · exact fmod_lo (by omega)
  · exact fmod_lo (by omega)
theorem roll_hi (h : 1 ≤ m) : rollV cu m < m := by
  unfold rollV
  split
  · exact fmod_hi (by omega)
  · exact fmod_hi (by omega)
theorem e_roll (h : 1 ≤ m) (hs : Sm m) : G__law_roll [.cup, .dat (.int m)] cu = .ok (.int (rollV cu m)) (rollC cu m) := by
  have o1 : ∀ x : Int, modOk x m = true := fun x => modOk_b (by omega)
  have o2 : ∀ x : Int, divOk x m = true := fun x => divOk_sm (by omega) hs
  have o3 : mulOk cu.2 31039 = true := mulOk_r (by decide)
  have o4 : ∀ x : Int, modOk x 2147483543 = true := fun x => modOk_b (by decide)
  have o5 : ∀ x : Int, modOk x 2147483587 = true := fun x => modOk_b (by decide)
  have o6 : ∀ x : Int, divOk x 821 = true := fun x => divOk_b (p := 64) (by decide) (by decide) (by decide) (by decide)
  have o7 : mulOk (rollY cu) (rollY cu + 229) = true := mulOk_l (by
    have h1 := fmod_lo (a := cu.2 * 31039 + 7973) (m := 2147483543) (by decide)
    have h2 := fmod_hi (a := cu.2 * 31039 + 7973) (m := 2147483543) (by decide)
    unfold rollY
    omega)
  unfold rollY at o7
  by_cases c : 0 < cu.1
  · unfold rollV rollC
    simp only [G__law_roll, g__law_roll, o1, o2, o3, o4, o5, o6, o7, c, gFn, gSeq, gIf, gSet, gSetO, gfCat, gfDisp, gBin, gCall, gApp, gaNil, gaCons, gaCup, gC_eq, gVar_un, gDisp, gSlice, gPart, gNoPart, gTru, gBool, gChain, gAnd, gOr, gNot, gAndV, gOrV, gNotV, gIfE, gUn, gCupF_un, gCupT_un, gCupSet, gRet, gAsg, gPar, gPar3, gDrop, gRaise, gSkip, gIsi, gFor, giTup, giLst, giArg, gLc, gL, gFrz, gApd, gYes, gAll, ggName, ggTup, ggCons, ggNil, wipeE, dLst, dTup, gForL_nil, gForL_cons, gLcL_nil, gLcL_cons, dZip_tup, dZip_lst, zipD_cc, zipD_nil, cutD_1, dCut_tup, dCut_lst, dAbs_ab, dAdd_tup, dAdd_lst, Rs.bind_ok, Rs.bind_exc, Rs.bind_stuck, Rs.ofO_some, Rs.nox_ok, List.getElem?_cons_zero, List.getElem?_cons_succ, List.set_cons_zero, List.set_cons_succ, List.length_cons, List.length_nil, List.length_append, List.length_map, List.replicate_succ, List.replicate_zero, List.cons_append, List.nil_append, List.append_nil, Nat.reduceAdd, Nat.reduceSub, Nat.reduceLT, Nat.reduceLeDiff, Nat.reduceEqDiff, Nat.zero_add, dAdd_int, dMul_int, fI0_int, fB0_int, fI_int, dEq_int, dNe_int, dEq_str, dNe_str, dEq_bl, dBool_bl, dTru_bl, dNeg_int, dToInt_int, dToInt_bl, dLen_tup, dLen_lst, dMin2_int, dMulT_int, dToTup_lst, dToTup_tup, dToLst_lst, dToLst_tup, dats_nil, dats_cons, dIx_tup, dIx_lst, atI0, atI1, atI2, atI3, atI4, atI5, dInt_int, Option.map_some, Option.map_none, Option.bind_some, if_true, if_false, ite_true, ite_false, Bool.false_eq_true, Bool.true_eq_false, reduceIte, Bool.not_true, Bool.not_false, isi_int_int, isi_int_bool, isi_int_str, isi_int_tuple, isi_bool_int, isi_bool_bool, isi_bool_str, isi_bool_tuple, isi_str_int, isi_str_bool, isi_str_str, isi_str_tuple, isi_tup_int, isi_tup_bool, isi_tup_str, isi_tup_tuple, isi_lst_int, isi_lst_bool, isi_lst_str, isi_lst_tuple, isi_none_int, isi_none_bool, isi_none_str, isi_none_tuple, Int.cast_ofNat_Int, decide_true, decide_false, decide_eq_true_eq, not_true_eq_false, not_false_eq_true, Int.reduceEq, Int.reduceNe, Int.reduceLE, Int.reduceLT, Int.reduceAdd, Int.reduceSub, Int.reduceMul, Int.reduceNeg, ite_self, dMax2_int, dInR_int, gInR, le_bezout_0, fb_need_integer_row_0, le_gcd_row_of_0, fb_gcd_row_of_0, ez_gcd_row_of_0, le_shows_gcd_row_0, le_shows_gcd_row_1, le__law_integers_0, lt__law_integers_0, fb__law_integer_0, le__law_is_row_0, le__law_is_row_1, lt__law_is_row_0, le__law_gcd_right_0, lt__law_gcd_right_0, le__law_gcd_right_1, le__law_gcd_right_2, lt__law_gcd_right_1, le__law_lcm_right_0, le__law_lcm_right_1, lt__law_lcm_right_0, le__law_lcm_right_2, lt__law_lcm_right_1, fb__law_row_right_0, le__law_row_right_0, le__law_row_right_1, lt__law_row_right_0, le__law_row_right_2, lt__law_row_right_1, le__law_written_0, lt__law_written_0, le__law_written_1, le__law_written_2]
  · unfold rollV rollC rollY
    simp only [G__law_roll, g__law_roll, o1, o2, o3, o4, o5, o6, o7, c, gFn, gSeq, gIf, gSet, gSetO, gfCat, gfDisp, gBin, gCall, gApp, gaNil, gaCons, gaCup, gC_eq, gVar_un, gDisp, gSlice, gPart, gNoPart, gTru, gBool, gChain, gAnd, gOr, gNot, gAndV, gOrV, gNotV, gIfE, gUn, gCupF_un, gCupT_un, gCupSet, gRet, gAsg, gPar, gPar3, gDrop, gRaise, gSkip, gIsi, gFor, giTup, giLst, giArg, gLc, gL, gFrz, gApd, gYes, gAll, ggName, ggTup, ggCons, ggNil, wipeE, dLst, dTup, gForL_nil, gForL_cons, gLcL_nil, gLcL_cons, dZip_tup, dZip_lst, zipD_cc, zipD_nil, cutD_1, dCut_tup, dCut_lst, dAbs_ab, dAdd_tup, dAdd_lst, Rs.bind_ok, Rs.bind_exc, Rs.bind_stuck, Rs.ofO_some, Rs.nox_ok, List.getElem?_cons_zero, List.getElem?_cons_succ, List.set_cons_zero, List.set_cons_succ, List.length_cons, List.length_nil, List.length_append, List.length_map, List.replicate_succ, List.replicate_zero, List.cons_append, List.nil_append, List.append_nil, Nat.reduceAdd, Nat.reduceSub, Nat.reduceLT, Nat.reduceLeDiff, Nat.reduceEqDiff, Nat.zero_add, dAdd_int, dMul_int, fI0_int, fB0_int, fI_int, dEq_int, dNe_int, dEq_str, dNe_str, dEq_bl, dBool_bl, dTru_bl, dNeg_int, dToInt_int, dToInt_bl, dLen_tup, dLen_lst, dMin2_int, dMulT_int, dToTup_lst, dToTup_tup, dToLst_lst, dToLst_tup, dats_nil, dats_cons, dIx_tup, dIx_lst, atI0, atI1, atI2, atI3, atI4, atI5, dInt_int, Option.map_some, Option.map_none, Option.bind_some, if_true, if_false, ite_true, ite_false, Bool.false_eq_true, Bool.true_eq_false, reduceIte, Bool.not_true, Bool.not_false, isi_int_int, isi_int_bool, isi_int_str, isi_int_tuple, isi_bool_int, isi_bool_bool, isi_bool_str, isi_bool_tuple, isi_str_int, isi_str_bool, isi_str_str, isi_str_tuple, isi_tup_int, isi_tup_bool, isi_tup_str, isi_tup_tuple, isi_lst_int, isi_lst_bool, isi_lst_str, isi_lst_tuple, isi_none_int, isi_none_bool, isi_none_str, isi_none_tuple, Int.cast_ofNat_Int, decide_true, decide_false, decide_eq_true_eq, not_true_eq_false, not_false_eq_true, Int.reduceEq, Int.reduceNe, Int.reduceLE, Int.reduceLT, Int.reduceAdd, Int.reduceSub, Int.reduceMul, Int.reduceNeg, ite_self, dMax2_int, dInR_int, gInR, le_bezout_0, fb_need_integer_row_0, le_gcd_row_of_0, fb_gcd_row_of_0, ez_gcd_row_of_0, le_shows_gcd_row_0, le_shows_gcd_row_1, le__law_integers_0, lt__law_integers_0, fb__law_integer_0, le__law_is_row_0, le__law_is_row_1, lt__law_is_row_0, le__law_gcd_right_0, lt__law_gcd_right_0, le__law_gcd_right_1, le__law_gcd_right_2, lt__law_gcd_right_1, le__law_lcm_right_0, le__law_lcm_right_1, lt__law_lcm_right_0, le__law_lcm_right_2, lt__law_lcm_right_1, fb__law_row_right_0, le__law_row_right_0, le__law_row_right_1, lt__law_row_right_0, le__law_row_right_2, lt__law_row_right_1, le__law_written_0, lt__law_written_0, le__law_written_1, le__law_written_2]
/-- a roll with what is known of it -/
theorem roll_ex (m : Int) (h : 1 ≤ m) (hs : m.natAbs < 2 ^ 2000) (cu : Cu) : ∃ (v : Int) (c : Cu), 0 ≤ v ∧ v < m ∧ G__law_roll [.cup, .dat (.int m)] cu = .ok (.int v) c := ⟨_, _, roll_lo h, roll_hi h, e_roll h hs⟩
theorem e_some {xs : List PyData} (h0 : 0 < xs.length) (h1 : xs.length ≤ 1000) : ∃ d ∈ xs, G__law_some [.cup, .dat (.list xs)] cu = .ok d (rollC cu xs.length) := by
  have hm : (1 : Int) ≤ xs.length := by omega
  have e := e_roll (cu := cu) hm (Sm.of (B := 1000) (by omega))
  have r0 := roll_lo (cu := cu) hm
  have r1 := roll_hi (cu := cu) hm
  obtain ⟨n, hn⟩ := Int.eq_ofNat_of_zero_le r0
  have hn' : n < xs.length := by omega
  refine ⟨xs[n], List.getElem_mem _, ?_⟩
  have e2 : atI xs (rollV cu xs.length) = some xs[n] := by rw [hn]; exact atI_nat (List.getElem?_eq_getElem hn')
  simp only [G__law_some, g__law_some, e, e2, gFn, gSeq, gIf, gSet, gSetO, gfCat, gfDisp, gBin, gCall, gApp, gaNil, gaCons, gaCup, gC_eq, gVar_un, gDisp, gSlice, gPart, gNoPart, gTru, gBool, gChain, gAnd, gOr, gNot, gAndV, gOrV, gNotV, gIfE, gUn, gCupF_un, gCupT_un, gCupSet, gRet, gAsg, gPar, gPar3, gDrop, gRaise, gSkip, gIsi, gFor, giTup, giLst, giArg, gLc, gL, gFrz, gApd, gYes, gAll, ggName, ggTup, ggCons, ggNil, wipeE, dLst, dTup, gForL_nil, gForL_cons, gLcL_nil, gLcL_cons, dZip_tup, dZip_lst, zipD_cc, zipD_nil, cutD_1, dCut_tup, dCut_lst, dAbs_ab, dAdd_tup, dAdd_lst, Rs.bind_ok, Rs.bind_exc, Rs.bind_stuck, Rs.ofO_some, Rs.nox_ok, List.getElem?_cons_zero, List.getElem?_cons_succ, List.set_cons_zero, List.set_cons_succ, List.length_cons, List.length_nil, List.length_append, List.length_map, List.replicate_succ, List.replicate_zero, List.cons_append, List.nil_append, List.append_nil, Nat.reduceAdd, Nat.reduceSub, Nat.reduceLT, Nat.reduceLeDiff, Nat.reduceEqDiff, Nat.zero_add, dAdd_int, dMul_int, fI0_int, fB0_int, fI_int, dEq_int, dNe_int, dEq_str, dNe_str, dEq_bl, dBool_bl, dTru_bl, dNeg_int, dToInt_int, dToInt_bl, dLen_tup, dLen_lst, dMin2_int, dMulT_int, dToTup_lst, dToTup_tup, dToLst_lst, dToLst_tup, dats_nil, dats_cons, dIx_tup, dIx_lst, atI0, atI1, atI2, atI3, atI4, atI5, dInt_int, Option.map_some, Option.map_none, Option.bind_some, if_true, if_false, ite_true, ite_false, Bool.false_eq_true, Bool.true_eq_false, reduceIte, Bool.not_true, Bool.not_false, isi_int_int, isi_int_bool, isi_int_str, isi_int_tuple, isi_bool_int, isi_bool_bool, isi_bool_str, isi_bool_tuple, isi_str_int, isi_str_bool, isi_str_str, isi_str_tuple, isi_tup_int, isi_tup_bool, isi_tup_str, isi_tup_tuple, isi_lst_int, isi_lst_bool, isi_lst_str, isi_lst_tuple, isi_none_int, isi_none_bool, isi_none_str, isi_none_tuple, Int.cast_ofNat_Int, decide_true, decide_false, decide_eq_true_eq, not_true_eq_false, not_false_eq_true, Int.reduceEq, Int.reduceNe, Int.reduceLE, Int.reduceLT, Int.reduceAdd, Int.reduceSub, Int.reduceMul, Int.reduceNeg, ite_self, dMax2_int, dInR_int, gInR, le_bezout_0, fb_need_integer_row_0, le_gcd_row_of_0, fb_gcd_row_of_0, ez_gcd_row_of_0, le_shows_gcd_row_0, le_shows_gcd_row_1, le__law_integers_0, lt__law_integers_0, fb__law_integer_0, le__law_is_row_0, le__law_is_row_1, lt__law_is_row_0, le__law_gcd_right_0, lt__law_gcd_right_0, le__law_gcd_right_1, le__law_gcd_right_2, lt__law_gcd_right_1, le__law_lcm_right_0, le__law_lcm_right_1, lt__law_lcm_right_0, le__law_lcm_right_2, lt__law_lcm_right_1, fb__law_row_right_0, le__law_row_right_0, le__law_row_right_1, lt__law_row_right_0, le__law_row_right_2, lt__law_row_right_1, le__law_written_0, lt__law_written_0, le__law_written_1, le__law_written_2]
/-- a number out of a list of numbers -/
theorem some_ex (zs : List Int) (h0 : 0 < zs.length) (h1 : zs.length ≤ 1000) (cu : Cu) : ∃ z ∈ zs, ∃ c : Cu, G__law_some [.cup, .dat (lstI zs)] cu = .ok (.int z) c := by
  obtain ⟨d, hd, e⟩ := e_some (cu := cu) (xs := zs.map .int) (by rw [List.length_map]; exact h0) (by rw [List.length_map]; exact h1)
  obtain ⟨z, hz, rfl⟩ := List.mem_map.mp hd
  exact ⟨z, hz, _, e⟩
theorem e_same {v : Bool} : G__law_same [.dat (.bool v), .dat (.bool v)] cu = .ok (.bool true) cu := by
  cases v <;> simp only [G__law_same, g__law_same, gFn, gSeq, gIf, gSet, gSetO, gfCat, gfDisp, gBin, gCall, gApp, gaNil, gaCons, gaCup, gC_eq, gVar_un, gDisp, gSlice, gPart, gNoPart, gTru, gBool, gChain, gAnd, gOr, gNot, gAndV, gOrV, gNotV, gIfE, gUn, gCupF_un, gCupT_un, gCupSet, gRet, gAsg, gPar, gPar3, gDrop, gRaise, gSkip, gIsi, gFor, giTup, giLst, giArg, gLc, gL, gFrz, gApd, gYes, gAll, ggName, ggTup, ggCons, ggNil, wipeE, dLst, dTup, gForL_nil, gForL_cons, gLcL_nil, gLcL_cons, dZip_tup, dZip_lst, zipD_cc, zipD_nil, cutD_1, dCut_tup, dCut_lst, dAbs_ab, dAdd_tup, dAdd_lst, Rs.bind_ok, Rs.bind_exc, Rs.bind_stuck, Rs.ofO_some, Rs.nox_ok, List.getElem?_cons_zero, List.getElem?_cons_succ, List.set_cons_zero, List.set_cons_succ, List.length_cons, List.length_nil, List.length_append, List.length_map, List.replicate_succ, List.replicate_zero, List.cons_append, List.nil_append, List.append_nil, Nat.reduceAdd, Nat.reduceSub, Nat.reduceLT, Nat.reduceLeDiff, Nat.reduceEqDiff, Nat.zero_add, dAdd_int, dMul_int, fI0_int, fB0_int, fI_int, dEq_int, dNe_int, dEq_str, dNe_str, dEq_bl, dBool_bl, dTru_bl, dNeg_int, dToInt_int, dToInt_bl, dLen_tup, dLen_lst, dMin2_int, dMulT_int, dToTup_lst, dToTup_tup, dToLst_lst, dToLst_tup, dats_nil, dats_cons, dIx_tup, dIx_lst, atI0, atI1, atI2, atI3, atI4, atI5, dInt_int, Option.map_some, Option.map_none, Option.bind_some, if_true, if_false, ite_true, ite_false, Bool.false_eq_true, Bool.true_eq_false, reduceIte, Bool.not_true, Bool.not_false, isi_int_int, isi_int_bool, isi_int_str, isi_int_tuple, isi_bool_int, isi_bool_bool, isi_bool_str, isi_bool_tuple, isi_str_int, isi_str_bool, isi_str_str, isi_str_tuple, isi_tup_int, isi_tup_bool, isi_tup_str, isi_tup_tuple, isi_lst_int, isi_lst_bool, isi_lst_str, isi_lst_tuple, isi_none_int, isi_none_bool, isi_none_str, isi_none_tuple, Int.cast_ofNat_Int, decide_true, decide_false, decide_eq_true_eq, not_true_eq_false, not_false_eq_true, Int.reduceEq, Int.reduceNe, Int.reduceLE, Int.reduceLT, Int.reduceAdd, Int.reduceSub, Int.reduceMul, Int.reduceNeg, ite_self, dMax2_int, dInR_int, gInR, le_bezout_0, fb_need_integer_row_0, le_gcd_row_of_0, fb_gcd_row_of_0, ez_gcd_row_of_0, le_shows_gcd_row_0, le_shows_gcd_row_1, le__law_integers_0, lt__law_integers_0, fb__law_integer_0, le__law_is_row_0, le__law_is_row_1, lt__law_is_row_0, le__law_gcd_right_0, lt__law_gcd_right_0, le__law_gcd_right_1, le__law_gcd_right_2, lt__law_gcd_right_1, le__law_lcm_right_0, le__law_lcm_right_1, lt__law_lcm_right_0, le__law_lcm_right_2, lt__law_lcm_right_1, fb__law_row_right_0, le__law_row_right_0, le__law_row_right_1, lt__law_row_right_0, le__law_row_right_2, lt__law_row_right_1, le__law_written_0, lt__law_written_0, le__law_written_1, le__law_written_2]
theorem e_law_integers {n : Int} (hz : zs.length < 1000) : G__law_integers [.dat (tupI zs), .dat (.int n)] cu = .ok (.bool (decide ((zs.length : Int) = n))) cu := by
  by_cases h : (zs.length : Int) = n
  · have hl : gLc (giTup (gVar 0)) [2] (ggName 2) lt__law_integers_0 le__law_integers_0 [.dat (tupI zs), .dat (.int n), .un] cu = .ok [] cu := by
      have z := gLcL_pure (gg := ggName 2) (gt := lt__law_integers_0) (ge := le__law_integers_0) (cu := cu) (ρ := [.dat (tupI zs), .dat (.int n), .un]) (fun _ => false) id (ds := zs.map .int) fun d hd => by
        obtain ⟨i, _, rfl⟩ := List.mem_map.mp hd
        refine ⟨_, rfl, ?_, fun z => nomatch z⟩
        simp only [gFn, gSeq, gIf, gSet, gSetO, gfCat, gfDisp, gBin, gCall, gApp, gaNil, gaCons, gaCup, gC_eq, gVar_un, gDisp, gSlice, gPart, gNoPart, gTru, gBool, gChain, gAnd, gOr, gNot, gAndV, gOrV, gNotV, gIfE, gUn, gCupF_un, gCupT_un, gCupSet, gRet, gAsg, gPar, gPar3, gDrop, gRaise, gSkip, gIsi, gFor, giTup, giLst, giArg, gLc, gL, gFrz, gApd, gYes, gAll, ggName, ggTup, ggCons, ggNil, wipeE, dLst, dTup, gForL_nil, gForL_cons, gLcL_nil, gLcL_cons, dZip_tup, dZip_lst, zipD_cc, zipD_nil, cutD_1, dCut_tup, dCut_lst, dAbs_ab, dAdd_tup, dAdd_lst, Rs.bind_ok, Rs.bind_exc, Rs.bind_stuck, Rs.ofO_some, Rs.nox_ok, List.getElem?_cons_zero, List.getElem?_cons_succ, List.set_cons_zero, List.set_cons_succ, List.length_cons, List.length_nil, List.length_append, List.length_map, List.replicate_succ, List.replicate_zero, List.cons_append, List.nil_append, List.append_nil, Nat.reduceAdd, Nat.reduceSub, Nat.reduceLT, Nat.reduceLeDiff, Nat.reduceEqDiff, Nat.zero_add, dAdd_int, dMul_int, fI0_int, fB0_int, fI_int, dEq_int, dNe_int, dEq_str, dNe_str, dEq_bl, dBool_bl, dTru_bl, dNeg_int, dToInt_int, dToInt_bl, dLen_tup, dLen_lst, dMin2_int, dMulT_int, dToTup_lst, dToTup_tup, dToLst_lst, dToLst_tup, dats_nil, dats_cons, dIx_tup, dIx_lst, atI0, atI1, atI2, atI3, atI4, atI5, dInt_int, Option.map_some, Option.map_none, Option.bind_some, if_true, if_false, ite_true, ite_false, Bool.false_eq_true, Bool.true_eq_false, reduceIte, Bool.not_true, Bool.not_false, isi_int_int, isi_int_bool, isi_int_str, isi_int_tuple, isi_bool_int, isi_bool_bool, isi_bool_str, isi_bool_tuple, isi_str_int, isi_str_bool, isi_str_str, isi_str_tuple, isi_tup_int, isi_tup_bool, isi_tup_str, isi_tup_tuple, isi_lst_int, isi_lst_bool, isi_lst_str, isi_lst_tuple, isi_none_int, isi_none_bool, isi_none_str, isi_none_tuple, Int.cast_ofNat_Int, decide_true, decide_false, decide_eq_true_eq, not_true_eq_false, not_false_eq_true, Int.reduceEq, Int.reduceNe, Int.reduceLE, Int.reduceLT, Int.reduceAdd, Int.reduceSub, Int.reduceMul, Int.reduceNeg, ite_self, dMax2_int, dInR_int, gInR, le_bezout_0, fb_need_integer_row_0, le_gcd_row_of_0, fb_gcd_row_of_0, ez_gcd_row_of_0, le_shows_gcd_row_0, le_shows_gcd_row_1, le__law_integers_0, lt__law_integers_0, fb__law_integer_0, le__law_is_row_0, le__law_is_row_1, lt__law_is_row_0, le__law_gcd_right_0, lt__law_gcd_right_0, le__law_gcd_right_1, le__law_gcd_right_2, lt__law_gcd_right_1, le__law_lcm_right_0, le__law_lcm_right_1, lt__law_lcm_right_0, le__law_lcm_right_2, lt__law_lcm_right_1, fb__law_row_right_0, le__law_row_right_0, le__law_row_right_1, lt__law_row_right_0, le__law_row_right_2, lt__law_row_right_1, le__law_written_0, lt__law_written_0, le__law_written_1, le__law_written_2]
      have hz' : (zs.map PyData.int).length < 16777216 := by rw [List.length_map]; omega
      simp only [gLc, giTup, gVar_un, List.getElem?_cons_zero, Rs.bind_ok, dTup, Rs.ofO_some, hz', if_true, wipeE, List.set_cons_succ, List.set_cons_zero]
      rw [z, List.filter_eq_nil_iff.mpr (fun a _ => Bool.false_ne_true)]
      rfl
    have h' : ((zs.map PyData.int).length : Int) = n := by rw [List.length_map]; exact h
    simp only [G__law_integers, g__law_integers, gFn, gSeq, gIf, gOr, gNot, gTru, gIsi, gVar_un, List.cons_append, List.nil_append, List.length_cons, List.length_nil, Nat.reduceAdd, Nat.reduceSub, List.replicate_succ, List.replicate_zero, List.getElem?_cons_zero, List.getElem?_cons_succ, Rs.bind_ok, isi_tup_tuple, Option.map_some, Rs.ofO_some, dTru_bl, Bool.not_true, Bool.false_eq_true, if_false, gBool, gBin, gCall, gaCons, gaNil, dats_cons, dats_nil, Option.bind_some, dLen_tup, dNe_int, h', decide_true, dBool_bl, gSkip, gRet, gL, hl, gDisp, Nat.zero_le, if_true, eqL_nil2, h]
  · have h' : ((zs.map PyData.int).length : Int) = n ↔ False := by rw [List.length_map]; exact ⟨h, False.elim⟩
    simp only [G__law_integers, g__law_integers, h, h', gFn, gSeq, gIf, gSet, gSetO, gfCat, gfDisp, gBin, gCall, gApp, gaNil, gaCons, gaCup, gC_eq, gVar_un, gDisp, gSlice, gPart, gNoPart, gTru, gBool, gChain, gAnd, gOr, gNot, gAndV, gOrV, gNotV, gIfE, gUn, gCupF_un, gCupT_un, gCupSet, gRet, gAsg, gPar, gPar3, gDrop, gRaise, gSkip, gIsi, gFor, giTup, giLst, giArg, gLc, gL, gFrz, gApd, gYes, gAll, ggName, ggTup, ggCons, ggNil, wipeE, dLst, dTup, gForL_nil, gForL_cons, gLcL_nil, gLcL_cons, dZip_tup, dZip_lst, zipD_cc, zipD_nil, cutD_1, dCut_tup, dCut_lst, dAbs_ab, dAdd_tup, dAdd_lst, Rs.bind_ok, Rs.bind_exc, Rs.bind_stuck, Rs.ofO_some, Rs.nox_ok, List.getElem?_cons_zero, List.getElem?_cons_succ, List.set_cons_zero, List.set_cons_succ, List.length_cons, List.length_nil, List.length_append, List.length_map, List.replicate_succ, List.replicate_zero, List.cons_append, List.nil_append, List.append_nil, Nat.reduceAdd, Nat.reduceSub, Nat.reduceLT, Nat.reduceLeDiff, Nat.reduceEqDiff, Nat.zero_add, dAdd_int, dMul_int, fI0_int, fB0_int, fI_int, dEq_int, dNe_int, dEq_str, dNe_str, dEq_bl, dBool_bl, dTru_bl, dNeg_int, dToInt_int, dToInt_bl, dLen_tup, dLen_lst, dMin2_int, dMulT_int, dToTup_lst, dToTup_tup, dToLst_lst, dToLst_tup, dats_nil, dats_cons, dIx_tup, dIx_lst, atI0, atI1, atI2, atI3, atI4, atI5, dInt_int, Option.map_some, Option.map_none, Option.bind_some, if_true, if_false, ite_true, ite_false, Bool.false_eq_true, Bool.true_eq_false, reduceIte, Bool.not_true, Bool.not_false, isi_int_int, isi_int_bool, isi_int_str, isi_int_tuple, isi_bool_int, isi_bool_bool, isi_bool_str, isi_bool_tuple, isi_str_int, isi_str_bool, isi_str_str, isi_str_tuple, isi_tup_int, isi_tup_bool, isi_tup_str, isi_tup_tuple, isi_lst_int, isi_lst_bool, isi_lst_str, isi_lst_tuple, isi_none_int, isi_none_bool, isi_none_str, isi_none_tuple, Int.cast_ofNat_Int, decide_true, decide_false, decide_eq_true_eq, not_true_eq_false, not_false_eq_true, Int.reduceEq, Int.reduceNe, Int.reduceLE, Int.reduceLT, Int.reduceAdd, Int.reduceSub, Int.reduceMul, Int.reduceNeg, ite_self, dMax2_int, dInR_int, gInR, List.length_map]
theorem e_cwt {x y : Int} : wt__law_common_0 [.dat (.int x), .dat (.int y)] cu = .ok (decide (y ≠ 0)) cu := by
  by_cases h : y = 0
  · simp only [wt__law_common_0, h, ne_eq, gFn, gSeq, gIf, gSet, gSetO, gfCat, gfDisp, gBin, gCall, gApp, gaNil, gaCons, gaCup, gC_eq, gVar_un, gDisp, gSlice, gPart, gNoPart, gTru, gBool, gChain, gAnd, gOr, gNot, gAndV, gOrV, gNotV, gIfE, gUn, gCupF_un, gCupT_un, gCupSet, gRet, gAsg, gPar, gPar3, gDrop, gRaise, gSkip, gIsi, gFor, giTup, giLst, giArg, gLc, gL, gFrz, gApd, gYes, gAll, ggName, ggTup, ggCons, ggNil, wipeE, dLst, dTup, gForL_nil, gForL_cons, gLcL_nil, gLcL_cons, dZip_tup, dZip_lst, zipD_cc, zipD_nil, cutD_1, dCut_tup, dCut_lst, dAbs_ab, dAdd_tup, dAdd_lst, Rs.bind_ok, Rs.bind_exc, Rs.bind_stuck, Rs.ofO_some, Rs.nox_ok, List.getElem?_cons_zero, List.getElem?_cons_succ, List.set_cons_zero, List.set_cons_succ, List.length_cons, List.length_nil, List.length_append, List.length_map, List.replicate_succ, List.replicate_zero, List.cons_append, List.nil_append, List.append_nil, Nat.reduceAdd, Nat.reduceSub, Nat.reduceLT, Nat.reduceLeDiff, Nat.reduceEqDiff, Nat.zero_add, dAdd_int, dMul_int, fI0_int, fB0_int, fI_int, dEq_int, dNe_int, dEq_str, dNe_str, dEq_bl, dBool_bl, dTru_bl, dNeg_int, dToInt_int, dToInt_bl, dLen_tup, dLen_lst, dMin2_int, dMulT_int, dToTup_lst, dToTup_tup, dToLst_lst, dToLst_tup, dats_nil, dats_cons, dIx_tup, dIx_lst, atI0, atI1, atI2, atI3, atI4, atI5, dInt_int, Option.map_some, Option.map_none, Option.bind_some, if_true, if_false, ite_true, ite_false, Bool.false_eq_true, Bool.true_eq_false, reduceIte, Bool.not_true, Bool.not_false, isi_int_int, isi_int_bool, isi_int_str, isi_int_tuple, isi_bool_int, isi_bool_bool, isi_bool_str, isi_bool_tuple, isi_str_int, isi_str_bool, isi_str_str, isi_str_tuple, isi_tup_int, isi_tup_bool, isi_tup_str, isi_tup_tuple, isi_lst_int, isi_lst_bool, isi_lst_str, isi_lst_tuple, isi_none_int, isi_none_bool, isi_none_str, isi_none_tuple, Int.cast_ofNat_Int, decide_true, decide_false, decide_eq_true_eq, not_true_eq_false, not_false_eq_true, Int.reduceEq, Int.reduceNe, Int.reduceLE, Int.reduceLT, Int.reduceAdd, Int.reduceSub, Int.reduceMul, Int.reduceNeg, ite_self, dMax2_int, dInR_int, gInR]
  · simp only [wt__law_common_0, h, ne_eq, gFn, gSeq, gIf, gSet, gSetO, gfCat, gfDisp, gBin, gCall, gApp, gaNil, gaCons, gaCup, gC_eq, gVar_un, gDisp, gSlice, gPart, gNoPart, gTru, gBool, gChain, gAnd, gOr, gNot, gAndV, gOrV, gNotV, gIfE, gUn, gCupF_un, gCupT_un, gCupSet, gRet, gAsg, gPar, gPar3, gDrop, gRaise, gSkip, gIsi, gFor, giTup, giLst, giArg, gLc, gL, gFrz, gApd, gYes, gAll, ggName, ggTup, ggCons, ggNil, wipeE, dLst, dTup, gForL_nil, gForL_cons, gLcL_nil, gLcL_cons, dZip_tup, dZip_lst, zipD_cc, zipD_nil, cutD_1, dCut_tup, dCut_lst, dAbs_ab, dAdd_tup, dAdd_lst, Rs.bind_ok, Rs.bind_exc, Rs.bind_stuck, Rs.ofO_some, Rs.nox_ok, List.getElem?_cons_zero, List.getElem?_cons_succ, List.set_cons_zero, List.set_cons_succ, List.length_cons, List.length_nil, List.length_append, List.length_map, List.replicate_succ, List.replicate_zero, List.cons_append, List.nil_append, List.append_nil, Nat.reduceAdd, Nat.reduceSub, Nat.reduceLT, Nat.reduceLeDiff, Nat.reduceEqDiff, Nat.zero_add, dAdd_int, dMul_int, fI0_int, fB0_int, fI_int, dEq_int, dNe_int, dEq_str, dNe_str, dEq_bl, dBool_bl, dTru_bl, dNeg_int, dToInt_int, dToInt_bl, dLen_tup, dLen_lst, dMin2_int, dMulT_int, dToTup_lst, dToTup_tup, dToLst_lst, dToLst_tup, dats_nil, dats_cons, dIx_tup, dIx_lst, atI0, atI1, atI2, atI3, atI4, atI5, dInt_int, Option.map_some, Option.map_none, Option.bind_some, if_true, if_false, ite_true, ite_false, Bool.false_eq_true, Bool.true_eq_false, reduceIte, Bool.not_true, Bool.not_false, isi_int_int, isi_int_bool, isi_int_str, isi_int_tuple, isi_bool_int, isi_bool_bool, isi_bool_str, isi_bool_tuple, isi_str_int, isi_str_bool, isi_str_str, isi_str_tuple, isi_tup_int, isi_tup_bool, isi_tup_str, isi_tup_tuple, isi_lst_int, isi_lst_bool, isi_lst_str, isi_lst_tuple, isi_none_int, isi_none_bool, isi_none_str, isi_none_tuple, Int.cast_ofNat_Int, decide_true, decide_false, decide_eq_true_eq, not_true_eq_false, not_false_eq_true, Int.reduceEq, Int.reduceNe, Int.reduceLE, Int.reduceLT, Int.reduceAdd, Int.reduceSub, Int.reduceMul, Int.reduceNeg, ite_self, dMax2_int, dInR_int, gInR]
theorem e_cwb {x y : Int} (h : y ≠ 0) : wb__law_common_0 [.dat (.int x), .dat (.int y)] cu = .ok (.nx [.dat (.int y), .dat (.int (x.fmod y))]) cu := by
  have m : modOk x y = true := modOk_b h
  simp only [wb__law_common_0, m, gFn, gSeq, gIf, gSet, gSetO, gfCat, gfDisp, gBin, gCall, gApp, gaNil, gaCons, gaCup, gC_eq, gVar_un, gDisp, gSlice, gPart, gNoPart, gTru, gBool, gChain, gAnd, gOr, gNot, gAndV, gOrV, gNotV, gIfE, gUn, gCupF_un, gCupT_un, gCupSet, gRet, gAsg, gPar, gPar3, gDrop, gRaise, gSkip, gIsi, gFor, giTup, giLst, giArg, gLc, gL, gFrz, gApd, gYes, gAll, ggName, ggTup, ggCons, ggNil, wipeE, dLst, dTup, gForL_nil, gForL_cons, gLcL_nil, gLcL_cons, dZip_tup, dZip_lst, zipD_cc, zipD_nil, cutD_1, dCut_tup, dCut_lst, dAbs_ab, dAdd_tup, dAdd_lst, Rs.bind_ok, Rs.bind_exc, Rs.bind_stuck, Rs.ofO_some, Rs.nox_ok, List.getElem?_cons_zero, List.getElem?_cons_succ, List.set_cons_zero, List.set_cons_succ, List.length_cons, List.length_nil, List.length_append, List.length_map, List.replicate_succ, List.replicate_zero, List.cons_append, List.nil_append, List.append_nil, Nat.reduceAdd, Nat.reduceSub, Nat.reduceLT, Nat.reduceLeDiff, Nat.reduceEqDiff, Nat.zero_add, dAdd_int, dMul_int, fI0_int, fB0_int, fI_int, dEq_int, dNe_int, dEq_str, dNe_str, dEq_bl, dBool_bl, dTru_bl, dNeg_int, dToInt_int, dToInt_bl, dLen_tup, dLen_lst, dMin2_int, dMulT_int, dToTup_lst, dToTup_tup, dToLst_lst, dToLst_tup, dats_nil, dats_cons, dIx_tup, dIx_lst, atI0, atI1, atI2, atI3, atI4, atI5, dInt_int, Option.map_some, Option.map_none, Option.bind_some, if_true, if_false, ite_true, ite_false, Bool.false_eq_true, Bool.true_eq_false, reduceIte, Bool.not_true, Bool.not_false, isi_int_int, isi_int_bool, isi_int_str, isi_int_tuple, isi_bool_int, isi_bool_bool, isi_bool_str, isi_bool_tuple, isi_str_int, isi_str_bool, isi_str_str, isi_str_tuple, isi_tup_int, isi_tup_bool, isi_tup_str, isi_tup_tuple, isi_lst_int, isi_lst_bool, isi_lst_str, isi_lst_tuple, isi_none_int, isi_none_bool, isi_none_str, isi_none_tuple, Int.cast_ofNat_Int, decide_true, decide_false, decide_eq_true_eq, not_true_eq_false, not_false_eq_true, Int.reduceEq, Int.reduceNe, Int.reduceLE, Int.reduceLT, Int.reduceAdd, Int.reduceSub, Int.reduceMul, Int.reduceNeg, ite_self, dMax2_int, dInR_int, gInR]
theorem gcd_step {x y : Int} (hx : 0 ≤ x) (hy : 0 ≤ y) : Int.gcd y (x.fmod y) = Int.gcd x y := by
  rw [Int.fmod_eq_emod_of_nonneg x hy]
  obtain ⟨m, rfl⟩ := Int.eq_ofNat_of_zero_le hx
  obtain ⟨k, rfl⟩ := Int.eq_ofNat_of_zero_le hy
  rw [← Int.natCast_emod, Int.gcd_natCast_natCast, Int.gcd_natCast_natCast, Nat.gcd_comm m k, Nat.gcd_rec k m, Nat.gcd_comm]
theorem e_cwhile : ∀ (n : Nat) {x y : Int}, 0 ≤ x → 0 ≤ y → y.toNat < n → gWhileF wt__law_common_0 wb__law_common_0 n [.dat (.int x), .dat (.int y)] cu = .ok (.nx [.dat (.int (Int.gcd x y)), .dat (.int 0)]) cu
  | 0, _, _, _, _, h => by omega
  | n + 1, x, y, hx, hy, hn => by
    rw [gWhileF_succ, e_cwt, Rs.bind_ok]
    by_cases c : y = 0
    · subst c
      rw [decide_eq_false (fun h => h rfl), if_neg Bool.false_ne_true]
      have : ((Int.gcd x 0 : Nat) : Int) = x := by rw [Int.gcd_zero_right]; omega
      rw [this]
    · have h0 : 0 < y := by omega
      have h1 := fmod_lo (a := x) h0
      have h2 := fmod_hi (a := x) h0
      rw [decide_eq_true c, if_pos rfl, e_cwb c, Rs.bind_ok]
      show gWhileF wt__law_common_0 wb__law_common_0 n _ cu = _
      rw [e_cwhile n (by omega) h1 (by omega), gcd_step hx hy]
theorem ab_natAbs {a : Int} : (ab a).natAbs = a.natAbs := by unfold ab; split <;> omega
theorem e_common {a b : Int} : G__law_common [.dat (.int a), .dat (.int b)] cu = .ok (.int (Int.gcd a b)) cu := by
  have hw : gWhile (fun ρ _ => fuelCommon ρ) wt__law_common_0 wb__law_common_0 [.dat (.int (ab a)), .dat (.int (ab b))] cu = .ok (.nx [.dat (.int (Int.gcd (ab a) (ab b))), .dat (.int 0)]) cu :=
    e_cwhile ((ab b).natAbs + 2) ab_nn ab_nn (by have := ab_nn (x := b); omega)
  have e : Int.gcd (ab a) (ab b) = Int.gcd a b := by unfold Int.gcd; rw [ab_natAbs, ab_natAbs]
  rw [e] at hw
  simp only [G__law_common, g__law_common, hw, gFn, gSeq, gIf, gSet, gSetO, gfCat, gfDisp, gBin, gCall, gApp, gaNil, gaCons, gaCup, gC_eq, gVar_un, gDisp, gSlice, gPart, gNoPart, gTru, gBool, gChain, gAnd, gOr, gNot, gAndV, gOrV, gNotV, gIfE, gUn, gCupF_un, gCupT_un, gCupSet, gRet, gAsg, gPar, gPar3, gDrop, gRaise, gSkip, gIsi, gFor, giTup, giLst, giArg, gLc, gL, gFrz, gApd, gYes, gAll, ggName, ggTup, ggCons, ggNil, wipeE, dLst, dTup, gForL_nil, gForL_cons, gLcL_nil, gLcL_cons, dZip_tup, dZip_lst, zipD_cc, zipD_nil, cutD_1, dCut_tup, dCut_lst, dAbs_ab, dAdd_tup, dAdd_lst, Rs.bind_ok, Rs.bind_exc, Rs.bind_stuck, Rs.ofO_some, Rs.nox_ok, List.getElem?_cons_zero, List.getElem?_cons_succ, List.set_cons_zero, List.set_cons_succ, List.length_cons, List.length_nil, List.length_append, List.length_map, List.replicate_succ, List.replicate_zero, List.cons_append, List.nil_append, List.append_nil, Nat.reduceAdd, Nat.reduceSub, Nat.reduceLT, Nat.reduceLeDiff, Nat.reduceEqDiff, Nat.zero_add, dAdd_int, dMul_int, fI0_int, fB0_int, fI_int, dEq_int, dNe_int, dEq_str, dNe_str, dEq_bl, dBool_bl, dTru_bl, dNeg_int, dToInt_int, dToInt_bl, dLen_tup, dLen_lst, dMin2_int, dMulT_int, dToTup_lst, dToTup_tup, dToLst_lst, dToLst_tup, dats_nil, dats_cons, dIx_tup, dIx_lst, atI0, atI1, atI2, atI3, atI4, atI5, dInt_int, Option.map_some, Option.map_none, Option.bind_some, if_true, if_false, ite_true, ite_false, Bool.false_eq_true, Bool.true_eq_false, reduceIte, Bool.not_true, Bool.not_false, isi_int_int, isi_int_bool, isi_int_str, isi_int_tuple, isi_bool_int, isi_bool_bool, isi_bool_str, isi_bool_tuple, isi_str_int, isi_str_bool, isi_str_str, isi_str_tuple, isi_tup_int, isi_tup_bool, isi_tup_str, isi_tup_tuple, isi_lst_int, isi_lst_bool, isi_lst_str, isi_lst_tuple, isi_none_int, isi_none_bool, isi_none_str, isi_none_tuple, Int.cast_ofNat_Int, decide_true, decide_false, decide_eq_true_eq, not_true_eq_false, not_false_eq_true, Int.reduceEq, Int.reduceNe, Int.reduceLE, Int.reduceLT, Int.reduceAdd, Int.reduceSub, Int.reduceMul, Int.reduceNeg, ite_self, dMax2_int, dInR_int, gInR, le_bezout_0, fb_need_integer_row_0, le_gcd_row_of_0, fb_gcd_row_of_0, ez_gcd_row_of_0, le_shows_gcd_row_0, le_shows_gcd_row_1, le__law_integers_0, lt__law_integers_0, fb__law_integer_0, le__law_is_row_0, le__law_is_row_1, lt__law_is_row_0, le__law_gcd_right_0, lt__law_gcd_right_0, le__law_gcd_right_1, le__law_gcd_right_2, lt__law_gcd_right_1, le__law_lcm_right_0, le__law_lcm_right_1, lt__law_lcm_right_0, le__law_lcm_right_2, lt__law_lcm_right_1, fb__law_row_right_0, le__law_row_right_0, le__law_row_right_1, lt__law_row_right_0, le__law_row_right_2, lt__law_row_right_1, le__law_written_0, lt__law_written_0, le__law_written_1, le__law_written_2]
end
end Prog

set_option Elab.async false
set_option linter.all false
set_option maxRecDepth 100000
set_option maxHeartbeats 4000000
set_option autoImplicit false
set_option exponentiation.threshold 4000
namespace Prog
open PySem PySem.Spec L2 DL
abbrev Big : Int := 10 ^ 50 * 10 ^ 50
section
variable {cu : Cu} {i a b : Int} {zs : List Int}
theorem e_is_integer_int : G_is_integer [.dat (.int i)] cu = .ok (.bool true) cu := by
  simp only [G_is_integer, g_is_integer, gFn, gSeq, gIf, gSet, gSetO, gfCat, gfDisp, gBin, gCall, gApp, gaNil, gaCons, gaCup, gC_eq, gVar_un, gDisp, gSlice, gPart, gNoPart, gTru, gBool, gChain, gAnd, gOr, gNot, gAndV, gOrV, gNotV, gIfE, gUn, gCupF_un, gCupT_un, gCupSet, gRet, gAsg, gPar, gPar3, gDrop, gRaise, gSkip, gIsi, gFor, giTup, giLst, giArg, gLc, gL, gFrz, gApd, gYes, gAll, ggName, ggTup, ggCons, ggNil, wipeE, dLst, dTup, gForL_nil, gForL_cons, gLcL_nil, gLcL_cons, dZip_tup, dZip_lst, zipD_cc, zipD_nil, cutD_1, dCut_tup, dCut_lst, dAbs_ab, dAdd_tup, dAdd_lst, Rs.bind_ok, Rs.bind_exc, Rs.bind_stuck, Rs.ofO_some, Rs.nox_ok, List.getElem?_cons_zero, List.getElem?_cons_succ, List.set_cons_zero, List.set_cons_succ, List.length_cons, List.length_nil, List.length_append, List.length_map, List.replicate_succ, List.replicate_zero, List.cons_append, List.nil_append, List.append_nil, Nat.reduceAdd, Nat.reduceSub, Nat.reduceLT, Nat.reduceLeDiff, Nat.reduceEqDiff, Nat.zero_add, dAdd_int, dMul_int, fI0_int, fB0_int, fI_int, dEq_int, dNe_int, dEq_str, dNe_str, dEq_bl, dBool_bl, dTru_bl, dNeg_int, dToInt_int, dToInt_bl, dLen_tup, dLen_lst, dMin2_int, dMulT_int, dToTup_lst, dToTup_tup, dToLst_lst, dToLst_tup, dats_nil, dats_cons, dIx_tup, dIx_lst, atI0, atI1, atI2, atI3, atI4, atI5, dInt_int, Option.map_some, Option.map_none, Option.bind_some, if_true, if_false, ite_true, ite_false, Bool.false_eq_true, Bool.true_eq_false, reduceIte, Bool.not_true, Bool.not_false, isi_int_int, isi_int_bool, isi_int_str, isi_int_tuple, isi_bool_int, isi_bool_bool, isi_bool_str, isi_bool_tuple, isi_str_int, isi_str_bool, isi_str_str, isi_str_tuple, isi_tup_int, isi_tup_bool, isi_tup_str, isi_tup_tuple, isi_lst_int, isi_lst_bool, isi_lst_str, isi_lst_tuple, isi_none_int, isi_none_bool, isi_none_str, isi_none_tuple, Int.cast_ofNat_Int, decide_true, decide_false, decide_eq_true_eq, not_true_eq_false, not_false_eq_true, Int.reduceEq, Int.reduceNe, Int.reduceLE, Int.reduceLT, Int.reduceAdd, Int.reduceSub, Int.reduceMul, Int.reduceNeg, ite_self, dMax2_int, dInR_int, gInR, le_bezout_0, fb_need_integer_row_0, le_gcd_row_of_0, fb_gcd_row_of_0, ez_gcd_row_of_0, le_shows_gcd_row_0, le_shows_gcd_row_1, le__law_integers_0, lt__law_integers_0, fb__law_integer_0, le__law_is_row_0, le__law_is_row_1, lt__law_is_row_0, le__law_gcd_right_0, lt__law_gcd_right_0, le__law_gcd_right_1, le__law_gcd_right_2, lt__law_gcd_right_1, le__law_lcm_right_0, le__law_lcm_right_1, lt__law_lcm_right_0, le__law_lcm_right_2, lt__law_lcm_right_1, fb__law_row_right_0, le__law_row_right_0, le__law_row_right_1, lt__law_row_right_0, le__law_row_right_2, lt__law_row_right_1, le__law_written_0, lt__law_written_0, le__law_written_1, le__law_written_2]
theorem e_is_integer_in : G_is_integer_in [.dat (.int i), .dat (.int a), .dat (.int b)] cu = .ok (.bool (decide (a ≤ i ∧ i ≤ b))) cu := by
  by_cases h : a ≤ i
  · simp only [G_is_integer_in, g_is_integer_in, e_is_integer_int, h, true_and, gFn, gSeq, gIf, gSet, gSetO, gfCat, gfDisp, gBin, gCall, gApp, gaNil, gaCons, gaCup, gC_eq, gVar_un, gDisp, gSlice, gPart, gNoPart, gTru, gBool, gChain, gAnd, gOr, gNot, gAndV, gOrV, gNotV, gIfE, gUn, gCupF_un, gCupT_un, gCupSet, gRet, gAsg, gPar, gPar3, gDrop, gRaise, gSkip, gIsi, gFor, giTup, giLst, giArg, gLc, gL, gFrz, gApd, gYes, gAll, ggName, ggTup, ggCons, ggNil, wipeE, dLst, dTup, gForL_nil, gForL_cons, gLcL_nil, gLcL_cons, dZip_tup, dZip_lst, zipD_cc, zipD_nil, cutD_1, dCut_tup, dCut_lst, dAbs_ab, dAdd_tup, dAdd_lst, Rs.bind_ok, Rs.bind_exc, Rs.bind_stuck, Rs.ofO_some, Rs.nox_ok, List.getElem?_cons_zero, List.getElem?_cons_succ, List.set_cons_zero, List.set_cons_succ, List.length_cons, List.length_nil, List.length_append, List.length_map, List.replicate_succ, List.replicate_zero, List.cons_append, List.nil_append, List.append_nil, Nat.reduceAdd, Nat.reduceSub, Nat.reduceLT, Nat.reduceLeDiff, Nat.reduceEqDiff, Nat.zero_add, dAdd_int, dMul_int, fI0_int, fB0_int, fI_int, dEq_int, dNe_int, dEq_str, dNe_str, dEq_bl, dBool_bl, dTru_bl, dNeg_int, dToInt_int, dToInt_bl, dLen_tup, dLen_lst, dMin2_int, dMulT_int, dToTup_lst, dToTup_tup, dToLst_lst, dToLst_tup, dats_nil, dats_cons, dIx_tup, dIx_lst, atI0, atI1, atI2, atI3, atI4, atI5, dInt_int, Option.map_some, Option.map_none, Option.bind_some, if_true, if_false, ite_true, ite_false, Bool.false_eq_true, Bool.true_eq_false, reduceIte, Bool.not_true, Bool.not_false, isi_int_int, isi_int_bool, isi_int_str, isi_int_tuple, isi_bool_int, isi_bool_bool, isi_bool_str, isi_bool_tuple, isi_str_int, isi_str_bool, isi_str_str, isi_str_tuple, isi_tup_int, isi_tup_bool, isi_tup_str, isi_tup_tuple, isi_lst_int, isi_lst_bool, isi_lst_str, isi_lst_tuple, isi_none_int, isi_none_bool, isi_none_str, isi_none_tuple, Int.cast_ofNat_Int, decide_true, decide_false, decide_eq_true_eq, not_true_eq_false, not_false_eq_true, Int.reduceEq, Int.reduceNe, Int.reduceLE, Int.reduceLT, Int.reduceAdd, Int.reduceSub, Int.reduceMul, Int.reduceNeg, ite_self, dMax2_int, dInR_int, gInR, le_bezout_0, fb_need_integer_row_0, le_gcd_row_of_0, fb_gcd_row_of_0, ez_gcd_row_of_0, le_shows_gcd_row_0, le_shows_gcd_row_1, le__law_integers_0, lt__law_integers_0, fb__law_integer_0, le__law_is_row_0, le__law_is_row_1, lt__law_is_row_0, le__law_gcd_right_0, lt__law_gcd_right_0, le__law_gcd_right_1, le__law_gcd_right_2, lt__law_gcd_right_1, le__law_lcm_right_0, le__law_lcm_right_1, lt__law_lcm_right_0, le__law_lcm_right_2, lt__law_lcm_right_1, fb__law_row_right_0, le__law_row_right_0, le__law_row_right_1, lt__law_row_right_0, le__law_row_right_2, lt__law_row_right_1, le__law_written_0, lt__law_written_0, le__law_written_1, le__law_written_2]
  · simp only [G_is_integer_in, g_is_integer_in, e_is_integer_int, h, false_and, gFn, gSeq, gIf, gSet, gSetO, gfCat, gfDisp, gBin, gCall, gApp, gaNil, gaCons, gaCup, gC_eq, gVar_un, gDisp, gSlice, gPart, gNoPart, gTru, gBool, gChain, gAnd, gOr, gNot, gAndV, gOrV, gNotV, gIfE, gUn, gCupF_un, gCupT_un, gCupSet, gRet, gAsg, gPar, gPar3, gDrop, gRaise, gSkip, gIsi, gFor, giTup, giLst, giArg, gLc, gL, gFrz, gApd, gYes, gAll, ggName, ggTup, ggCons, ggNil, wipeE, dLst, dTup, gForL_nil, gForL_cons, gLcL_nil, gLcL_cons, dZip_tup, dZip_lst, zipD_cc, zipD_nil, cutD_1, dCut_tup, dCut_lst, dAbs_ab, dAdd_tup, dAdd_lst, Rs.bind_ok, Rs.bind_exc, Rs.bind_stuck, Rs.ofO_some, Rs.nox_ok, List.getElem?_cons_zero, List.getElem?_cons_succ, List.set_cons_zero, List.set_cons_succ, List.length_cons, List.length_nil, List.length_append, List.length_map, List.replicate_succ, List.replicate_zero, List.cons_append, List.nil_append, List.append_nil, Nat.reduceAdd, Nat.reduceSub, Nat.reduceLT, Nat.reduceLeDiff, Nat.reduceEqDiff, Nat.zero_add, dAdd_int, dMul_int, fI0_int, fB0_int, fI_int, dEq_int, dNe_int, dEq_str, dNe_str, dEq_bl, dBool_bl, dTru_bl, dNeg_int, dToInt_int, dToInt_bl, dLen_tup, dLen_lst, dMin2_int, dMulT_int, dToTup_lst, dToTup_tup, dToLst_lst, dToLst_tup, dats_nil, dats_cons, dIx_tup, dIx_lst, atI0, atI1, atI2, atI3, atI4, atI5, dInt_int, Option.map_some, Option.map_none, Option.bind_some, if_true, if_false, ite_true, ite_false, Bool.false_eq_true, Bool.true_eq_false, reduceIte, Bool.not_true, Bool.not_false, isi_int_int, isi_int_bool, isi_int_str, isi_int_tuple, isi_bool_int, isi_bool_bool, isi_bool_str, isi_bool_tuple, isi_str_int, isi_str_bool, isi_str_str, isi_str_tuple, isi_tup_int, isi_tup_bool, isi_tup_str, isi_tup_tuple, isi_lst_int, isi_lst_bool, isi_lst_str, isi_lst_tuple, isi_none_int, isi_none_bool, isi_none_str, isi_none_tuple, Int.cast_ofNat_Int, decide_true, decide_false, decide_eq_true_eq, not_true_eq_false, not_false_eq_true, Int.reduceEq, Int.reduceNe, Int.reduceLE, Int.reduceLT, Int.reduceAdd, Int.reduceSub, Int.reduceMul, Int.reduceNeg, ite_self, dMax2_int, dInR_int, gInR, le_bezout_0, fb_need_integer_row_0, le_gcd_row_of_0, fb_gcd_row_of_0, ez_gcd_row_of_0, le_shows_gcd_row_0, le_shows_gcd_row_1, le__law_integers_0, lt__law_integers_0, fb__law_integer_0, le__law_is_row_0, le__law_is_row_1, lt__law_is_row_0, le__law_gcd_right_0, lt__law_gcd_right_0, le__law_gcd_right_1, le__law_gcd_right_2, lt__law_gcd_right_1, le__law_lcm_right_0, le__law_lcm_right_1, lt__law_lcm_right_0, le__law_lcm_right_2, lt__law_lcm_right_1, fb__law_row_right_0, le__law_row_right_0, le__law_row_right_1, lt__law_row_right_0, le__law_row_right_2, lt__law_row_right_1, le__law_written_0, lt__law_written_0, le__law_written_1, le__law_written_2]
theorem e_need_integer (h : a ≤ i ∧ i ≤ b) : G_need_integer [.dat (.int i), .dat (.int a), .dat (.int b)] cu = .ok .none cu := by
  simp only [G_need_integer, g_need_integer, e_is_integer_in, h, and_self, gFn, gSeq, gIf, gSet, gSetO, gfCat, gfDisp, gBin, gCall, gApp, gaNil, gaCons, gaCup, gC_eq, gVar_un, gDisp, gSlice, gPart, gNoPart, gTru, gBool, gChain, gAnd, gOr, gNot, gAndV, gOrV, gNotV, gIfE, gUn, gCupF_un, gCupT_un, gCupSet, gRet, gAsg, gPar, gPar3, gDrop, gRaise, gSkip, gIsi, gFor, giTup, giLst, giArg, gLc, gL, gFrz, gApd, gYes, gAll, ggName, ggTup, ggCons, ggNil, wipeE, dLst, dTup, gForL_nil, gForL_cons, gLcL_nil, gLcL_cons, dZip_tup, dZip_lst, zipD_cc, zipD_nil, cutD_1, dCut_tup, dCut_lst, dAbs_ab, dAdd_tup, dAdd_lst, Rs.bind_ok, Rs.bind_exc, Rs.bind_stuck, Rs.ofO_some, Rs.nox_ok, List.getElem?_cons_zero, List.getElem?_cons_succ, List.set_cons_zero, List.set_cons_succ, List.length_cons, List.length_nil, List.length_append, List.length_map, List.replicate_succ, List.replicate_zero, List.cons_append, List.nil_append, List.append_nil, Nat.reduceAdd, Nat.reduceSub, Nat.reduceLT, Nat.reduceLeDiff, Nat.reduceEqDiff, Nat.zero_add, dAdd_int, dMul_int, fI0_int, fB0_int, fI_int, dEq_int, dNe_int, dEq_str, dNe_str, dEq_bl, dBool_bl, dTru_bl, dNeg_int, dToInt_int, dToInt_bl, dLen_tup, dLen_lst, dMin2_int, dMulT_int, dToTup_lst, dToTup_tup, dToLst_lst, dToLst_tup, dats_nil, dats_cons, dIx_tup, dIx_lst, atI0, atI1, atI2, atI3, atI4, atI5, dInt_int, Option.map_some, Option.map_none, Option.bind_some, if_true, if_false, ite_true, ite_false, Bool.false_eq_true, Bool.true_eq_false, reduceIte, Bool.not_true, Bool.not_false, isi_int_int, isi_int_bool, isi_int_str, isi_int_tuple, isi_bool_int, isi_bool_bool, isi_bool_str, isi_bool_tuple, isi_str_int, isi_str_bool, isi_str_str, isi_str_tuple, isi_tup_int, isi_tup_bool, isi_tup_str, isi_tup_tuple, isi_lst_int, isi_lst_bool, isi_lst_str, isi_lst_tuple, isi_none_int, isi_none_bool, isi_none_str, isi_none_tuple, Int.cast_ofNat_Int, decide_true, decide_false, decide_eq_true_eq, not_true_eq_false, not_false_eq_true, Int.reduceEq, Int.reduceNe, Int.reduceLE, Int.reduceLT, Int.reduceAdd, Int.reduceSub, Int.reduceMul, Int.reduceNeg, ite_self, dMax2_int, dInR_int, gInR, le_bezout_0, fb_need_integer_row_0, le_gcd_row_of_0, fb_gcd_row_of_0, ez_gcd_row_of_0, le_shows_gcd_row_0, le_shows_gcd_row_1, le__law_integers_0, lt__law_integers_0, fb__law_integer_0, le__law_is_row_0, le__law_is_row_1, lt__law_is_row_0, le__law_gcd_right_0, lt__law_gcd_right_0, le__law_gcd_right_1, le__law_gcd_right_2, lt__law_gcd_right_1, le__law_lcm_right_0, le__law_lcm_right_1, lt__law_lcm_right_0, le__law_lcm_right_2, lt__law_lcm_right_1, fb__law_row_right_0, le__law_row_right_0, le__law_row_right_1, lt__law_row_right_0, le__law_row_right_2, lt__law_row_right_1, le__law_written_0, lt__law_written_0, le__law_written_1, le__law_written_2]
theorem e_are {n : Int} : G_are_integers [.dat (tupI zs), .dat (.int n)] cu = .ok (.bool (decide ((zs.length : Int) = n))) cu := by
  by_cases h : (zs.length : Int) = n
  · simp only [G_are_integers, g_are_integers, h, List.length_map, gFn, gSeq, gIf, gSet, gSetO, gfCat, gfDisp, gBin, gCall, gApp, gaNil, gaCons, gaCup, gC_eq, gVar_un, gDisp, gSlice, gPart, gNoPart, gTru, gBool, gChain, gAnd, gOr, gNot, gAndV, gOrV, gNotV, gIfE, gUn, gCupF_un, gCupT_un, gCupSet, gRet, gAsg, gPar, gPar3, gDrop, gRaise, gSkip, gIsi, gFor, giTup, giLst, giArg, gLc, gL, gFrz, gApd, gYes, gAll, ggName, ggTup, ggCons, ggNil, wipeE, dLst, dTup, gForL_nil, gForL_cons, gLcL_nil, gLcL_cons, dZip_tup, dZip_lst, zipD_cc, zipD_nil, cutD_1, dCut_tup, dCut_lst, dAbs_ab, dAdd_tup, dAdd_lst, Rs.bind_ok, Rs.bind_exc, Rs.bind_stuck, Rs.ofO_some, Rs.nox_ok, List.getElem?_cons_zero, List.getElem?_cons_succ, List.set_cons_zero, List.set_cons_succ, List.length_cons, List.length_nil, List.length_append, List.length_map, List.replicate_succ, List.replicate_zero, List.cons_append, List.nil_append, List.append_nil, Nat.reduceAdd, Nat.reduceSub, Nat.reduceLT, Nat.reduceLeDiff, Nat.reduceEqDiff, Nat.zero_add, dAdd_int, dMul_int, fI0_int, fB0_int, fI_int, dEq_int, dNe_int, dEq_str, dNe_str, dEq_bl, dBool_bl, dTru_bl, dNeg_int, dToInt_int, dToInt_bl, dLen_tup, dLen_lst, dMin2_int, dMulT_int, dToTup_lst, dToTup_tup, dToLst_lst, dToLst_tup, dats_nil, dats_cons, dIx_tup, dIx_lst, atI0, atI1, atI2, atI3, atI4, atI5, dInt_int, Option.map_some, Option.map_none, Option.bind_some, if_true, if_false, ite_true, ite_false, Bool.false_eq_true, Bool.true_eq_false, reduceIte, Bool.not_true, Bool.not_false, isi_int_int, isi_int_bool, isi_int_str, isi_int_tuple, isi_bool_int, isi_bool_bool, isi_bool_str, isi_bool_tuple, isi_str_int, isi_str_bool, isi_str_str, isi_str_tuple, isi_tup_int, isi_tup_bool, isi_tup_str, isi_tup_tuple, isi_lst_int, isi_lst_bool, isi_lst_str, isi_lst_tuple, isi_none_int, isi_none_bool, isi_none_str, isi_none_tuple, Int.cast_ofNat_Int, decide_true, decide_false, decide_eq_true_eq, not_true_eq_false, not_false_eq_true, Int.reduceEq, Int.reduceNe, Int.reduceLE, Int.reduceLT, Int.reduceAdd, Int.reduceSub, Int.reduceMul, Int.reduceNeg, ite_self, dMax2_int, dInR_int, gInR]
    simp only [gAll, gVar_un, List.getElem?_cons_zero, List.getElem?_cons_succ, Rs.bind_ok, all_ints]
  · simp only [G_are_integers, g_are_integers, h, List.length_map, gFn, gSeq, gIf, gSet, gSetO, gfCat, gfDisp, gBin, gCall, gApp, gaNil, gaCons, gaCup, gC_eq, gVar_un, gDisp, gSlice, gPart, gNoPart, gTru, gBool, gChain, gAnd, gOr, gNot, gAndV, gOrV, gNotV, gIfE, gUn, gCupF_un, gCupT_un, gCupSet, gRet, gAsg, gPar, gPar3, gDrop, gRaise, gSkip, gIsi, gFor, giTup, giLst, giArg, gLc, gL, gFrz, gApd, gYes, gAll, ggName, ggTup, ggCons, ggNil, wipeE, dLst, dTup, gForL_nil, gForL_cons, gLcL_nil, gLcL_cons, dZip_tup, dZip_lst, zipD_cc, zipD_nil, cutD_1, dCut_tup, dCut_lst, dAbs_ab, dAdd_tup, dAdd_lst, Rs.bind_ok, Rs.bind_exc, Rs.bind_stuck, Rs.ofO_some, Rs.nox_ok, List.getElem?_cons_zero, List.getElem?_cons_succ, List.set_cons_zero, List.set_cons_succ, List.length_cons, List.length_nil, List.length_append, List.length_map, List.replicate_succ, List.replicate_zero, List.cons_append, List.nil_append, List.append_nil, Nat.reduceAdd, Nat.reduceSub, Nat.reduceLT, Nat.reduceLeDiff, Nat.reduceEqDiff, Nat.zero_add, dAdd_int, dMul_int, fI0_int, fB0_int, fI_int, dEq_int, dNe_int, dEq_str, dNe_str, dEq_bl, dBool_bl, dTru_bl, dNeg_int, dToInt_int, dToInt_bl, dLen_tup, dLen_lst, dMin2_int, dMulT_int, dToTup_lst, dToTup_tup, dToLst_lst, dToLst_tup, dats_nil, dats_cons, dIx_tup, dIx_lst, atI0, atI1, atI2, atI3, atI4, atI5, dInt_int, Option.map_some, Option.map_none, Option.bind_some, if_true, if_false, ite_true, ite_false, Bool.false_eq_true, Bool.true_eq_false, reduceIte, Bool.not_true, Bool.not_false, isi_int_int, isi_int_bool, isi_int_str, isi_int_tuple, isi_bool_int, isi_bool_bool, isi_bool_str, isi_bool_tuple, isi_str_int, isi_str_bool, isi_str_str, isi_str_tuple, isi_tup_int, isi_tup_bool, isi_tup_str, isi_tup_tuple, isi_lst_int, isi_lst_bool, isi_lst_str, isi_lst_tuple, isi_none_int, isi_none_bool, isi_none_str, isi_none_tuple, Int.cast_ofNat_Int, decide_true, decide_false, decide_eq_true_eq, not_true_eq_false, not_false_eq_true, Int.reduceEq, Int.reduceNe, Int.reduceLE, Int.reduceLT, Int.reduceAdd, Int.reduceSub, Int.reduceMul, Int.reduceNeg, ite_self, dMax2_int, dInR_int, gInR]
theorem e_are_lst {n : Int} {ds : List PyData} : G_are_integers [.dat (.list ds), .dat (.int n)] cu = .ok (.bool false) cu := by
  simp only [G_are_integers, g_are_integers, gFn, gSeq, gIf, gSet, gSetO, gfCat, gfDisp, gBin, gCall, gApp, gaNil, gaCons, gaCup, gC_eq, gVar_un, gDisp, gSlice, gPart, gNoPart, gTru, gBool, gChain, gAnd, gOr, gNot, gAndV, gOrV, gNotV, gIfE, gUn, gCupF_un, gCupT_un, gCupSet, gRet, gAsg, gPar, gPar3, gDrop, gRaise, gSkip, gIsi, gFor, giTup, giLst, giArg, gLc, gL, gFrz, gApd, gYes, gAll, ggName, ggTup, ggCons, ggNil, wipeE, dLst, dTup, gForL_nil, gForL_cons, gLcL_nil, gLcL_cons, dZip_tup, dZip_lst, zipD_cc, zipD_nil, cutD_1, dCut_tup, dCut_lst, dAbs_ab, dAdd_tup, dAdd_lst, Rs.bind_ok, Rs.bind_exc, Rs.bind_stuck, Rs.ofO_some, Rs.nox_ok, List.getElem?_cons_zero, List.getElem?_cons_succ, List.set_cons_zero, List.set_cons_succ, List.length_cons, List.length_nil, List.length_append, List.length_map, List.replicate_succ, List.replicate_zero, List.cons_append, List.nil_append, List.append_nil, Nat.reduceAdd, Nat.reduceSub, Nat.reduceLT, Nat.reduceLeDiff, Nat.reduceEqDiff, Nat.zero_add, dAdd_int, dMul_int, fI0_int, fB0_int, fI_int, dEq_int, dNe_int, dEq_str, dNe_str, dEq_bl, dBool_bl, dTru_bl, dNeg_int, dToInt_int, dToInt_bl, dLen_tup, dLen_lst, dMin2_int, dMulT_int, dToTup_lst, dToTup_tup, dToLst_lst, dToLst_tup, dats_nil, dats_cons, dIx_tup, dIx_lst, atI0, atI1, atI2, atI3, atI4, atI5, dInt_int, Option.map_some, Option.map_none, Option.bind_some, if_true, if_false, ite_true, ite_false, Bool.false_eq_true, Bool.true_eq_false, reduceIte, Bool.not_true, Bool.not_false, isi_int_int, isi_int_bool, isi_int_str, isi_int_tuple, isi_bool_int, isi_bool_bool, isi_bool_str, isi_bool_tuple, isi_str_int, isi_str_bool, isi_str_str, isi_str_tuple, isi_tup_int, isi_tup_bool, isi_tup_str, isi_tup_tuple, isi_lst_int, isi_lst_bool, isi_lst_str, isi_lst_tuple, isi_none_int, isi_none_bool, isi_none_str, isi_none_tuple, Int.cast_ofNat_Int, decide_true, decide_false, decide_eq_true_eq, not_true_eq_false, not_false_eq_true, Int.reduceEq, Int.reduceNe, Int.reduceLE, Int.reduceLT, Int.reduceAdd, Int.reduceSub, Int.reduceMul, Int.reduceNeg, ite_self, dMax2_int, dInR_int, gInR]
theorem e_need_two (ha : -Big ≤ a ∧ a ≤ Big) (hb : -Big ≤ b ∧ b ≤ Big) : G_need_two_integers [.dat (.int a), .dat (.int b)] cu = .ok .none cu := by
  have h1 := e_need_integer (cu := cu) (i := a) (a := -(10 ^ 50 * 10 ^ 50)) (b := 10 ^ 50 * 10 ^ 50) ha
  have h2 := e_need_integer (cu := cu) (i := b) (a := -(10 ^ 50 * 10 ^ 50)) (b := 10 ^ 50 * 10 ^ 50) hb
  simp only [G_need_two_integers, g_need_two_integers, h1, h2, gFn, gSeq, gIf, gSet, gSetO, gfCat, gfDisp, gBin, gCall, gApp, gaNil, gaCons, gaCup, gC_eq, gVar_un, gDisp, gSlice, gPart, gNoPart, gTru, gBool, gChain, gAnd, gOr, gNot, gAndV, gOrV, gNotV, gIfE, gUn, gCupF_un, gCupT_un, gCupSet, gRet, gAsg, gPar, gPar3, gDrop, gRaise, gSkip, gIsi, gFor, giTup, giLst, giArg, gLc, gL, gFrz, gApd, gYes, gAll, ggName, ggTup, ggCons, ggNil, wipeE, dLst, dTup, gForL_nil, gForL_cons, gLcL_nil, gLcL_cons, dZip_tup, dZip_lst, zipD_cc, zipD_nil, cutD_1, dCut_tup, dCut_lst, dAbs_ab, dAdd_tup, dAdd_lst, Rs.bind_ok, Rs.bind_exc, Rs.bind_stuck, Rs.ofO_some, Rs.nox_ok, List.getElem?_cons_zero, List.getElem?_cons_succ, List.set_cons_zero, List.set_cons_succ, List.length_cons, List.length_nil, List.length_append, List.length_map, List.replicate_succ, List.replicate_zero, List.cons_append, List.nil_append, List.append_nil, Nat.reduceAdd, Nat.reduceSub, Nat.reduceLT, Nat.reduceLeDiff, Nat.reduceEqDiff, Nat.zero_add, dAdd_int, dMul_int, fI0_int, fB0_int, fI_int, dEq_int, dNe_int, dEq_str, dNe_str, dEq_bl, dBool_bl, dTru_bl, dNeg_int, dToInt_int, dToInt_bl, dLen_tup, dLen_lst, dMin2_int, dMulT_int, dToTup_lst, dToTup_tup, dToLst_lst, dToLst_tup, dats_nil, dats_cons, dIx_tup, dIx_lst, atI0, atI1, atI2, atI3, atI4, atI5, dInt_int, Option.map_some, Option.map_none, Option.bind_some, if_true, if_false, ite_true, ite_false, Bool.false_eq_true, Bool.true_eq_false, reduceIte, Bool.not_true, Bool.not_false, isi_int_int, isi_int_bool, isi_int_str, isi_int_tuple, isi_bool_int, isi_bool_bool, isi_bool_str, isi_bool_tuple, isi_str_int, isi_str_bool, isi_str_str, isi_str_tuple, isi_tup_int, isi_tup_bool, isi_tup_str, isi_tup_tuple, isi_lst_int, isi_lst_bool, isi_lst_str, isi_lst_tuple, isi_none_int, isi_none_bool, isi_none_str, isi_none_tuple, Int.cast_ofNat_Int, decide_true, decide_false, decide_eq_true_eq, not_true_eq_false, not_false_eq_true, Int.reduceEq, Int.reduceNe, Int.reduceLE, Int.reduceLT, Int.reduceAdd, Int.reduceSub, Int.reduceMul, Int.reduceNeg, ite_self, dMax2_int, dInR_int, gInR, le_bezout_0, fb_need_integer_row_0, le_gcd_row_of_0, fb_gcd_row_of_0, ez_gcd_row_of_0, le_shows_gcd_row_0, le_shows_gcd_row_1, le__law_integers_0, lt__law_integers_0, fb__law_integer_0, le__law_is_row_0, le__law_is_row_1, lt__law_is_row_0, le__law_gcd_right_0, lt__law_gcd_right_0, le__law_gcd_right_1, le__law_gcd_right_2, lt__law_gcd_right_1, le__law_lcm_right_0, le__law_lcm_right_1, lt__law_lcm_right_0, le__law_lcm_right_2, lt__law_lcm_right_1, fb__law_row_right_0, le__law_row_right_0, le__law_row_right_1, lt__law_row_right_0, le__law_row_right_2, lt__law_row_right_1, le__law_written_0, lt__law_written_0, le__law_written_1, le__law_written_2]
end
/-! Euclid's way -/
structure Bz (a b r0 r1 r2 s0 s1 s2 : Int) : Prop where
  e : r0 = r1 * a + r2 * b
  e' : s0 = s1 * a + s2 * b
  p : 0 ≤ r0
  p' : 0 ≤ s0
  b1 : ab r1 * s0 + ab s1 * r0 = b
  b2 : ab r2 * s0 + ab s2 * r0 = a
  m1 : ab r1 ≤ 1 ∨ ab r1 ≤ b
  m2 : ab r2 ≤ 1 ∨ ab r2 ≤ a
  n1 : ab s1 ≤ 1 ∨ ab s1 ≤ b
  n2 : ab s2 ≤ 1 ∨ ab s2 ≤ a
  sg : (0 ≤ r1 ∧ s1 ≤ 0 ∧ r2 ≤ 0 ∧ 0 ≤ s2) ∨ (r1 ≤ 0 ∧ 0 ≤ s1 ∧ 0 ≤ r2 ∧ s2 ≤ 0)
section
variable {a b r0 r1 r2 s0 s1 s2 : Int}
theorem Bz.start (ha : 0 ≤ a) (hb : 0 ≤ b) : Bz a b a 1 0 b 0 1 := by
  refine ⟨by omega, by omega, ha, hb, ?_, ?_, .inl (by decide), .inl (by decide), .inl (by decide), .inl (by decide), .inl ⟨by decide, by decide, by decide, by decide⟩⟩
  · show 1 * b + 0 * a = b; omega
  · show 0 * b + 1 * a = a; omega
theorem le_mulr {a b : Int} (ha : 1 ≤ a) (hb : 0 ≤ b) : b ≤ b * a := by
  rw [Int.mul_comm]; exact le_mul1 ha hb
theorem ab_sub_mul {x y q : Int} (hq : 0 ≤ q) (h : (0 ≤ x ∧ y ≤ 0) ∨ (x ≤ 0 ∧ 0 ≤ y)) : ab (x - q * y) = ab x + q * ab y := by
  rcases h with ⟨h1, h2⟩ | ⟨h1, h2⟩
  · have : q * y ≤ 0 := Int.mul_nonpos_of_nonneg_of_nonpos hq h2
    rw [ab_lo (by omega), ab_lo h1, ab_hi h2, Int.mul_neg]; omega
  · have : 0 ≤ q * y := Int.mul_nonneg hq h2
    rw [ab_hi (by omega), ab_hi h1, ab_lo h2]; omega
theorem Bz.step (B : Bz a b r0 r1 r2 s0 s1 s2) (h : 0 < s0) : Bz a b s0 s1 s2 (r0 - r0.fdiv s0 * s0) (r1 - r0.fdiv s0 * s1) (r2 - r0.fdiv s0 * s2) ∧ r0 - r0.fdiv s0 * s0 < s0 := by
  have q1 := fdiv_lo (a := r0) h
  have q2 := fdiv_hi (a := r0) h
  have q0 : 0 ≤ r0.fdiv s0 := by
    have hp := B.p
    have z : 0 < (r0.fdiv s0 + 1) * s0 := by rw [Int.add_mul]; omega
    have := pos_l z (by omega)
    omega
  generalize r0.fdiv s0 = q at *
  have a1 : ab (r1 - q * s1) = ab r1 + q * ab s1 := ab_sub_mul q0 (B.sg.elim (fun h => .inl ⟨h.1, h.2.1⟩) fun h => .inr ⟨h.1, h.2.1⟩)
  have a2 : ab (r2 - q * s2) = ab r2 + q * ab s2 := ab_sub_mul q0 (B.sg.elim (fun h => .inr ⟨h.2.2.1, h.2.2.2⟩) fun h => .inl ⟨h.2.2.1, h.2.2.2⟩)
  have c1 : ab s1 * (r0 - q * s0) + ab (r1 - q * s1) * s0 = b := by rw [a1]; have := B.b1; grind
  have c2 : ab s2 * (r0 - q * s0) + ab (r2 - q * s2) * s0 = a := by rw [a2]; have := B.b2; grind
  have n0 := ab_nn (x := s1)
  have n0' := ab_nn (x := s2)
  have l0 : 0 ≤ r0 - q * s0 := by omega
  have k1 : ab (r1 - q * s1) ≤ b := by
    have z := le_mulr (show 1 ≤ s0 by omega) (ab_nn (x := r1 - q * s1))
    have z2 := Int.mul_nonneg n0 l0
    omega
  have k2 : ab (r2 - q * s2) ≤ a := by
    have z := le_mulr (show 1 ≤ s0 by omega) (ab_nn (x := r2 - q * s2))
    have z2 := Int.mul_nonneg n0' l0
    omega
  refine ⟨⟨B.e', ?_, B.p', l0, c1, c2, B.n1, B.n2, .inr k1, .inr k2, ?_⟩, by omega⟩
  · have := B.e; have := B.e'; grind
  · rcases B.sg with ⟨h1, h2, h3, h4⟩ | ⟨h1, h2, h3, h4⟩
    · have z1 : q * s1 ≤ 0 := Int.mul_nonpos_of_nonneg_of_nonpos q0 h2
      have z2 : 0 ≤ q * s2 := Int.mul_nonneg q0 h4
      exact .inr ⟨h2, by omega, h4, by omega⟩
    · have z1 : 0 ≤ q * s1 := Int.mul_nonneg q0 h2
      have z2 : q * s2 ≤ 0 := Int.mul_nonpos_of_nonneg_of_nonpos q0 h4
      exact .inl ⟨h2, by omega, h4, by omega⟩
end
abbrev row3 (a b c : Int) : PyData := .tuple [.int a, .int b, .int c]
abbrev bzEnv (one other r0 r1 r2 s0 s1 s2 : Int) (x : Sl) : En := [.dat (.int one), .dat (.int other), .dat (row3 r0 r1 r2), .dat (row3 s0 s1 s2), x, .un, .un, .un, .un, .un]
section
variable {cu : Cu} {one other a b r0 r1 r2 s0 s1 s2 : Int} {x : Sl}
theorem dTru_int {i : Int} : dTru (.int i) = some (decide (i ≠ 0)) := by
  by_cases h : i = 0
  · subst h; rfl
  · show some (i != 0) = _
    rw [decide_eq_true h]; simp [h]
theorem e_bwt : wt_bezout_0 (bzEnv one other r0 r1 r2 s0 s1 s2 x) cu = .ok (decide (s0 ≠ 0)) cu := by
  simp only [wt_bezout_0, bzEnv, row3, dTru_int, gFn, gSeq, gIf, gSet, gSetO, gfCat, gfDisp, gBin, gCall, gApp, gaNil, gaCons, gaCup, gC_eq, gVar_un, gDisp, gSlice, gPart, gNoPart, gTru, gBool, gChain, gAnd, gOr, gNot, gAndV, gOrV, gNotV, gIfE, gUn, gCupF_un, gCupT_un, gCupSet, gRet, gAsg, gPar, gPar3, gDrop, gRaise, gSkip, gIsi, gFor, giTup, giLst, giArg, gLc, gL, gFrz, gApd, gYes, gAll, ggName, ggTup, ggCons, ggNil, wipeE, dLst, dTup, gForL_nil, gForL_cons, gLcL_nil, gLcL_cons, dZip_tup, dZip_lst, zipD_cc, zipD_nil, cutD_1, dCut_tup, dCut_lst, dAbs_ab, dAdd_tup, dAdd_lst, Rs.bind_ok, Rs.bind_exc, Rs.bind_stuck, Rs.ofO_some, Rs.nox_ok, List.getElem?_cons_zero, List.getElem?_cons_succ, List.set_cons_zero, List.set_cons_succ, List.length_cons, List.length_nil, List.length_append, List.length_map, List.replicate_succ, List.replicate_zero, List.cons_append, List.nil_append, List.append_nil, Nat.reduceAdd, Nat.reduceSub, Nat.reduceLT, Nat.reduceLeDiff, Nat.reduceEqDiff, Nat.zero_add, dAdd_int, dMul_int, fI0_int, fB0_int, fI_int, dEq_int, dNe_int, dEq_str, dNe_str, dEq_bl, dBool_bl, dTru_bl, dNeg_int, dToInt_int, dToInt_bl, dLen_tup, dLen_lst, dMin2_int, dMulT_int, dToTup_lst, dToTup_tup, dToLst_lst, dToLst_tup, dats_nil, dats_cons, dIx_tup, dIx_lst, atI0, atI1, atI2, atI3, atI4, atI5, dInt_int, Option.map_some, Option.map_none, Option.bind_some, if_true, if_false, ite_true, ite_false, Bool.false_eq_true, Bool.true_eq_false, reduceIte, Bool.not_true, Bool.not_false, isi_int_int, isi_int_bool, isi_int_str, isi_int_tuple, isi_bool_int, isi_bool_bool, isi_bool_str, isi_bool_tuple, isi_str_int, isi_str_bool, isi_str_str, isi_str_tuple, isi_tup_int, isi_tup_bool, isi_tup_str, isi_tup_tuple, isi_lst_int, isi_lst_bool, isi_lst_str, isi_lst_tuple, isi_none_int, isi_none_bool, isi_none_str, isi_none_tuple, Int.cast_ofNat_Int, decide_true, decide_false, decide_eq_true_eq, not_true_eq_false, not_false_eq_true, Int.reduceEq, Int.reduceNe, Int.reduceLE, Int.reduceLT, Int.reduceAdd, Int.reduceSub, Int.reduceMul, Int.reduceNeg, ite_self, dMax2_int, dInR_int, gInR, le_bezout_0, fb_need_integer_row_0, le_gcd_row_of_0, fb_gcd_row_of_0, ez_gcd_row_of_0, le_shows_gcd_row_0, le_shows_gcd_row_1, le__law_integers_0, lt__law_integers_0, fb__law_integer_0, le__law_is_row_0, le__law_is_row_1, lt__law_is_row_0, le__law_gcd_right_0, lt__law_gcd_right_0, le__law_gcd_right_1, le__law_gcd_right_2, lt__law_gcd_right_1, le__law_lcm_right_0, le__law_lcm_right_1, lt__law_lcm_right_0, le__law_lcm_right_2, lt__law_lcm_right_1, fb__law_row_right_0, le__law_row_right_0, le__law_row_right_1, lt__law_row_right_0, le__law_row_right_2, lt__law_row_right_1, le__law_written_0, lt__law_written_0, le__law_written_1, le__law_written_2]
theorem e_bwb (h : s0 ≠ 0) (m : s0.natAbs < 2 ^ 1500) (q1 : mulOk (r0.fdiv s0) s0 = true) (q2 : mulOk (r0.fdiv s0) s1 = true) (q3 : mulOk (r0.fdiv s0) s2 = true) :
    wb_bezout_0 (bzEnv one other r0 r1 r2 s0 s1 s2 x) cu = .ok (.nx (bzEnv one other s0 s1 s2 (r0 - r0.fdiv s0 * s0) (r1 - r0.fdiv s0 * s1) (r2 - r0.fdiv s0 * s2) (.dat (.int (r0.fdiv s0))))) cu := by
  have d1 : divOk r0 s0 = true := divOk_b h m (by decide) (by decide)
  simp only [wb_bezout_0, bzEnv, row3, d1, q1, q2, q3, gFn, gSeq, gIf, gSet, gSetO, gfCat, gfDisp, gBin, gCall, gApp, gaNil, gaCons, gaCup, gC_eq, gVar_un, gDisp, gSlice, gPart, gNoPart, gTru, gBool, gChain, gAnd, gOr, gNot, gAndV, gOrV, gNotV, gIfE, gUn, gCupF_un, gCupT_un, gCupSet, gRet, gAsg, gPar, gPar3, gDrop, gRaise, gSkip, gIsi, gFor, giTup, giLst, giArg, gLc, gL, gFrz, gApd, gYes, gAll, ggName, ggTup, ggCons, ggNil, wipeE, dLst, dTup, gForL_nil, gForL_cons, gLcL_nil, gLcL_cons, dZip_tup, dZip_lst, zipD_cc, zipD_nil, cutD_1, dCut_tup, dCut_lst, dAbs_ab, dAdd_tup, dAdd_lst, Rs.bind_ok, Rs.bind_exc, Rs.bind_stuck, Rs.ofO_some, Rs.nox_ok, List.getElem?_cons_zero, List.getElem?_cons_succ, List.set_cons_zero, List.set_cons_succ, List.length_cons, List.length_nil, List.length_append, List.length_map, List.replicate_succ, List.replicate_zero, List.cons_append, List.nil_append, List.append_nil, Nat.reduceAdd, Nat.reduceSub, Nat.reduceLT, Nat.reduceLeDiff, Nat.reduceEqDiff, Nat.zero_add, dAdd_int, dMul_int, fI0_int, fB0_int, fI_int, dEq_int, dNe_int, dEq_str, dNe_str, dEq_bl, dBool_bl, dTru_bl, dNeg_int, dToInt_int, dToInt_bl, dLen_tup, dLen_lst, dMin2_int, dMulT_int, dToTup_lst, dToTup_tup, dToLst_lst, dToLst_tup, dats_nil, dats_cons, dIx_tup, dIx_lst, atI0, atI1, atI2, atI3, atI4, atI5, dInt_int, Option.map_some, Option.map_none, Option.bind_some, if_true, if_false, ite_true, ite_false, Bool.false_eq_true, Bool.true_eq_false, reduceIte, Bool.not_true, Bool.not_false, isi_int_int, isi_int_bool, isi_int_str, isi_int_tuple, isi_bool_int, isi_bool_bool, isi_bool_str, isi_bool_tuple, isi_str_int, isi_str_bool, isi_str_str, isi_str_tuple, isi_tup_int, isi_tup_bool, isi_tup_str, isi_tup_tuple, isi_lst_int, isi_lst_bool, isi_lst_str, isi_lst_tuple, isi_none_int, isi_none_bool, isi_none_str, isi_none_tuple, Int.cast_ofNat_Int, decide_true, decide_false, decide_eq_true_eq, not_true_eq_false, not_false_eq_true, Int.reduceEq, Int.reduceNe, Int.reduceLE, Int.reduceLT, Int.reduceAdd, Int.reduceSub, Int.reduceMul, Int.reduceNeg, ite_self, dMax2_int, dInR_int, gInR, le_bezout_0, fb_need_integer_row_0, le_gcd_row_of_0, fb_gcd_row_of_0, ez_gcd_row_of_0, le_shows_gcd_row_0, le_shows_gcd_row_1, le__law_integers_0, lt__law_integers_0, fb__law_integer_0, le__law_is_row_0, le__law_is_row_1, lt__law_is_row_0, le__law_gcd_right_0, lt__law_gcd_right_0, le__law_gcd_right_1, le__law_gcd_right_2, lt__law_gcd_right_1, le__law_lcm_right_0, le__law_lcm_right_1, lt__law_lcm_right_0, le__law_lcm_right_2, lt__law_lcm_right_1, fb__law_row_right_0, le__law_row_right_0, le__law_row_right_1, lt__law_row_right_0, le__law_row_right_2, lt__law_row_right_1, le__law_written_0, lt__law_written_0, le__law_written_1, le__law_written_2]
theorem fdiv_sm {k : Nat} (h : 0 < s0) (h0 : 0 ≤ r0) (m : r0.natAbs < 2 ^ k) : (r0.fdiv s0).natAbs < 2 ^ k := by
  have q1 := fdiv_lo (a := r0) h
  have q2 := fdiv_hi (a := r0) h
  have q0 : 0 ≤ r0.fdiv s0 := by
    have : 0 < (r0.fdiv s0 + 1) * s0 := by rw [Int.add_mul]; omega
    have := pos_l this (by omega)
    omega
  have := le_mul1 (show 1 ≤ s0 by omega) q0
  rw [Int.mul_comm] at this
  omega
/-- numbers of a size that holds all that is met -/
def Md (x : Int) : Prop := x.natAbs < 2 ^ 1400
theorem Md.sm {x : Int} (h : Md x) : Sm x := up h
theorem e_bwhile (ha : Md a) (hb : Md b) : ∀ (n : Nat) {r0 r1 r2 s0 s1 s2 : Int} {x : Sl}, Bz a b r0 r1 r2 s0 s1 s2 → Md r0 → Md s0 → s0.toNat < n →
    ∃ (d u v s t : Int) (y : Sl), Bz a b d u v 0 s t ∧ Md d ∧ ∀ cu, gWhileF wt_bezout_0 wb_bezout_0 n (bzEnv one other r0 r1 r2 s0 s1 s2 x) cu = .ok (.nx (bzEnv one other d u v 0 s t y)) cu
  | 0, _, _, _, _, _, _, _, _, _, _, h => by omega
  | n + 1, r0, r1, r2, s0, s1, s2, x, B, hr, hs, hn => by
    by_cases c : s0 = 0
    · subst c
      refine ⟨r0, r1, r2, s1, s2, x, B, hr, fun cu => ?_⟩
      rw [gWhileF_succ, e_bwt, Rs.bind_ok, decide_eq_false (fun h => h rfl), if_neg Bool.false_ne_true]
    · have h0 : 0 < s0 := by have := B.p'; omega
      have hq := fdiv_sm (k := 1400) h0 B.p hr
      obtain ⟨B1, l1⟩ := B.step h0
      have p1 := B1.p'
      have b1 : s1.natAbs < 2 ^ 1400 := by
        have := ab_nn (x := s1)
        have hb' : b.natAbs < 2 ^ 1400 := hb
        have e := ab_natAbs (a := s1)
        rcases B.n1 with z | z <;> omega
      have b2 : s2.natAbs < 2 ^ 1400 := by
        have := ab_nn (x := s2)
        have ha' : a.natAbs < 2 ^ 1400 := ha
        have e := ab_natAbs (a := s2)
        rcases B.n2 with z | z <;> omega
      have hs' : s0.natAbs < 2 ^ 1400 := hs
      obtain ⟨d, u, v, s, t, y, B2, hd, e⟩ := e_bwhile ha hb n (x := .dat (.int (r0.fdiv s0))) B1 hs (by unfold Md; omega) (by omega)
      refine ⟨d, u, v, s, t, y, B2, hd, fun cu => ?_⟩
      rw [gWhileF_succ, e_bwt, Rs.bind_ok, decide_eq_true c, if_pos rfl, e_bwb c (up hs') (mulOk_b hq hs' (by decide) (by decide) (by decide)) (mulOk_b hq b1 (by decide) (by decide) (by decide)) (mulOk_b hq b2 (by decide) (by decide) (by decide)), Rs.bind_ok]
      exact e cu
/-- what Euclid's way gives -/
structure Bez (one other d u v : Int) : Prop where
  gc : d = Int.gcd one other
  ee : u * one + v * other = d
  bu : ab u ≤ 1 ∨ ab u ≤ ab other
  bv : ab v ≤ 1 ∨ ab v ≤ ab one
theorem Bz.fin {d u v s t : Int} (B : Bz (ab one) (ab other) d u v 0 s t) : d = Int.gcd one other := by
  have e1 : ab t * d = ab one := by have := B.b2; omega
  have e2 : ab s * d = ab other := by have := B.b1; omega
  have eg : Int.gcd (ab one) (ab other) = Int.gcd one other := by unfold Int.gcd; rw [ab_natAbs, ab_natAbs]
  rw [← eg]
  have d1 : d ∣ ab one := ⟨ab t, by rw [Int.mul_comm]; exact e1.symm⟩
  have d2 : d ∣ ab other := ⟨ab s, by rw [Int.mul_comm]; exact e2.symm⟩
  refine Int.dvd_antisymm B.p (by omega) (Int.dvd_coe_gcd d1 d2) ?_
  rw [B.e]
  exact Int.dvd_add (Int.dvd_trans (Int.gcd_dvd_left ..) (Int.dvd_mul_left ..)) (Int.dvd_trans (Int.gcd_dvd_right ..) (Int.dvd_mul_left ..))
theorem e_bezout (h1 : Md one) (h2 : Md other) : ∃ d u v : Int, Bez one other d u v ∧ ∀ cu, G_bezout [.dat (.int one), .dat (.int other)] cu = .ok (row3 d u v) cu := by
  have ha : Md (ab one) := by unfold Md at *; rw [ab_natAbs]; exact h1
  have hb : Md (ab other) := by unfold Md at *; rw [ab_natAbs]; exact h2
  obtain ⟨d, u, v, s, t, y, B, hd, e⟩ := e_bwhile (one := one) (other := other) ha hb ((ab other).natAbs + 2) (x := .un) (Bz.start ab_nn ab_nn) ha hb (by omega)
  refine ⟨d, if one < 0 then -u else u, if other < 0 then -v else v, ⟨B.fin, ?_, ?_, ?_⟩, fun cu => ?_⟩
  · rw [B.e]
    unfold ab
    split <;> split <;> simp only [Int.neg_mul, Int.mul_neg]
  · have := B.m1
    split
    · rw [ab_neg]; exact this
    · exact this
  · have := B.m2
    split
    · rw [ab_neg]; exact this
    · exact this
  · have hw : gWhile (fun ρ _ => fuelBez ρ) wt_bezout_0 wb_bezout_0 (bzEnv one other (ab one) 1 0 (ab other) 0 1 .un) cu = .ok (.nx (bzEnv one other d u v 0 s t y)) cu := e cu
    simp only [bzEnv, row3] at hw
    by_cases c1 : one < 0
    · by_cases c2 : other < 0
      · simp only [G_bezout, g_bezout, row3, hw, c1, c2, gFn, gSeq, gIf, gSet, gSetO, gfCat, gfDisp, gBin, gCall, gApp, gaNil, gaCons, gaCup, gC_eq, gVar_un, gDisp, gSlice, gPart, gNoPart, gTru, gBool, gChain, gAnd, gOr, gNot, gAndV, gOrV, gNotV, gIfE, gUn, gCupF_un, gCupT_un, gCupSet, gRet, gAsg, gPar, gPar3, gDrop, gRaise, gSkip, gIsi, gFor, giTup, giLst, giArg, gLc, gL, gFrz, gApd, gYes, gAll, ggName, ggTup, ggCons, ggNil, wipeE, dLst, dTup, gForL_nil, gForL_cons, gLcL_nil, gLcL_cons, dZip_tup, dZip_lst, zipD_cc, zipD_nil, cutD_1, dCut_tup, dCut_lst, dAbs_ab, dAdd_tup, dAdd_lst, Rs.bind_ok, Rs.bind_exc, Rs.bind_stuck, Rs.ofO_some, Rs.nox_ok, List.getElem?_cons_zero, List.getElem?_cons_succ, List.set_cons_zero, List.set_cons_succ, List.length_cons, List.length_nil, List.length_append, List.length_map, List.replicate_succ, List.replicate_zero, List.cons_append, List.nil_append, List.append_nil, Nat.reduceAdd, Nat.reduceSub, Nat.reduceLT, Nat.reduceLeDiff, Nat.reduceEqDiff, Nat.zero_add, dAdd_int, dMul_int, fI0_int, fB0_int, fI_int, dEq_int, dNe_int, dEq_str, dNe_str, dEq_bl, dBool_bl, dTru_bl, dNeg_int, dToInt_int, dToInt_bl, dLen_tup, dLen_lst, dMin2_int, dMulT_int, dToTup_lst, dToTup_tup, dToLst_lst, dToLst_tup, dats_nil, dats_cons, dIx_tup, dIx_lst, atI0, atI1, atI2, atI3, atI4, atI5, dInt_int, Option.map_some, Option.map_none, Option.bind_some, if_true, if_false, ite_true, ite_false, Bool.false_eq_true, Bool.true_eq_false, reduceIte, Bool.not_true, Bool.not_false, isi_int_int, isi_int_bool, isi_int_str, isi_int_tuple, isi_bool_int, isi_bool_bool, isi_bool_str, isi_bool_tuple, isi_str_int, isi_str_bool, isi_str_str, isi_str_tuple, isi_tup_int, isi_tup_bool, isi_tup_str, isi_tup_tuple, isi_lst_int, isi_lst_bool, isi_lst_str, isi_lst_tuple, isi_none_int, isi_none_bool, isi_none_str, isi_none_tuple, Int.cast_ofNat_Int, decide_true, decide_false, decide_eq_true_eq, not_true_eq_false, not_false_eq_true, Int.reduceEq, Int.reduceNe, Int.reduceLE, Int.reduceLT, Int.reduceAdd, Int.reduceSub, Int.reduceMul, Int.reduceNeg, ite_self, dMax2_int, dInR_int, gInR, le_bezout_0, fb_need_integer_row_0, le_gcd_row_of_0, fb_gcd_row_of_0, ez_gcd_row_of_0, le_shows_gcd_row_0, le_shows_gcd_row_1, le__law_integers_0, lt__law_integers_0, fb__law_integer_0, le__law_is_row_0, le__law_is_row_1, lt__law_is_row_0, le__law_gcd_right_0, lt__law_gcd_right_0, le__law_gcd_right_1, le__law_gcd_right_2, lt__law_gcd_right_1, le__law_lcm_right_0, le__law_lcm_right_1, lt__law_lcm_right_0, le__law_lcm_right_2, lt__law_lcm_right_1, fb__law_row_right_0, le__law_row_right_0, le__law_row_right_1, lt__law_row_right_0, le__law_row_right_2, lt__law_row_right_1, le__law_written_0, lt__law_written_0, le__law_written_1, le__law_written_2]
      · simp only [G_bezout, g_bezout, row3, hw, c1, c2, gFn, gSeq, gIf, gSet, gSetO, gfCat, gfDisp, gBin, gCall, gApp, gaNil, gaCons, gaCup, gC_eq, gVar_un, gDisp, gSlice, gPart, gNoPart, gTru, gBool, gChain, gAnd, gOr, gNot, gAndV, gOrV, gNotV, gIfE, gUn, gCupF_un, gCupT_un, gCupSet, gRet, gAsg, gPar, gPar3, gDrop, gRaise, gSkip, gIsi, gFor, giTup, giLst, giArg, gLc, gL, gFrz, gApd, gYes, gAll, ggName, ggTup, ggCons, ggNil, wipeE, dLst, dTup, gForL_nil, gForL_cons, gLcL_nil, gLcL_cons, dZip_tup, dZip_lst, zipD_cc, zipD_nil, cutD_1, dCut_tup, dCut_lst, dAbs_ab, dAdd_tup, dAdd_lst, Rs.bind_ok, Rs.bind_exc, Rs.bind_stuck, Rs.ofO_some, Rs.nox_ok, List.getElem?_cons_zero, List.getElem?_cons_succ, List.set_cons_zero, List.set_cons_succ, List.length_cons, List.length_nil, List.length_append, List.length_map, List.replicate_succ, List.replicate_zero, List.cons_append, List.nil_append, List.append_nil, Nat.reduceAdd, Nat.reduceSub, Nat.reduceLT, Nat.reduceLeDiff, Nat.reduceEqDiff, Nat.zero_add, dAdd_int, dMul_int, fI0_int, fB0_int, fI_int, dEq_int, dNe_int, dEq_str, dNe_str, dEq_bl, dBool_bl, dTru_bl, dNeg_int, dToInt_int, dToInt_bl, dLen_tup, dLen_lst, dMin2_int, dMulT_int, dToTup_lst, dToTup_tup, dToLst_lst, dToLst_tup, dats_nil, dats_cons, dIx_tup, dIx_lst, atI0, atI1, atI2, atI3, atI4, atI5, dInt_int, Option.map_some, Option.map_none, Option.bind_some, if_true, if_false, ite_true, ite_false, Bool.false_eq_true, Bool.true_eq_false, reduceIte, Bool.not_true, Bool.not_false, isi_int_int, isi_int_bool, isi_int_str, isi_int_tuple, isi_bool_int, isi_bool_bool, isi_bool_str, isi_bool_tuple, isi_str_int, isi_str_bool, isi_str_str, isi_str_tuple, isi_tup_int, isi_tup_bool, isi_tup_str, isi_tup_tuple, isi_lst_int, isi_lst_bool, isi_lst_str, isi_lst_tuple, isi_none_int, isi_none_bool, isi_none_str, isi_none_tuple, Int.cast_ofNat_Int, decide_true, decide_false, decide_eq_true_eq, not_true_eq_false, not_false_eq_true, Int.reduceEq, Int.reduceNe, Int.reduceLE, Int.reduceLT, Int.reduceAdd, Int.reduceSub, Int.reduceMul, Int.reduceNeg, ite_self, dMax2_int, dInR_int, gInR, le_bezout_0, fb_need_integer_row_0, le_gcd_row_of_0, fb_gcd_row_of_0, ez_gcd_row_of_0, le_shows_gcd_row_0, le_shows_gcd_row_1, le__law_integers_0, lt__law_integers_0, fb__law_integer_0, le__law_is_row_0, le__law_is_row_1, lt__law_is_row_0, le__law_gcd_right_0, lt__law_gcd_right_0, le__law_gcd_right_1, le__law_gcd_right_2, lt__law_gcd_right_1, le__law_lcm_right_0, le__law_lcm_right_1, lt__law_lcm_right_0, le__law_lcm_right_2, lt__law_lcm_right_1, fb__law_row_right_0, le__law_row_right_0, le__law_row_right_1, lt__law_row_right_0, le__law_row_right_2, lt__law_row_right_1, le__law_written_0, lt__law_written_0, le__law_written_1, le__law_written_2]
    · by_cases c2 : other < 0
      · simp only [G_bezout, g_bezout, row3, hw, c1, c2, gFn, gSeq, gIf, gSet, gSetO, gfCat, gfDisp, gBin, gCall, gApp, gaNil, gaCons, gaCup, gC_eq, gVar_un, gDisp, gSlice, gPart, gNoPart, gTru, gBool, gChain, gAnd, gOr, gNot, gAndV, gOrV, gNotV, gIfE, gUn, gCupF_un, gCupT_un, gCupSet, gRet, gAsg, gPar, gPar3, gDrop, gRaise, gSkip, gIsi, gFor, giTup, giLst, giArg, gLc, gL, gFrz, gApd, gYes, gAll, ggName, ggTup, ggCons, ggNil, wipeE, dLst, dTup, gForL_nil, gForL_cons, gLcL_nil, gLcL_cons, dZip_tup, dZip_lst, zipD_cc, zipD_nil, cutD_1, dCut_tup, dCut_lst, dAbs_ab, dAdd_tup, dAdd_lst, Rs.bind_ok, Rs.bind_exc, Rs.bind_stuck, Rs.ofO_some, Rs.nox_ok, List.getElem?_cons_zero, List.getElem?_cons_succ, List.set_cons_zero, List.set_cons_succ, List.length_cons, List.length_nil, List.length_append, List.length_map, List.replicate_succ, List.replicate_zero, List.cons_append, List.nil_append, List.append_nil, Nat.reduceAdd, Nat.reduceSub, Nat.reduceLT, Nat.reduceLeDiff, Nat.reduceEqDiff, Nat.zero_add, dAdd_int, dMul_int, fI0_int, fB0_int, fI_int, dEq_int, dNe_int, dEq_str, dNe_str, dEq_bl, dBool_bl, dTru_bl, dNeg_int, dToInt_int, dToInt_bl, dLen_tup, dLen_lst, dMin2_int, dMulT_int, dToTup_lst, dToTup_tup, dToLst_lst, dToLst_tup, dats_nil, dats_cons, dIx_tup, dIx_lst, atI0, atI1, atI2, atI3, atI4, atI5, dInt_int, Option.map_some, Option.map_none, Option.bind_some, if_true, if_false, ite_true, ite_false, Bool.false_eq_true, Bool.true_eq_false, reduceIte, Bool.not_true, Bool.not_false, isi_int_int, isi_int_bool, isi_int_str, isi_int_tuple, isi_bool_int, isi_bool_bool, isi_bool_str, isi_bool_tuple, isi_str_int, isi_str_bool, isi_str_str, isi_str_tuple, isi_tup_int, isi_tup_bool, isi_tup_str, isi_tup_tuple, isi_lst_int, isi_lst_bool, isi_lst_str, isi_lst_tuple, isi_none_int, isi_none_bool, isi_none_str, isi_none_tuple, Int.cast_ofNat_Int, decide_true, decide_false, decide_eq_true_eq, not_true_eq_false, not_false_eq_true, Int.reduceEq, Int.reduceNe, Int.reduceLE, Int.reduceLT, Int.reduceAdd, Int.reduceSub, Int.reduceMul, Int.reduceNeg, ite_self, dMax2_int, dInR_int, gInR, le_bezout_0, fb_need_integer_row_0, le_gcd_row_of_0, fb_gcd_row_of_0, ez_gcd_row_of_0, le_shows_gcd_row_0, le_shows_gcd_row_1, le__law_integers_0, lt__law_integers_0, fb__law_integer_0, le__law_is_row_0, le__law_is_row_1, lt__law_is_row_0, le__law_gcd_right_0, lt__law_gcd_right_0, le__law_gcd_right_1, le__law_gcd_right_2, lt__law_gcd_right_1, le__law_lcm_right_0, le__law_lcm_right_1, lt__law_lcm_right_0, le__law_lcm_right_2, lt__law_lcm_right_1, fb__law_row_right_0, le__law_row_right_0, le__law_row_right_1, lt__law_row_right_0, le__law_row_right_2, lt__law_row_right_1, le__law_written_0, lt__law_written_0, le__law_written_1, le__law_written_2]
      · simp only [G_bezout, g_bezout, row3, hw, c1, c2, gFn, gSeq, gIf, gSet, gSetO, gfCat, gfDisp, gBin, gCall, gApp, gaNil, gaCons, gaCup, gC_eq, gVar_un, gDisp, gSlice, gPart, gNoPart, gTru, gBool, gChain, gAnd, gOr, gNot, gAndV, gOrV, gNotV, gIfE, gUn, gCupF_un, gCupT_un, gCupSet, gRet, gAsg, gPar, gPar3, gDrop, gRaise, gSkip, gIsi, gFor, giTup, giLst, giArg, gLc, gL, gFrz, gApd, gYes, gAll, ggName, ggTup, ggCons, ggNil, wipeE, dLst, dTup, gForL_nil, gForL_cons, gLcL_nil, gLcL_cons, dZip_tup, dZip_lst, zipD_cc, zipD_nil, cutD_1, dCut_tup, dCut_lst, dAbs_ab, dAdd_tup, dAdd_lst, Rs.bind_ok, Rs.bind_exc, Rs.bind_stuck, Rs.ofO_some, Rs.nox_ok, List.getElem?_cons_zero, List.getElem?_cons_succ, List.set_cons_zero, List.set_cons_succ, List.length_cons, List.length_nil, List.length_append, List.length_map, List.replicate_succ, List.replicate_zero, List.cons_append, List.nil_append, List.append_nil, Nat.reduceAdd, Nat.reduceSub, Nat.reduceLT, Nat.reduceLeDiff, Nat.reduceEqDiff, Nat.zero_add, dAdd_int, dMul_int, fI0_int, fB0_int, fI_int, dEq_int, dNe_int, dEq_str, dNe_str, dEq_bl, dBool_bl, dTru_bl, dNeg_int, dToInt_int, dToInt_bl, dLen_tup, dLen_lst, dMin2_int, dMulT_int, dToTup_lst, dToTup_tup, dToLst_lst, dToLst_tup, dats_nil, dats_cons, dIx_tup, dIx_lst, atI0, atI1, atI2, atI3, atI4, atI5, dInt_int, Option.map_some, Option.map_none, Option.bind_some, if_true, if_false, ite_true, ite_false, Bool.false_eq_true, Bool.true_eq_false, reduceIte, Bool.not_true, Bool.not_false, isi_int_int, isi_int_bool, isi_int_str, isi_int_tuple, isi_bool_int, isi_bool_bool, isi_bool_str, isi_bool_tuple, isi_str_int, isi_str_bool, isi_str_str, isi_str_tuple, isi_tup_int, isi_tup_bool, isi_tup_str, isi_tup_tuple, isi_lst_int, isi_lst_bool, isi_lst_str, isi_lst_tuple, isi_none_int, isi_none_bool, isi_none_str, isi_none_tuple, Int.cast_ofNat_Int, decide_true, decide_false, decide_eq_true_eq, not_true_eq_false, not_false_eq_true, Int.reduceEq, Int.reduceNe, Int.reduceLE, Int.reduceLT, Int.reduceAdd, Int.reduceSub, Int.reduceMul, Int.reduceNeg, ite_self, dMax2_int, dInR_int, gInR, le_bezout_0, fb_need_integer_row_0, le_gcd_row_of_0, fb_gcd_row_of_0, ez_gcd_row_of_0, le_shows_gcd_row_0, le_shows_gcd_row_1, le__law_integers_0, lt__law_integers_0, fb__law_integer_0, le__law_is_row_0, le__law_is_row_1, lt__law_is_row_0, le__law_gcd_right_0, lt__law_gcd_right_0, le__law_gcd_right_1, le__law_gcd_right_2, lt__law_gcd_right_1, le__law_lcm_right_0, le__law_lcm_right_1, lt__law_lcm_right_0, le__law_lcm_right_2, lt__law_lcm_right_1, fb__law_row_right_0, le__law_row_right_0, le__law_row_right_1, lt__law_row_right_0, le__law_row_right_2, lt__law_row_right_1, le__law_written_0, lt__law_written_0, le__law_written_1, le__law_written_2]
end
end Prog

set_option Elab.async false
set_option linter.all false
set_option maxRecDepth 100000
set_option maxHeartbeats 4000000
set_option autoImplicit false
set_option exponentiation.threshold 4000
namespace Prog
open PySem PySem.Spec L2 DL
abbrev pt5 (a b c d e : Int) : PyData := .tuple [.int a, .int b, .int c, .int d, .int e]
def Rg (x : Int) : Prop := -Big ≤ x ∧ x ≤ Big
def Hf (x : Int) : Prop := x.natAbs < 2 ^ 1998
section
variable {cu : Cu} {one other d u v p q : Int}
theorem Rg.b (h : Rg d) : d.natAbs < 2 ^ 340 := by
  have : Big.natAbs < 2 ^ 340 := by decide
  have h0 : (0 : Int) ≤ Big := by decide
  obtain ⟨h1, h2⟩ := h
  omega
theorem Rg.md (h : Rg d) : Md d := up h.b
theorem Rg.sm (h : Rg d) : Sm d := up h.b
theorem Hf.sm (h : Hf d) : Sm d := up h
theorem Hf.of {n : Nat} (h : d.natAbs < 2 ^ n) (hn : n ≤ 1998 := by decide) : Hf d := up h hn
theorem ab_b {n : Nat} (h : ab d ≤ 1 ∨ ab d ≤ ab u) (hu : u.natAbs < 2 ^ n) (hn : 1 < 2 ^ n) : d.natAbs < 2 ^ n := by
  have e1 := ab_natAbs (a := d)
  have e2 := ab_natAbs (a := u)
  have := ab_nn (x := d); have := ab_nn (x := u)
  rcases h with z | z <;> omega
/-- what a paper of two numbers says -/
structure Gp (one other d u v p q : Int) : Prop where
  gc : d = Int.gcd one other
  ee : u * one + v * other = d
  pe : p * d = one
  qe : q * d = other
  bu : ab u ≤ 1 ∨ ab u ≤ ab other
  bv : ab v ≤ 1 ∨ ab v ≤ ab one
  sd : d.natAbs < 2 ^ 340
  su : u.natAbs < 2 ^ 340
  sv : v.natAbs < 2 ^ 340
  sp : p.natAbs < 2 ^ 340
  sq : q.natAbs < 2 ^ 340
theorem gcd_b {n : Nat} (h : one.natAbs < 2 ^ n) (h2 : other.natAbs < 2 ^ n) : ((Int.gcd one other : Nat) : Int).natAbs < 2 ^ n := by
  rw [Int.natAbs_natCast]
  by_cases z : one = 0
  · subst z; rw [Int.gcd_zero_left]; exact h2
  · exact Nat.lt_of_le_of_lt (Int.gcd_le_natAbs_left other z) h
theorem fdiv_ex {a c : Int} (h0 : c ≠ 0) (h : c ∣ a) : a.fdiv c * c = a := by
  obtain ⟨k, rfl⟩ := h
  rw [Int.mul_fdiv_cancel_left k h0, Int.mul_comm]
theorem le_of_mul {a b c : Int} (h0 : c ≠ 0) (h : a * c = b) : a.natAbs ≤ b.natAbs := by
  rw [← h, Int.natAbs_mul]
  exact Nat.le_mul_of_pos_right _ (by omega)
theorem e_gcd_paper (h1 : Rg one) (h2 : Rg other) : ∃ d u v p q : Int, Gp one other d u v p q ∧ ∀ cu, G_gcd_paper [.dat (.int one), .dat (.int other)] cu = .ok (pt5 d u v p q) cu := by
  have hn : ∀ cu, G_need_two_integers [.dat (.int one), .dat (.int other)] cu = .ok .none cu := fun cu => e_need_two h1 h2
  by_cases z : one = 0 ∧ other = 0
  · obtain ⟨rfl, rfl⟩ := z
    refine ⟨0, 0, 0, 0, 0, ⟨by decide, by decide, by decide, by decide, by decide, by decide, by decide, by decide, by decide, by decide, by decide⟩, fun cu => ?_⟩
    simp only [G_gcd_paper, g_gcd_paper, hn, gFn, gSeq, gIf, gSet, gSetO, gfCat, gfDisp, gBin, gCall, gApp, gaNil, gaCons, gaCup, gC_eq, gVar_un, gDisp, gSlice, gPart, gNoPart, gTru, gBool, gChain, gAnd, gOr, gNot, gAndV, gOrV, gNotV, gIfE, gUn, gCupF_un, gCupT_un, gCupSet, gRet, gAsg, gPar, gPar3, gDrop, gRaise, gSkip, gIsi, gFor, giTup, giLst, giArg, gLc, gL, gFrz, gApd, gYes, gAll, ggName, ggTup, ggCons, ggNil, wipeE, dLst, dTup, gForL_nil, gForL_cons, gLcL_nil, gLcL_cons, dZip_tup, dZip_lst, zipD_cc, zipD_nil, cutD_1, dCut_tup, dCut_lst, dAbs_ab, dAdd_tup, dAdd_lst, Rs.bind_ok, Rs.bind_exc, Rs.bind_stuck, Rs.ofO_some, Rs.nox_ok, List.getElem?_cons_zero, List.getElem?_cons_succ, List.set_cons_zero, List.set_cons_succ, List.length_cons, List.length_nil, List.length_append, List.length_map, List.replicate_succ, List.replicate_zero, List.cons_append, List.nil_append, List.append_nil, Nat.reduceAdd, Nat.reduceSub, Nat.reduceLT, Nat.reduceLeDiff, Nat.reduceEqDiff, Nat.zero_add, dAdd_int, dMul_int, fI0_int, fB0_int, fI_int, dEq_int, dNe_int, dEq_str, dNe_str, dEq_bl, dBool_bl, dTru_bl, dNeg_int, dToInt_int, dToInt_bl, dLen_tup, dLen_lst, dMin2_int, dMulT_int, dToTup_lst, dToTup_tup, dToLst_lst, dToLst_tup, dats_nil, dats_cons, dIx_tup, dIx_lst, atI0, atI1, atI2, atI3, atI4, atI5, dInt_int, Option.map_some, Option.map_none, Option.bind_some, if_true, if_false, ite_true, ite_false, Bool.false_eq_true, Bool.true_eq_false, reduceIte, Bool.not_true, Bool.not_false, isi_int_int, isi_int_bool, isi_int_str, isi_int_tuple, isi_bool_int, isi_bool_bool, isi_bool_str, isi_bool_tuple, isi_str_int, isi_str_bool, isi_str_str, isi_str_tuple, isi_tup_int, isi_tup_bool, isi_tup_str, isi_tup_tuple, isi_lst_int, isi_lst_bool, isi_lst_str, isi_lst_tuple, isi_none_int, isi_none_bool, isi_none_str, isi_none_tuple, Int.cast_ofNat_Int, decide_true, decide_false, decide_eq_true_eq, not_true_eq_false, not_false_eq_true, Int.reduceEq, Int.reduceNe, Int.reduceLE, Int.reduceLT, Int.reduceAdd, Int.reduceSub, Int.reduceMul, Int.reduceNeg, ite_self, dMax2_int, dInR_int, gInR, le_bezout_0, fb_need_integer_row_0, le_gcd_row_of_0, fb_gcd_row_of_0, ez_gcd_row_of_0, le_shows_gcd_row_0, le_shows_gcd_row_1, le__law_integers_0, lt__law_integers_0, fb__law_integer_0, le__law_is_row_0, le__law_is_row_1, lt__law_is_row_0, le__law_gcd_right_0, lt__law_gcd_right_0, le__law_gcd_right_1, le__law_gcd_right_2, lt__law_gcd_right_1, le__law_lcm_right_0, le__law_lcm_right_1, lt__law_lcm_right_0, le__law_lcm_right_2, lt__law_lcm_right_1, fb__law_row_right_0, le__law_row_right_0, le__law_row_right_1, lt__law_row_right_0, le__law_row_right_2, lt__law_row_right_1, le__law_written_0, lt__law_written_0, le__law_written_1, le__law_written_2]
  · obtain ⟨d, u, v, B, e⟩ := e_bezout h1.md h2.md
    have hd0 : d ≠ 0 := fun hz => z (by
      have h := B.gc
      rw [hz] at h
      have h' : Int.gcd one other = 0 := by omega
      exact Int.gcd_eq_zero_iff.mp h')
    have d1 : d ∣ one := by rw [B.gc]; exact Int.gcd_dvd_left ..
    have d2 : d ∣ other := by rw [B.gc]; exact Int.gcd_dvd_right ..
    have sd : d.natAbs < 2 ^ 340 := by rw [B.gc]; exact gcd_b h1.b h2.b
    have e1 := fdiv_ex hd0 d1
    have e2 := fdiv_ex hd0 d2
    have o1 : divOk one d = true := divOk_b hd0 sd (by decide) (by decide)
    have o2 : divOk other d = true := divOk_b hd0 sd (by decide) (by decide)
    refine ⟨d, u, v, one.fdiv d, other.fdiv d, ⟨B.gc, B.ee, e1, e2, B.bu, B.bv, sd, ab_b B.bu h2.b (by decide), ab_b B.bv h1.b (by decide), Nat.lt_of_le_of_lt (le_of_mul hd0 e1) h1.b, Nat.lt_of_le_of_lt (le_of_mul hd0 e2) h2.b⟩, fun cu => ?_⟩
    by_cases c1 : one = 0
    · have c2 : ¬ other = 0 := fun h => z ⟨c1, h⟩
      have c1' : (one = 0) = True := eq_true c1
      simp only [G_gcd_paper, g_gcd_paper, hn, e, o1, o2, row3, c1', c2, gFn, gSeq, gIf, gSet, gSetO, gfCat, gfDisp, gBin, gCall, gApp, gaNil, gaCons, gaCup, gC_eq, gVar_un, gDisp, gSlice, gPart, gNoPart, gTru, gBool, gChain, gAnd, gOr, gNot, gAndV, gOrV, gNotV, gIfE, gUn, gCupF_un, gCupT_un, gCupSet, gRet, gAsg, gPar, gPar3, gDrop, gRaise, gSkip, gIsi, gFor, giTup, giLst, giArg, gLc, gL, gFrz, gApd, gYes, gAll, ggName, ggTup, ggCons, ggNil, wipeE, dLst, dTup, gForL_nil, gForL_cons, gLcL_nil, gLcL_cons, dZip_tup, dZip_lst, zipD_cc, zipD_nil, cutD_1, dCut_tup, dCut_lst, dAbs_ab, dAdd_tup, dAdd_lst, Rs.bind_ok, Rs.bind_exc, Rs.bind_stuck, Rs.ofO_some, Rs.nox_ok, List.getElem?_cons_zero, List.getElem?_cons_succ, List.set_cons_zero, List.set_cons_succ, List.length_cons, List.length_nil, List.length_append, List.length_map, List.replicate_succ, List.replicate_zero, List.cons_append, List.nil_append, List.append_nil, Nat.reduceAdd, Nat.reduceSub, Nat.reduceLT, Nat.reduceLeDiff, Nat.reduceEqDiff, Nat.zero_add, dAdd_int, dMul_int, fI0_int, fB0_int, fI_int, dEq_int, dNe_int, dEq_str, dNe_str, dEq_bl, dBool_bl, dTru_bl, dNeg_int, dToInt_int, dToInt_bl, dLen_tup, dLen_lst, dMin2_int, dMulT_int, dToTup_lst, dToTup_tup, dToLst_lst, dToLst_tup, dats_nil, dats_cons, dIx_tup, dIx_lst, atI0, atI1, atI2, atI3, atI4, atI5, dInt_int, Option.map_some, Option.map_none, Option.bind_some, if_true, if_false, ite_true, ite_false, Bool.false_eq_true, Bool.true_eq_false, reduceIte, Bool.not_true, Bool.not_false, isi_int_int, isi_int_bool, isi_int_str, isi_int_tuple, isi_bool_int, isi_bool_bool, isi_bool_str, isi_bool_tuple, isi_str_int, isi_str_bool, isi_str_str, isi_str_tuple, isi_tup_int, isi_tup_bool, isi_tup_str, isi_tup_tuple, isi_lst_int, isi_lst_bool, isi_lst_str, isi_lst_tuple, isi_none_int, isi_none_bool, isi_none_str, isi_none_tuple, Int.cast_ofNat_Int, decide_true, decide_false, decide_eq_true_eq, not_true_eq_false, not_false_eq_true, Int.reduceEq, Int.reduceNe, Int.reduceLE, Int.reduceLT, Int.reduceAdd, Int.reduceSub, Int.reduceMul, Int.reduceNeg, ite_self, dMax2_int, dInR_int, gInR, le_bezout_0, fb_need_integer_row_0, le_gcd_row_of_0, fb_gcd_row_of_0, ez_gcd_row_of_0, le_shows_gcd_row_0, le_shows_gcd_row_1, le__law_integers_0, lt__law_integers_0, fb__law_integer_0, le__law_is_row_0, le__law_is_row_1, lt__law_is_row_0, le__law_gcd_right_0, lt__law_gcd_right_0, le__law_gcd_right_1, le__law_gcd_right_2, lt__law_gcd_right_1, le__law_lcm_right_0, le__law_lcm_right_1, lt__law_lcm_right_0, le__law_lcm_right_2, lt__law_lcm_right_1, fb__law_row_right_0, le__law_row_right_0, le__law_row_right_1, lt__law_row_right_0, le__law_row_right_2, lt__law_row_right_1, le__law_written_0, lt__law_written_0, le__law_written_1, le__law_written_2]
    · simp only [G_gcd_paper, g_gcd_paper, hn, e, o1, o2, row3, c1, gFn, gSeq, gIf, gSet, gSetO, gfCat, gfDisp, gBin, gCall, gApp, gaNil, gaCons, gaCup, gC_eq, gVar_un, gDisp, gSlice, gPart, gNoPart, gTru, gBool, gChain, gAnd, gOr, gNot, gAndV, gOrV, gNotV, gIfE, gUn, gCupF_un, gCupT_un, gCupSet, gRet, gAsg, gPar, gPar3, gDrop, gRaise, gSkip, gIsi, gFor, giTup, giLst, giArg, gLc, gL, gFrz, gApd, gYes, gAll, ggName, ggTup, ggCons, ggNil, wipeE, dLst, dTup, gForL_nil, gForL_cons, gLcL_nil, gLcL_cons, dZip_tup, dZip_lst, zipD_cc, zipD_nil, cutD_1, dCut_tup, dCut_lst, dAbs_ab, dAdd_tup, dAdd_lst, Rs.bind_ok, Rs.bind_exc, Rs.bind_stuck, Rs.ofO_some, Rs.nox_ok, List.getElem?_cons_zero, List.getElem?_cons_succ, List.set_cons_zero, List.set_cons_succ, List.length_cons, List.length_nil, List.length_append, List.length_map, List.replicate_succ, List.replicate_zero, List.cons_append, List.nil_append, List.append_nil, Nat.reduceAdd, Nat.reduceSub, Nat.reduceLT, Nat.reduceLeDiff, Nat.reduceEqDiff, Nat.zero_add, dAdd_int, dMul_int, fI0_int, fB0_int, fI_int, dEq_int, dNe_int, dEq_str, dNe_str, dEq_bl, dBool_bl, dTru_bl, dNeg_int, dToInt_int, dToInt_bl, dLen_tup, dLen_lst, dMin2_int, dMulT_int, dToTup_lst, dToTup_tup, dToLst_lst, dToLst_tup, dats_nil, dats_cons, dIx_tup, dIx_lst, atI0, atI1, atI2, atI3, atI4, atI5, dInt_int, Option.map_some, Option.map_none, Option.bind_some, if_true, if_false, ite_true, ite_false, Bool.false_eq_true, Bool.true_eq_false, reduceIte, Bool.not_true, Bool.not_false, isi_int_int, isi_int_bool, isi_int_str, isi_int_tuple, isi_bool_int, isi_bool_bool, isi_bool_str, isi_bool_tuple, isi_str_int, isi_str_bool, isi_str_str, isi_str_tuple, isi_tup_int, isi_tup_bool, isi_tup_str, isi_tup_tuple, isi_lst_int, isi_lst_bool, isi_lst_str, isi_lst_tuple, isi_none_int, isi_none_bool, isi_none_str, isi_none_tuple, Int.cast_ofNat_Int, decide_true, decide_false, decide_eq_true_eq, not_true_eq_false, not_false_eq_true, Int.reduceEq, Int.reduceNe, Int.reduceLE, Int.reduceLT, Int.reduceAdd, Int.reduceSub, Int.reduceMul, Int.reduceNeg, ite_self, dMax2_int, dInR_int, gInR, le_bezout_0, fb_need_integer_row_0, le_gcd_row_of_0, fb_gcd_row_of_0, ez_gcd_row_of_0, le_shows_gcd_row_0, le_shows_gcd_row_1, le__law_integers_0, lt__law_integers_0, fb__law_integer_0, le__law_is_row_0, le__law_is_row_1, lt__law_is_row_0, le__law_gcd_right_0, lt__law_gcd_right_0, le__law_gcd_right_1, le__law_gcd_right_2, lt__law_gcd_right_1, le__law_lcm_right_0, le__law_lcm_right_1, lt__law_lcm_right_0, le__law_lcm_right_2, lt__law_lcm_right_1, fb__law_row_right_0, le__law_row_right_0, le__law_row_right_1, lt__law_row_right_0, le__law_row_right_2, lt__law_row_right_1, le__law_written_0, lt__law_written_0, le__law_written_1, le__law_written_2]
def isG (one other d u v p q : Int) : Bool := decide (0 ≤ d ∧ u * one + v * other = d ∧ p * d = one ∧ q * d = other)
theorem e_are5 {a b c d e : Int} : G_are_integers [.dat (pt5 a b c d e), .dat (.int 5)] cu = .ok (.bool true) cu := by
  have z : G_are_integers [.dat (pt5 a b c d e), .dat (.int 5)] cu = .ok (.bool (decide (((5 : Nat) : Int) = 5))) cu := e_are (zs := [a, b, c, d, e])
  rw [z]; rfl
theorem e_lint5 {a b c d e : Int} : G__law_integers [.dat (pt5 a b c d e), .dat (.int 5)] cu = .ok (.bool true) cu := by
  have z : G__law_integers [.dat (pt5 a b c d e), .dat (.int 5)] cu = .ok (.bool (decide (((5 : Nat) : Int) = 5))) cu := e_law_integers (zs := [a, b, c, d, e]) (show 5 < 1000 by decide)
  rw [z]; rfl
theorem e_takes_gcd (h1 : Rg one) (h2 : Rg other) (hd : Sm d) (hu : Sm u) (hv : Sm v) (hp : Sm p) (hq : Sm q) :
    G_takes_gcd [.dat (.int one), .dat (.int other), .dat (pt5 d u v p q)] cu = .ok (.bool (isG one other d u v p q)) cu := by
  have hn := e_need_two (cu := cu) h1 h2
  have ha := e_are5 (cu := cu) (a := d) (b := u) (c := v) (d := p) (e := q)
  have m1 := mulOk_sm hu h1.sm
  have m2 := mulOk_sm hv h2.sm
  have m3 := mulOk_sm hp hd
  have m4 := mulOk_sm hq hd
  unfold isG
  simp only [pt5] at ha ⊢
  by_cases c1 : d < 0
  · have c1' : ¬ 0 ≤ d := by omega
    simp only [G_takes_gcd, g_takes_gcd, hn, ha, m1, m2, m3, m4, c1, c1', false_and, gFn, gSeq, gIf, gSet, gSetO, gfCat, gfDisp, gBin, gCall, gApp, gaNil, gaCons, gaCup, gC_eq, gVar_un, gDisp, gSlice, gPart, gNoPart, gTru, gBool, gChain, gAnd, gOr, gNot, gAndV, gOrV, gNotV, gIfE, gUn, gCupF_un, gCupT_un, gCupSet, gRet, gAsg, gPar, gPar3, gDrop, gRaise, gSkip, gIsi, gFor, giTup, giLst, giArg, gLc, gL, gFrz, gApd, gYes, gAll, ggName, ggTup, ggCons, ggNil, wipeE, dLst, dTup, gForL_nil, gForL_cons, gLcL_nil, gLcL_cons, dZip_tup, dZip_lst, zipD_cc, zipD_nil, cutD_1, dCut_tup, dCut_lst, dAbs_ab, dAdd_tup, dAdd_lst, Rs.bind_ok, Rs.bind_exc, Rs.bind_stuck, Rs.ofO_some, Rs.nox_ok, List.getElem?_cons_zero, List.getElem?_cons_succ, List.set_cons_zero, List.set_cons_succ, List.length_cons, List.length_nil, List.length_append, List.length_map, List.replicate_succ, List.replicate_zero, List.cons_append, List.nil_append, List.append_nil, Nat.reduceAdd, Nat.reduceSub, Nat.reduceLT, Nat.reduceLeDiff, Nat.reduceEqDiff, Nat.zero_add, dAdd_int, dMul_int, fI0_int, fB0_int, fI_int, dEq_int, dNe_int, dEq_str, dNe_str, dEq_bl, dBool_bl, dTru_bl, dNeg_int, dToInt_int, dToInt_bl, dLen_tup, dLen_lst, dMin2_int, dMulT_int, dToTup_lst, dToTup_tup, dToLst_lst, dToLst_tup, dats_nil, dats_cons, dIx_tup, dIx_lst, atI0, atI1, atI2, atI3, atI4, atI5, dInt_int, Option.map_some, Option.map_none, Option.bind_some, if_true, if_false, ite_true, ite_false, Bool.false_eq_true, Bool.true_eq_false, reduceIte, Bool.not_true, Bool.not_false, isi_int_int, isi_int_bool, isi_int_str, isi_int_tuple, isi_bool_int, isi_bool_bool, isi_bool_str, isi_bool_tuple, isi_str_int, isi_str_bool, isi_str_str, isi_str_tuple, isi_tup_int, isi_tup_bool, isi_tup_str, isi_tup_tuple, isi_lst_int, isi_lst_bool, isi_lst_str, isi_lst_tuple, isi_none_int, isi_none_bool, isi_none_str, isi_none_tuple, Int.cast_ofNat_Int, decide_true, decide_false, decide_eq_true_eq, not_true_eq_false, not_false_eq_true, Int.reduceEq, Int.reduceNe, Int.reduceLE, Int.reduceLT, Int.reduceAdd, Int.reduceSub, Int.reduceMul, Int.reduceNeg, ite_self, dMax2_int, dInR_int, gInR, le_bezout_0, fb_need_integer_row_0, le_gcd_row_of_0, fb_gcd_row_of_0, ez_gcd_row_of_0, le_shows_gcd_row_0, le_shows_gcd_row_1, le__law_integers_0, lt__law_integers_0, fb__law_integer_0, le__law_is_row_0, le__law_is_row_1, lt__law_is_row_0, le__law_gcd_right_0, lt__law_gcd_right_0, le__law_gcd_right_1, le__law_gcd_right_2, lt__law_gcd_right_1, le__law_lcm_right_0, le__law_lcm_right_1, lt__law_lcm_right_0, le__law_lcm_right_2, lt__law_lcm_right_1, fb__law_row_right_0, le__law_row_right_0, le__law_row_right_1, lt__law_row_right_0, le__law_row_right_2, lt__law_row_right_1, le__law_written_0, lt__law_written_0, le__law_written_1, le__law_written_2]
  have c1' : 0 ≤ d := by omega
  by_cases c2 : u * one + v * other = d
  case neg => simp only [G_takes_gcd, g_takes_gcd, hn, ha, m1, m2, m3, m4, c1, c2, false_and, and_false, gFn, gSeq, gIf, gSet, gSetO, gfCat, gfDisp, gBin, gCall, gApp, gaNil, gaCons, gaCup, gC_eq, gVar_un, gDisp, gSlice, gPart, gNoPart, gTru, gBool, gChain, gAnd, gOr, gNot, gAndV, gOrV, gNotV, gIfE, gUn, gCupF_un, gCupT_un, gCupSet, gRet, gAsg, gPar, gPar3, gDrop, gRaise, gSkip, gIsi, gFor, giTup, giLst, giArg, gLc, gL, gFrz, gApd, gYes, gAll, ggName, ggTup, ggCons, ggNil, wipeE, dLst, dTup, gForL_nil, gForL_cons, gLcL_nil, gLcL_cons, dZip_tup, dZip_lst, zipD_cc, zipD_nil, cutD_1, dCut_tup, dCut_lst, dAbs_ab, dAdd_tup, dAdd_lst, Rs.bind_ok, Rs.bind_exc, Rs.bind_stuck, Rs.ofO_some, Rs.nox_ok, List.getElem?_cons_zero, List.getElem?_cons_succ, List.set_cons_zero, List.set_cons_succ, List.length_cons, List.length_nil, List.length_append, List.length_map, List.replicate_succ, List.replicate_zero, List.cons_append, List.nil_append, List.append_nil, Nat.reduceAdd, Nat.reduceSub, Nat.reduceLT, Nat.reduceLeDiff, Nat.reduceEqDiff, Nat.zero_add, dAdd_int, dMul_int, fI0_int, fB0_int, fI_int, dEq_int, dNe_int, dEq_str, dNe_str, dEq_bl, dBool_bl, dTru_bl, dNeg_int, dToInt_int, dToInt_bl, dLen_tup, dLen_lst, dMin2_int, dMulT_int, dToTup_lst, dToTup_tup, dToLst_lst, dToLst_tup, dats_nil, dats_cons, dIx_tup, dIx_lst, atI0, atI1, atI2, atI3, atI4, atI5, dInt_int, Option.map_some, Option.map_none, Option.bind_some, if_true, if_false, ite_true, ite_false, Bool.false_eq_true, Bool.true_eq_false, reduceIte, Bool.not_true, Bool.not_false, isi_int_int, isi_int_bool, isi_int_str, isi_int_tuple, isi_bool_int, isi_bool_bool, isi_bool_str, isi_bool_tuple, isi_str_int, isi_str_bool, isi_str_str, isi_str_tuple, isi_tup_int, isi_tup_bool, isi_tup_str, isi_tup_tuple, isi_lst_int, isi_lst_bool, isi_lst_str, isi_lst_tuple, isi_none_int, isi_none_bool, isi_none_str, isi_none_tuple, Int.cast_ofNat_Int, decide_true, decide_false, decide_eq_true_eq, not_true_eq_false, not_false_eq_true, Int.reduceEq, Int.reduceNe, Int.reduceLE, Int.reduceLT, Int.reduceAdd, Int.reduceSub, Int.reduceMul, Int.reduceNeg, ite_self, dMax2_int, dInR_int, gInR, le_bezout_0, fb_need_integer_row_0, le_gcd_row_of_0, fb_gcd_row_of_0, ez_gcd_row_of_0, le_shows_gcd_row_0, le_shows_gcd_row_1, le__law_integers_0, lt__law_integers_0, fb__law_integer_0, le__law_is_row_0, le__law_is_row_1, lt__law_is_row_0, le__law_gcd_right_0, lt__law_gcd_right_0, le__law_gcd_right_1, le__law_gcd_right_2, lt__law_gcd_right_1, le__law_lcm_right_0, le__law_lcm_right_1, lt__law_lcm_right_0, le__law_lcm_right_2, lt__law_lcm_right_1, fb__law_row_right_0, le__law_row_right_0, le__law_row_right_1, lt__law_row_right_0, le__law_row_right_2, lt__law_row_right_1, le__law_written_0, lt__law_written_0, le__law_written_1, le__law_written_2]
  by_cases c3 : p * d = one
  case neg => simp only [G_takes_gcd, g_takes_gcd, hn, ha, m1, m2, m3, m4, c1, c2, c3, false_and, and_false, gFn, gSeq, gIf, gSet, gSetO, gfCat, gfDisp, gBin, gCall, gApp, gaNil, gaCons, gaCup, gC_eq, gVar_un, gDisp, gSlice, gPart, gNoPart, gTru, gBool, gChain, gAnd, gOr, gNot, gAndV, gOrV, gNotV, gIfE, gUn, gCupF_un, gCupT_un, gCupSet, gRet, gAsg, gPar, gPar3, gDrop, gRaise, gSkip, gIsi, gFor, giTup, giLst, giArg, gLc, gL, gFrz, gApd, gYes, gAll, ggName, ggTup, ggCons, ggNil, wipeE, dLst, dTup, gForL_nil, gForL_cons, gLcL_nil, gLcL_cons, dZip_tup, dZip_lst, zipD_cc, zipD_nil, cutD_1, dCut_tup, dCut_lst, dAbs_ab, dAdd_tup, dAdd_lst, Rs.bind_ok, Rs.bind_exc, Rs.bind_stuck, Rs.ofO_some, Rs.nox_ok, List.getElem?_cons_zero, List.getElem?_cons_succ, List.set_cons_zero, List.set_cons_succ, List.length_cons, List.length_nil, List.length_append, List.length_map, List.replicate_succ, List.replicate_zero, List.cons_append, List.nil_append, List.append_nil, Nat.reduceAdd, Nat.reduceSub, Nat.reduceLT, Nat.reduceLeDiff, Nat.reduceEqDiff, Nat.zero_add, dAdd_int, dMul_int, fI0_int, fB0_int, fI_int, dEq_int, dNe_int, dEq_str, dNe_str, dEq_bl, dBool_bl, dTru_bl, dNeg_int, dToInt_int, dToInt_bl, dLen_tup, dLen_lst, dMin2_int, dMulT_int, dToTup_lst, dToTup_tup, dToLst_lst, dToLst_tup, dats_nil, dats_cons, dIx_tup, dIx_lst, atI0, atI1, atI2, atI3, atI4, atI5, dInt_int, Option.map_some, Option.map_none, Option.bind_some, if_true, if_false, ite_true, ite_false, Bool.false_eq_true, Bool.true_eq_false, reduceIte, Bool.not_true, Bool.not_false, isi_int_int, isi_int_bool, isi_int_str, isi_int_tuple, isi_bool_int, isi_bool_bool, isi_bool_str, isi_bool_tuple, isi_str_int, isi_str_bool, isi_str_str, isi_str_tuple, isi_tup_int, isi_tup_bool, isi_tup_str, isi_tup_tuple, isi_lst_int, isi_lst_bool, isi_lst_str, isi_lst_tuple, isi_none_int, isi_none_bool, isi_none_str, isi_none_tuple, Int.cast_ofNat_Int, decide_true, decide_false, decide_eq_true_eq, not_true_eq_false, not_false_eq_true, Int.reduceEq, Int.reduceNe, Int.reduceLE, Int.reduceLT, Int.reduceAdd, Int.reduceSub, Int.reduceMul, Int.reduceNeg, ite_self, dMax2_int, dInR_int, gInR, le_bezout_0, fb_need_integer_row_0, le_gcd_row_of_0, fb_gcd_row_of_0, ez_gcd_row_of_0, le_shows_gcd_row_0, le_shows_gcd_row_1, le__law_integers_0, lt__law_integers_0, fb__law_integer_0, le__law_is_row_0, le__law_is_row_1, lt__law_is_row_0, le__law_gcd_right_0, lt__law_gcd_right_0, le__law_gcd_right_1, le__law_gcd_right_2, lt__law_gcd_right_1, le__law_lcm_right_0, le__law_lcm_right_1, lt__law_lcm_right_0, le__law_lcm_right_2, lt__law_lcm_right_1, fb__law_row_right_0, le__law_row_right_0, le__law_row_right_1, lt__law_row_right_0, le__law_row_right_2, lt__law_row_right_1, le__law_written_0, lt__law_written_0, le__law_written_1, le__law_written_2]
  simp only [G_takes_gcd, g_takes_gcd, hn, ha, m1, m2, m3, m4, c1, c1', c2, c3, true_and, gFn, gSeq, gIf, gSet, gSetO, gfCat, gfDisp, gBin, gCall, gApp, gaNil, gaCons, gaCup, gC_eq, gVar_un, gDisp, gSlice, gPart, gNoPart, gTru, gBool, gChain, gAnd, gOr, gNot, gAndV, gOrV, gNotV, gIfE, gUn, gCupF_un, gCupT_un, gCupSet, gRet, gAsg, gPar, gPar3, gDrop, gRaise, gSkip, gIsi, gFor, giTup, giLst, giArg, gLc, gL, gFrz, gApd, gYes, gAll, ggName, ggTup, ggCons, ggNil, wipeE, dLst, dTup, gForL_nil, gForL_cons, gLcL_nil, gLcL_cons, dZip_tup, dZip_lst, zipD_cc, zipD_nil, cutD_1, dCut_tup, dCut_lst, dAbs_ab, dAdd_tup, dAdd_lst, Rs.bind_ok, Rs.bind_exc, Rs.bind_stuck, Rs.ofO_some, Rs.nox_ok, List.getElem?_cons_zero, List.getElem?_cons_succ, List.set_cons_zero, List.set_cons_succ, List.length_cons, List.length_nil, List.length_append, List.length_map, List.replicate_succ, List.replicate_zero, List.cons_append, List.nil_append, List.append_nil, Nat.reduceAdd, Nat.reduceSub, Nat.reduceLT, Nat.reduceLeDiff, Nat.reduceEqDiff, Nat.zero_add, dAdd_int, dMul_int, fI0_int, fB0_int, fI_int, dEq_int, dNe_int, dEq_str, dNe_str, dEq_bl, dBool_bl, dTru_bl, dNeg_int, dToInt_int, dToInt_bl, dLen_tup, dLen_lst, dMin2_int, dMulT_int, dToTup_lst, dToTup_tup, dToLst_lst, dToLst_tup, dats_nil, dats_cons, dIx_tup, dIx_lst, atI0, atI1, atI2, atI3, atI4, atI5, dInt_int, Option.map_some, Option.map_none, Option.bind_some, if_true, if_false, ite_true, ite_false, Bool.false_eq_true, Bool.true_eq_false, reduceIte, Bool.not_true, Bool.not_false, isi_int_int, isi_int_bool, isi_int_str, isi_int_tuple, isi_bool_int, isi_bool_bool, isi_bool_str, isi_bool_tuple, isi_str_int, isi_str_bool, isi_str_str, isi_str_tuple, isi_tup_int, isi_tup_bool, isi_tup_str, isi_tup_tuple, isi_lst_int, isi_lst_bool, isi_lst_str, isi_lst_tuple, isi_none_int, isi_none_bool, isi_none_str, isi_none_tuple, Int.cast_ofNat_Int, decide_true, decide_false, decide_eq_true_eq, not_true_eq_false, not_false_eq_true, Int.reduceEq, Int.reduceNe, Int.reduceLE, Int.reduceLT, Int.reduceAdd, Int.reduceSub, Int.reduceMul, Int.reduceNeg, ite_self, dMax2_int, dInR_int, gInR, le_bezout_0, fb_need_integer_row_0, le_gcd_row_of_0, fb_gcd_row_of_0, ez_gcd_row_of_0, le_shows_gcd_row_0, le_shows_gcd_row_1, le__law_integers_0, lt__law_integers_0, fb__law_integer_0, le__law_is_row_0, le__law_is_row_1, lt__law_is_row_0, le__law_gcd_right_0, lt__law_gcd_right_0, le__law_gcd_right_1, le__law_gcd_right_2, lt__law_gcd_right_1, le__law_lcm_right_0, le__law_lcm_right_1, lt__law_lcm_right_0, le__law_lcm_right_2, lt__law_lcm_right_1, fb__law_row_right_0, le__law_row_right_0, le__law_row_right_1, lt__law_row_right_0, le__law_row_right_2, lt__law_row_right_1, le__law_written_0, lt__law_written_0, le__law_written_1, le__law_written_2]
theorem e_law_is_gcd (h1 : Rg one) (h2 : Rg other) (hd : Sm d) (hu : Sm u) (hv : Sm v) (hp : Sm p) (hq : Sm q) :
    G__law_is_gcd [.dat (.int one), .dat (.int other), .dat (pt5 d u v p q)] cu = .ok (.bool (isG one other d u v p q)) cu := by
  have m1 := mulOk_sm hu h1.sm
  have m2 := mulOk_sm hv h2.sm
  have m3 := mulOk_sm hp hd
  have m4 := mulOk_sm hq hd
  unfold isG
  simp only [pt5]
  by_cases c1 : 0 ≤ d
  case neg => simp only [G__law_is_gcd, g__law_is_gcd, m1, m2, m3, m4, c1, false_and, gFn, gSeq, gIf, gSet, gSetO, gfCat, gfDisp, gBin, gCall, gApp, gaNil, gaCons, gaCup, gC_eq, gVar_un, gDisp, gSlice, gPart, gNoPart, gTru, gBool, gChain, gAnd, gOr, gNot, gAndV, gOrV, gNotV, gIfE, gUn, gCupF_un, gCupT_un, gCupSet, gRet, gAsg, gPar, gPar3, gDrop, gRaise, gSkip, gIsi, gFor, giTup, giLst, giArg, gLc, gL, gFrz, gApd, gYes, gAll, ggName, ggTup, ggCons, ggNil, wipeE, dLst, dTup, gForL_nil, gForL_cons, gLcL_nil, gLcL_cons, dZip_tup, dZip_lst, zipD_cc, zipD_nil, cutD_1, dCut_tup, dCut_lst, dAbs_ab, dAdd_tup, dAdd_lst, Rs.bind_ok, Rs.bind_exc, Rs.bind_stuck, Rs.ofO_some, Rs.nox_ok, List.getElem?_cons_zero, List.getElem?_cons_succ, List.set_cons_zero, List.set_cons_succ, List.length_cons, List.length_nil, List.length_append, List.length_map, List.replicate_succ, List.replicate_zero, List.cons_append, List.nil_append, List.append_nil, Nat.reduceAdd, Nat.reduceSub, Nat.reduceLT, Nat.reduceLeDiff, Nat.reduceEqDiff, Nat.zero_add, dAdd_int, dMul_int, fI0_int, fB0_int, fI_int, dEq_int, dNe_int, dEq_str, dNe_str, dEq_bl, dBool_bl, dTru_bl, dNeg_int, dToInt_int, dToInt_bl, dLen_tup, dLen_lst, dMin2_int, dMulT_int, dToTup_lst, dToTup_tup, dToLst_lst, dToLst_tup, dats_nil, dats_cons, dIx_tup, dIx_lst, atI0, atI1, atI2, atI3, atI4, atI5, dInt_int, Option.map_some, Option.map_none, Option.bind_some, if_true, if_false, ite_true, ite_false, Bool.false_eq_true, Bool.true_eq_false, reduceIte, Bool.not_true, Bool.not_false, isi_int_int, isi_int_bool, isi_int_str, isi_int_tuple, isi_bool_int, isi_bool_bool, isi_bool_str, isi_bool_tuple, isi_str_int, isi_str_bool, isi_str_str, isi_str_tuple, isi_tup_int, isi_tup_bool, isi_tup_str, isi_tup_tuple, isi_lst_int, isi_lst_bool, isi_lst_str, isi_lst_tuple, isi_none_int, isi_none_bool, isi_none_str, isi_none_tuple, Int.cast_ofNat_Int, decide_true, decide_false, decide_eq_true_eq, not_true_eq_false, not_false_eq_true, Int.reduceEq, Int.reduceNe, Int.reduceLE, Int.reduceLT, Int.reduceAdd, Int.reduceSub, Int.reduceMul, Int.reduceNeg, ite_self, dMax2_int, dInR_int, gInR, le_bezout_0, fb_need_integer_row_0, le_gcd_row_of_0, fb_gcd_row_of_0, ez_gcd_row_of_0, le_shows_gcd_row_0, le_shows_gcd_row_1, le__law_integers_0, lt__law_integers_0, fb__law_integer_0, le__law_is_row_0, le__law_is_row_1, lt__law_is_row_0, le__law_gcd_right_0, lt__law_gcd_right_0, le__law_gcd_right_1, le__law_gcd_right_2, lt__law_gcd_right_1, le__law_lcm_right_0, le__law_lcm_right_1, lt__law_lcm_right_0, le__law_lcm_right_2, lt__law_lcm_right_1, fb__law_row_right_0, le__law_row_right_0, le__law_row_right_1, lt__law_row_right_0, le__law_row_right_2, lt__law_row_right_1, le__law_written_0, lt__law_written_0, le__law_written_1, le__law_written_2]
  by_cases c2 : u * one + v * other = d
  case neg => simp only [G__law_is_gcd, g__law_is_gcd, m1, m2, m3, m4, c1, c2, false_and, and_false, gFn, gSeq, gIf, gSet, gSetO, gfCat, gfDisp, gBin, gCall, gApp, gaNil, gaCons, gaCup, gC_eq, gVar_un, gDisp, gSlice, gPart, gNoPart, gTru, gBool, gChain, gAnd, gOr, gNot, gAndV, gOrV, gNotV, gIfE, gUn, gCupF_un, gCupT_un, gCupSet, gRet, gAsg, gPar, gPar3, gDrop, gRaise, gSkip, gIsi, gFor, giTup, giLst, giArg, gLc, gL, gFrz, gApd, gYes, gAll, ggName, ggTup, ggCons, ggNil, wipeE, dLst, dTup, gForL_nil, gForL_cons, gLcL_nil, gLcL_cons, dZip_tup, dZip_lst, zipD_cc, zipD_nil, cutD_1, dCut_tup, dCut_lst, dAbs_ab, dAdd_tup, dAdd_lst, Rs.bind_ok, Rs.bind_exc, Rs.bind_stuck, Rs.ofO_some, Rs.nox_ok, List.getElem?_cons_zero, List.getElem?_cons_succ, List.set_cons_zero, List.set_cons_succ, List.length_cons, List.length_nil, List.length_append, List.length_map, List.replicate_succ, List.replicate_zero, List.cons_append, List.nil_append, List.append_nil, Nat.reduceAdd, Nat.reduceSub, Nat.reduceLT, Nat.reduceLeDiff, Nat.reduceEqDiff, Nat.zero_add, dAdd_int, dMul_int, fI0_int, fB0_int, fI_int, dEq_int, dNe_int, dEq_str, dNe_str, dEq_bl, dBool_bl, dTru_bl, dNeg_int, dToInt_int, dToInt_bl, dLen_tup, dLen_lst, dMin2_int, dMulT_int, dToTup_lst, dToTup_tup, dToLst_lst, dToLst_tup, dats_nil, dats_cons, dIx_tup, dIx_lst, atI0, atI1, atI2, atI3, atI4, atI5, dInt_int, Option.map_some, Option.map_none, Option.bind_some, if_true, if_false, ite_true, ite_false, Bool.false_eq_true, Bool.true_eq_false, reduceIte, Bool.not_true, Bool.not_false, isi_int_int, isi_int_bool, isi_int_str, isi_int_tuple, isi_bool_int, isi_bool_bool, isi_bool_str, isi_bool_tuple, isi_str_int, isi_str_bool, isi_str_str, isi_str_tuple, isi_tup_int, isi_tup_bool, isi_tup_str, isi_tup_tuple, isi_lst_int, isi_lst_bool, isi_lst_str, isi_lst_tuple, isi_none_int, isi_none_bool, isi_none_str, isi_none_tuple, Int.cast_ofNat_Int, decide_true, decide_false, decide_eq_true_eq, not_true_eq_false, not_false_eq_true, Int.reduceEq, Int.reduceNe, Int.reduceLE, Int.reduceLT, Int.reduceAdd, Int.reduceSub, Int.reduceMul, Int.reduceNeg, ite_self, dMax2_int, dInR_int, gInR, le_bezout_0, fb_need_integer_row_0, le_gcd_row_of_0, fb_gcd_row_of_0, ez_gcd_row_of_0, le_shows_gcd_row_0, le_shows_gcd_row_1, le__law_integers_0, lt__law_integers_0, fb__law_integer_0, le__law_is_row_0, le__law_is_row_1, lt__law_is_row_0, le__law_gcd_right_0, lt__law_gcd_right_0, le__law_gcd_right_1, le__law_gcd_right_2, lt__law_gcd_right_1, le__law_lcm_right_0, le__law_lcm_right_1, lt__law_lcm_right_0, le__law_lcm_right_2, lt__law_lcm_right_1, fb__law_row_right_0, le__law_row_right_0, le__law_row_right_1, lt__law_row_right_0, le__law_row_right_2, lt__law_row_right_1, le__law_written_0, lt__law_written_0, le__law_written_1, le__law_written_2]
  by_cases c3 : p * d = one
  case neg => simp only [G__law_is_gcd, g__law_is_gcd, m1, m2, m3, m4, c1, c2, c3, false_and, and_false, gFn, gSeq, gIf, gSet, gSetO, gfCat, gfDisp, gBin, gCall, gApp, gaNil, gaCons, gaCup, gC_eq, gVar_un, gDisp, gSlice, gPart, gNoPart, gTru, gBool, gChain, gAnd, gOr, gNot, gAndV, gOrV, gNotV, gIfE, gUn, gCupF_un, gCupT_un, gCupSet, gRet, gAsg, gPar, gPar3, gDrop, gRaise, gSkip, gIsi, gFor, giTup, giLst, giArg, gLc, gL, gFrz, gApd, gYes, gAll, ggName, ggTup, ggCons, ggNil, wipeE, dLst, dTup, gForL_nil, gForL_cons, gLcL_nil, gLcL_cons, dZip_tup, dZip_lst, zipD_cc, zipD_nil, cutD_1, dCut_tup, dCut_lst, dAbs_ab, dAdd_tup, dAdd_lst, Rs.bind_ok, Rs.bind_exc, Rs.bind_stuck, Rs.ofO_some, Rs.nox_ok, List.getElem?_cons_zero, List.getElem?_cons_succ, List.set_cons_zero, List.set_cons_succ, List.length_cons, List.length_nil, List.length_append, List.length_map, List.replicate_succ, List.replicate_zero, List.cons_append, List.nil_append, List.append_nil, Nat.reduceAdd, Nat.reduceSub, Nat.reduceLT, Nat.reduceLeDiff, Nat.reduceEqDiff, Nat.zero_add, dAdd_int, dMul_int, fI0_int, fB0_int, fI_int, dEq_int, dNe_int, dEq_str, dNe_str, dEq_bl, dBool_bl, dTru_bl, dNeg_int, dToInt_int, dToInt_bl, dLen_tup, dLen_lst, dMin2_int, dMulT_int, dToTup_lst, dToTup_tup, dToLst_lst, dToLst_tup, dats_nil, dats_cons, dIx_tup, dIx_lst, atI0, atI1, atI2, atI3, atI4, atI5, dInt_int, Option.map_some, Option.map_none, Option.bind_some, if_true, if_false, ite_true, ite_false, Bool.false_eq_true, Bool.true_eq_false, reduceIte, Bool.not_true, Bool.not_false, isi_int_int, isi_int_bool, isi_int_str, isi_int_tuple, isi_bool_int, isi_bool_bool, isi_bool_str, isi_bool_tuple, isi_str_int, isi_str_bool, isi_str_str, isi_str_tuple, isi_tup_int, isi_tup_bool, isi_tup_str, isi_tup_tuple, isi_lst_int, isi_lst_bool, isi_lst_str, isi_lst_tuple, isi_none_int, isi_none_bool, isi_none_str, isi_none_tuple, Int.cast_ofNat_Int, decide_true, decide_false, decide_eq_true_eq, not_true_eq_false, not_false_eq_true, Int.reduceEq, Int.reduceNe, Int.reduceLE, Int.reduceLT, Int.reduceAdd, Int.reduceSub, Int.reduceMul, Int.reduceNeg, ite_self, dMax2_int, dInR_int, gInR, le_bezout_0, fb_need_integer_row_0, le_gcd_row_of_0, fb_gcd_row_of_0, ez_gcd_row_of_0, le_shows_gcd_row_0, le_shows_gcd_row_1, le__law_integers_0, lt__law_integers_0, fb__law_integer_0, le__law_is_row_0, le__law_is_row_1, lt__law_is_row_0, le__law_gcd_right_0, lt__law_gcd_right_0, le__law_gcd_right_1, le__law_gcd_right_2, lt__law_gcd_right_1, le__law_lcm_right_0, le__law_lcm_right_1, lt__law_lcm_right_0, le__law_lcm_right_2, lt__law_lcm_right_1, fb__law_row_right_0, le__law_row_right_0, le__law_row_right_1, lt__law_row_right_0, le__law_row_right_2, lt__law_row_right_1, le__law_written_0, lt__law_written_0, le__law_written_1, le__law_written_2]
  simp only [G__law_is_gcd, g__law_is_gcd, m1, m2, m3, m4, c1, c2, c3, true_and, gFn, gSeq, gIf, gSet, gSetO, gfCat, gfDisp, gBin, gCall, gApp, gaNil, gaCons, gaCup, gC_eq, gVar_un, gDisp, gSlice, gPart, gNoPart, gTru, gBool, gChain, gAnd, gOr, gNot, gAndV, gOrV, gNotV, gIfE, gUn, gCupF_un, gCupT_un, gCupSet, gRet, gAsg, gPar, gPar3, gDrop, gRaise, gSkip, gIsi, gFor, giTup, giLst, giArg, gLc, gL, gFrz, gApd, gYes, gAll, ggName, ggTup, ggCons, ggNil, wipeE, dLst, dTup, gForL_nil, gForL_cons, gLcL_nil, gLcL_cons, dZip_tup, dZip_lst, zipD_cc, zipD_nil, cutD_1, dCut_tup, dCut_lst, dAbs_ab, dAdd_tup, dAdd_lst, Rs.bind_ok, Rs.bind_exc, Rs.bind_stuck, Rs.ofO_some, Rs.nox_ok, List.getElem?_cons_zero, List.getElem?_cons_succ, List.set_cons_zero, List.set_cons_succ, List.length_cons, List.length_nil, List.length_append, List.length_map, List.replicate_succ, List.replicate_zero, List.cons_append, List.nil_append, List.append_nil, Nat.reduceAdd, Nat.reduceSub, Nat.reduceLT, Nat.reduceLeDiff, Nat.reduceEqDiff, Nat.zero_add, dAdd_int, dMul_int, fI0_int, fB0_int, fI_int, dEq_int, dNe_int, dEq_str, dNe_str, dEq_bl, dBool_bl, dTru_bl, dNeg_int, dToInt_int, dToInt_bl, dLen_tup, dLen_lst, dMin2_int, dMulT_int, dToTup_lst, dToTup_tup, dToLst_lst, dToLst_tup, dats_nil, dats_cons, dIx_tup, dIx_lst, atI0, atI1, atI2, atI3, atI4, atI5, dInt_int, Option.map_some, Option.map_none, Option.bind_some, if_true, if_false, ite_true, ite_false, Bool.false_eq_true, Bool.true_eq_false, reduceIte, Bool.not_true, Bool.not_false, isi_int_int, isi_int_bool, isi_int_str, isi_int_tuple, isi_bool_int, isi_bool_bool, isi_bool_str, isi_bool_tuple, isi_str_int, isi_str_bool, isi_str_str, isi_str_tuple, isi_tup_int, isi_tup_bool, isi_tup_str, isi_tup_tuple, isi_lst_int, isi_lst_bool, isi_lst_str, isi_lst_tuple, isi_none_int, isi_none_bool, isi_none_str, isi_none_tuple, Int.cast_ofNat_Int, decide_true, decide_false, decide_eq_true_eq, not_true_eq_false, not_false_eq_true, Int.reduceEq, Int.reduceNe, Int.reduceLE, Int.reduceLT, Int.reduceAdd, Int.reduceSub, Int.reduceMul, Int.reduceNeg, ite_self, dMax2_int, dInR_int, gInR, le_bezout_0, fb_need_integer_row_0, le_gcd_row_of_0, fb_gcd_row_of_0, ez_gcd_row_of_0, le_shows_gcd_row_0, le_shows_gcd_row_1, le__law_integers_0, lt__law_integers_0, fb__law_integer_0, le__law_is_row_0, le__law_is_row_1, lt__law_is_row_0, le__law_gcd_right_0, lt__law_gcd_right_0, le__law_gcd_right_1, le__law_gcd_right_2, lt__law_gcd_right_1, le__law_lcm_right_0, le__law_lcm_right_1, lt__law_lcm_right_0, le__law_lcm_right_2, lt__law_lcm_right_1, fb__law_row_right_0, le__law_row_right_0, le__law_row_right_1, lt__law_row_right_0, le__law_row_right_2, lt__law_row_right_1, le__law_written_0, lt__law_written_0, le__law_written_1, le__law_written_2]
end
/-! spoilt papers -/
section
variable {cu : Cu} {zs : List Int}
theorem e_spoilt (h0 : 0 < zs.length) (h1 : zs.length ≤ 1000) (hz : ∀ z ∈ zs, Hf z) : ∃ (ws : List Int) (c : Cu), ws.length = zs.length ∧ (∀ w ∈ ws, Sm w) ∧ G__law_spoilt [.cup, .dat (tupI zs)] cu = .ok (tupI ws) c := by
  obtain ⟨k, c1, k0, k1, e1⟩ := roll_ex (zs.length : Int) (by omega) (by have : (1000 : Nat) < 2 ^ 2000 := by decide
                                                                         omega) cu
  obtain ⟨n, rfl⟩ := Int.eq_ofNat_of_zero_le k0
  have hn : n < zs.length := by omega
  have hzn := hz _ (List.getElem_mem hn)
  generalize ez : zs[n] = z at hzn
  obtain ⟨w, hw, c2, e2⟩ := some_ex [z + 1, z - 1, 0 - z, z * 2, 0] (Nat.zero_lt_succ _) (show 5 ≤ 1000 by decide) c1
  have sw : Sm w := by
    unfold Sm
    unfold Hf at hzn
    have hb : (2 : Nat) ^ 1998 * 2 + 1 < 2 ^ 2000 := by decide
    simp only [List.mem_cons, List.not_mem_nil, or_false] at hw
    rcases hw with rfl | rfl | rfl | rfl | rfl <;> omega
  have ei : atI (zs.map PyData.int) (n : Int) = some (.int z) := atI_map (by rw [List.getElem?_eq_getElem hn, ez])
  have t1 := cutI_take (zs := zs) (i := (n : Int)) (by omega) (by omega)
  have t2 := cutI_drop (zs := zs) (i := (n : Int) + 1) (by omega) (by omega)
  have m : mulOk z 2 = true := mulOk_r (by decide)
  refine ⟨zs.take n ++ [w] ++ zs.drop (n + 1), c2, ?_, fun x hx => ?_, ?_⟩
  · simp only [List.length_append, List.length_take, List.length_cons, List.length_nil, List.length_drop]; omega
  · simp only [List.mem_append, List.mem_cons, List.not_mem_nil, or_false] at hx
    rcases hx with (hx | rfl) | hx
    · exact (hz x (List.mem_of_mem_take hx)).sm
    · exact sw
    · exact (hz x (List.mem_of_mem_drop hx)).sm
  · have g1 : ((n : Int)).toNat = n := rfl
    have g2 : ((n : Int) + 1).toNat = n + 1 := by omega
    rw [g1] at t1
    rw [g2] at t2
    simp only [lstI, List.map_cons, List.map_nil] at e2
    have l1 : (List.take n zs).length + 1 ≤ 16777216 := by rw [List.length_take]; omega
    have l2 : (List.take n zs).length + 1 + (List.drop (n + 1) zs).length ≤ 16777216 := by rw [List.length_take, List.length_drop]; omega
    simp only [G__law_spoilt, g__law_spoilt, e1, ei, e2, t1, t2, m, List.length_map, l1, l2, gFn, gSeq, gIf, gSet, gSetO, gfCat, gfDisp, gBin, gCall, gApp, gaNil, gaCons, gaCup, gC_eq, gVar_un, gDisp, gSlice, gPart, gNoPart, gTru, gBool, gChain, gAnd, gOr, gNot, gAndV, gOrV, gNotV, gIfE, gUn, gCupF_un, gCupT_un, gCupSet, gRet, gAsg, gPar, gPar3, gDrop, gRaise, gSkip, gIsi, gFor, giTup, giLst, giArg, gLc, gL, gFrz, gApd, gYes, gAll, ggName, ggTup, ggCons, ggNil, wipeE, dLst, dTup, gForL_nil, gForL_cons, gLcL_nil, gLcL_cons, dZip_tup, dZip_lst, zipD_cc, zipD_nil, cutD_1, dCut_tup, dCut_lst, dAbs_ab, dAdd_tup, dAdd_lst, Rs.bind_ok, Rs.bind_exc, Rs.bind_stuck, Rs.ofO_some, Rs.nox_ok, List.getElem?_cons_zero, List.getElem?_cons_succ, List.set_cons_zero, List.set_cons_succ, List.length_cons, List.length_nil, List.length_append, List.length_map, List.replicate_succ, List.replicate_zero, List.cons_append, List.nil_append, List.append_nil, Nat.reduceAdd, Nat.reduceSub, Nat.reduceLT, Nat.reduceLeDiff, Nat.reduceEqDiff, Nat.zero_add, dAdd_int, dMul_int, fI0_int, fB0_int, fI_int, dEq_int, dNe_int, dEq_str, dNe_str, dEq_bl, dBool_bl, dTru_bl, dNeg_int, dToInt_int, dToInt_bl, dLen_tup, dLen_lst, dMin2_int, dMulT_int, dToTup_lst, dToTup_tup, dToLst_lst, dToLst_tup, dats_nil, dats_cons, dIx_tup, dIx_lst, atI0, atI1, atI2, atI3, atI4, atI5, dInt_int, Option.map_some, Option.map_none, Option.bind_some, if_true, if_false, ite_true, ite_false, Bool.false_eq_true, Bool.true_eq_false, reduceIte, Bool.not_true, Bool.not_false, isi_int_int, isi_int_bool, isi_int_str, isi_int_tuple, isi_bool_int, isi_bool_bool, isi_bool_str, isi_bool_tuple, isi_str_int, isi_str_bool, isi_str_str, isi_str_tuple, isi_tup_int, isi_tup_bool, isi_tup_str, isi_tup_tuple, isi_lst_int, isi_lst_bool, isi_lst_str, isi_lst_tuple, isi_none_int, isi_none_bool, isi_none_str, isi_none_tuple, Int.cast_ofNat_Int, decide_true, decide_false, decide_eq_true_eq, not_true_eq_false, not_false_eq_true, Int.reduceEq, Int.reduceNe, Int.reduceLE, Int.reduceLT, Int.reduceAdd, Int.reduceSub, Int.reduceMul, Int.reduceNeg, ite_self, dMax2_int, dInR_int, gInR]
    show _ = Rs.ok (PyData.tuple (List.map _ _)) _
    simp only [List.map_append, List.map_cons, List.map_nil]
end
end Prog

set_option Elab.async false
set_option linter.all false
set_option maxRecDepth 100000
set_option maxHeartbeats 4000000
set_option autoImplicit false
set_option exponentiation.threshold 4000
namespace Prog
open PySem PySem.Spec L2 DL
/-- a tuple of five numbers of a size -/
def Five (P : PyData) : Prop := ∃ a b c d e : Int, P = pt5 a b c d e ∧ Sm a ∧ Sm b ∧ Sm c ∧ Sm d ∧ Sm e
theorem five_of {ws : List Int} (hl : ws.length = 5) (h : ∀ w ∈ ws, Sm w) : Five (tupI ws) := by
  match ws, hl with
  | [a, b, c, d, e], _ => exact ⟨a, b, c, d, e, rfl, h _ (by simp), h _ (by simp), h _ (by simp), h _ (by simp), h _ (by simp)⟩
section
variable {cu : Cu} {one other d u v p q : Int}
theorem Five.gcd {P : PyData} (h1 : Rg one) (h2 : Rg other) (h : Five P) : ∃ k : Bool, ∀ cu, G_takes_gcd [.dat (.int one), .dat (.int other), .dat P] cu = .ok (.bool k) cu ∧ G__law_is_gcd [.dat (.int one), .dat (.int other), .dat P] cu = .ok (.bool k) cu := by
  obtain ⟨a, b, c, d, e, rfl, s1, s2, s3, s4, s5⟩ := h
  exact ⟨_, fun cu => ⟨e_takes_gcd h1 h2 s1 s2 s3 s4 s5, e_law_is_gcd h1 h2 s1 s2 s3 s4 s5⟩⟩
/-- three spoilt ones -/
theorem e_spoilts {P : PyData} {le : GE} {gg : GG} {ρ : En} (hle : ∀ (d : PyData) (cu : Cu), ∃ ρ1, gg d ρ = some ρ1 ∧ le ρ1 cu = G__law_spoilt [.cup, .dat P] cu) (hs : ∀ cu, ∃ Q c, Five Q ∧ G__law_spoilt [.cup, .dat P] cu = .ok Q c) : ∀ (ds : List PyData) (cu : Cu),
    ∃ qs c, (∀ q ∈ qs, Five q) ∧ qs.length = ds.length ∧ gLcL gg gYes le ds ρ cu = .ok qs c
  | [], cu => ⟨[], cu, (fun q h => nomatch h), rfl, rfl⟩
  | d :: r, cu => by
    obtain ⟨ρ1, h1, h2⟩ := hle d cu
    obtain ⟨Q, c1, hQ, e1⟩ := hs cu
    obtain ⟨qs, c2, hqs, hl, e2⟩ := e_spoilts hle hs r c1
    refine ⟨Q :: qs, c2, fun x hx => ?_, by simp [hl], ?_⟩
    · rcases List.mem_cons.mp hx with rfl | hx
      · exact hQ
      · exact hqs x hx
    · rw [gLcL_cons, h1, Rs.ofO_some, Rs.bind_ok]
      show (Rs.ok true cu).nox.bind _ = _
      rw [Rs.nox_ok, Rs.bind_ok, if_pos rfl, h2, e1, Rs.nox_ok, Rs.bind_ok, e2, Rs.bind_ok]
theorem three {α : Type} {l : List α} (h : l.length = 3) : ∃ a b c, l = [a, b, c] := by
  match l, h with
  | [a, b, c], _ => exact ⟨a, b, c, rfl⟩
theorem rng3 : dRng1 [.int 3] = some [.int 0, .int 1, .int 2] := rfl
theorem cut5_a1 {a b c d e : PyData} : cutD [a, b, c, d, e] none (some 1) = [a] := rfl
theorem cut5_a3 {a b c d e : PyData} : cutD [a, b, c, d, e] none (some 3) = [a, b, c] := rfl
theorem cut5_a4 {a b c d e : PyData} : cutD [a, b, c, d, e] none (some 4) = [a, b, c, d] := rfl
theorem cut5_b3 {a b c d e : PyData} : cutD [a, b, c, d, e] (some 3) none = [d, e] := rfl
abbrev gE (one other d : Int) (P : PyData) (x5 x6 x7 : Sl) : En := [.cup, .dat (.int one), .dat (.int other), .dat (.int d), .dat P, x5, x6, x7, .un, .un]
/-- all are judged alike -/
theorem g_told (h1 : Rg one) (h2 : Rg other) {ds : List PyData} {P : PyData} {x5 x7 : Sl} {D : Int} (h : ∀ x ∈ ds, Five x) (hl : ds.length < 16777216) :
    gLc (giLst (gVar 6)) [8] (ggName 8) lt__law_gcd_right_1 le__law_gcd_right_2 (gE one other D P x5 (.dat (.list ds)) x7) cu = .ok [] cu := by
  have z := gLcL_pure (gg := ggName 8) (gt := lt__law_gcd_right_1) (ge := le__law_gcd_right_2) (cu := cu) (ρ := gE one other D P x5 (.dat (.list ds)) x7) (fun _ => false) id (ds := ds) fun x hx => by
    obtain ⟨k, hk⟩ := (h x hx).gcd h1 h2
    have k1 := (hk cu).1
    have k2 := (hk cu).2
    refine ⟨_, rfl, ?_, fun z => nomatch z⟩
    simp only [gE, k1, k2, e_same, gFn, gSeq, gIf, gSet, gSetO, gfCat, gfDisp, gBin, gCall, gApp, gaNil, gaCons, gaCup, gC_eq, gVar_un, gDisp, gSlice, gPart, gNoPart, gTru, gBool, gChain, gAnd, gOr, gNot, gAndV, gOrV, gNotV, gIfE, gUn, gCupF_un, gCupT_un, gCupSet, gRet, gAsg, gPar, gPar3, gDrop, gRaise, gSkip, gIsi, gFor, giTup, giLst, giArg, gLc, gL, gFrz, gApd, gYes, gAll, ggName, ggTup, ggCons, ggNil, wipeE, dLst, dTup, gForL_nil, gForL_cons, gLcL_nil, gLcL_cons, dZip_tup, dZip_lst, zipD_cc, zipD_nil, cutD_1, dCut_tup, dCut_lst, dAbs_ab, dAdd_tup, dAdd_lst, Rs.bind_ok, Rs.bind_exc, Rs.bind_stuck, Rs.ofO_some, Rs.nox_ok, List.getElem?_cons_zero, List.getElem?_cons_succ, List.set_cons_zero, List.set_cons_succ, List.length_cons, List.length_nil, List.length_append, List.length_map, List.replicate_succ, List.replicate_zero, List.cons_append, List.nil_append, List.append_nil, Nat.reduceAdd, Nat.reduceSub, Nat.reduceLT, Nat.reduceLeDiff, Nat.reduceEqDiff, Nat.zero_add, dAdd_int, dMul_int, fI0_int, fB0_int, fI_int, dEq_int, dNe_int, dEq_str, dNe_str, dEq_bl, dBool_bl, dTru_bl, dNeg_int, dToInt_int, dToInt_bl, dLen_tup, dLen_lst, dMin2_int, dMulT_int, dToTup_lst, dToTup_tup, dToLst_lst, dToLst_tup, dats_nil, dats_cons, dIx_tup, dIx_lst, atI0, atI1, atI2, atI3, atI4, atI5, dInt_int, Option.map_some, Option.map_none, Option.bind_some, if_true, if_false, ite_true, ite_false, Bool.false_eq_true, Bool.true_eq_false, reduceIte, Bool.not_true, Bool.not_false, isi_int_int, isi_int_bool, isi_int_str, isi_int_tuple, isi_bool_int, isi_bool_bool, isi_bool_str, isi_bool_tuple, isi_str_int, isi_str_bool, isi_str_str, isi_str_tuple, isi_tup_int, isi_tup_bool, isi_tup_str, isi_tup_tuple, isi_lst_int, isi_lst_bool, isi_lst_str, isi_lst_tuple, isi_none_int, isi_none_bool, isi_none_str, isi_none_tuple, Int.cast_ofNat_Int, decide_true, decide_false, decide_eq_true_eq, not_true_eq_false, not_false_eq_true, Int.reduceEq, Int.reduceNe, Int.reduceLE, Int.reduceLT, Int.reduceAdd, Int.reduceSub, Int.reduceMul, Int.reduceNeg, ite_self, dMax2_int, dInR_int, gInR, le_bezout_0, fb_need_integer_row_0, le_gcd_row_of_0, fb_gcd_row_of_0, ez_gcd_row_of_0, le_shows_gcd_row_0, le_shows_gcd_row_1, le__law_integers_0, lt__law_integers_0, fb__law_integer_0, le__law_is_row_0, le__law_is_row_1, lt__law_is_row_0, le__law_gcd_right_0, lt__law_gcd_right_0, le__law_gcd_right_1, le__law_gcd_right_2, lt__law_gcd_right_1, le__law_lcm_right_0, le__law_lcm_right_1, lt__law_lcm_right_0, le__law_lcm_right_2, lt__law_lcm_right_1, fb__law_row_right_0, le__law_row_right_0, le__law_row_right_1, lt__law_row_right_0, le__law_row_right_2, lt__law_row_right_1, le__law_written_0, lt__law_written_0, le__law_written_1, le__law_written_2]
  simp only [gLc, giLst, gVar_un, gE, List.getElem?_cons_succ, List.getElem?_cons_zero, Rs.bind_ok, dLst, Rs.ofO_some, hl, if_true, wipeE, List.set_cons_succ, List.set_cons_zero]
  simp only [gE] at z
  rw [z, List.filter_eq_nil_iff.mpr (fun a _ => Bool.false_ne_true)]
  rfl
theorem e_takes4 (h1 : Rg one) (h2 : Rg other) {a b c d : PyData} : G_takes_gcd [.dat (.int one), .dat (.int other), .dat (.tuple [a, b, c, d])] cu = .ok (.bool false) cu := by
  have hn := e_need_two (cu := cu) h1 h2
  have ha : G_are_integers [.dat (.tuple [a, b, c, d]), .dat (.int 5)] cu = .ok (.bool false) cu := by
    simp only [G_are_integers, g_are_integers, gFn, gSeq, gIf, gSet, gSetO, gfCat, gfDisp, gBin, gCall, gApp, gaNil, gaCons, gaCup, gC_eq, gVar_un, gDisp, gSlice, gPart, gNoPart, gTru, gBool, gChain, gAnd, gOr, gNot, gAndV, gOrV, gNotV, gIfE, gUn, gCupF_un, gCupT_un, gCupSet, gRet, gAsg, gPar, gPar3, gDrop, gRaise, gSkip, gIsi, gFor, giTup, giLst, giArg, gLc, gL, gFrz, gApd, gYes, gAll, ggName, ggTup, ggCons, ggNil, wipeE, dLst, dTup, gForL_nil, gForL_cons, gLcL_nil, gLcL_cons, dZip_tup, dZip_lst, zipD_cc, zipD_nil, cutD_1, dCut_tup, dCut_lst, dAbs_ab, dAdd_tup, dAdd_lst, Rs.bind_ok, Rs.bind_exc, Rs.bind_stuck, Rs.ofO_some, Rs.nox_ok, List.getElem?_cons_zero, List.getElem?_cons_succ, List.set_cons_zero, List.set_cons_succ, List.length_cons, List.length_nil, List.length_append, List.length_map, List.replicate_succ, List.replicate_zero, List.cons_append, List.nil_append, List.append_nil, Nat.reduceAdd, Nat.reduceSub, Nat.reduceLT, Nat.reduceLeDiff, Nat.reduceEqDiff, Nat.zero_add, dAdd_int, dMul_int, fI0_int, fB0_int, fI_int, dEq_int, dNe_int, dEq_str, dNe_str, dEq_bl, dBool_bl, dTru_bl, dNeg_int, dToInt_int, dToInt_bl, dLen_tup, dLen_lst, dMin2_int, dMulT_int, dToTup_lst, dToTup_tup, dToLst_lst, dToLst_tup, dats_nil, dats_cons, dIx_tup, dIx_lst, atI0, atI1, atI2, atI3, atI4, atI5, dInt_int, Option.map_some, Option.map_none, Option.bind_some, if_true, if_false, ite_true, ite_false, Bool.false_eq_true, Bool.true_eq_false, reduceIte, Bool.not_true, Bool.not_false, isi_int_int, isi_int_bool, isi_int_str, isi_int_tuple, isi_bool_int, isi_bool_bool, isi_bool_str, isi_bool_tuple, isi_str_int, isi_str_bool, isi_str_str, isi_str_tuple, isi_tup_int, isi_tup_bool, isi_tup_str, isi_tup_tuple, isi_lst_int, isi_lst_bool, isi_lst_str, isi_lst_tuple, isi_none_int, isi_none_bool, isi_none_str, isi_none_tuple, Int.cast_ofNat_Int, decide_true, decide_false, decide_eq_true_eq, not_true_eq_false, not_false_eq_true, Int.reduceEq, Int.reduceNe, Int.reduceLE, Int.reduceLT, Int.reduceAdd, Int.reduceSub, Int.reduceMul, Int.reduceNeg, ite_self, dMax2_int, dInR_int, gInR, le_bezout_0, fb_need_integer_row_0, le_gcd_row_of_0, fb_gcd_row_of_0, ez_gcd_row_of_0, le_shows_gcd_row_0, le_shows_gcd_row_1, le__law_integers_0, lt__law_integers_0, fb__law_integer_0, le__law_is_row_0, le__law_is_row_1, lt__law_is_row_0, le__law_gcd_right_0, lt__law_gcd_right_0, le__law_gcd_right_1, le__law_gcd_right_2, lt__law_gcd_right_1, le__law_lcm_right_0, le__law_lcm_right_1, lt__law_lcm_right_0, le__law_lcm_right_2, lt__law_lcm_right_1, fb__law_row_right_0, le__law_row_right_0, le__law_row_right_1, lt__law_row_right_0, le__law_row_right_2, lt__law_row_right_1, le__law_written_0, lt__law_written_0, le__law_written_1, le__law_written_2]
  simp only [G_takes_gcd, g_takes_gcd, hn, ha, gFn, gSeq, gIf, gSet, gSetO, gfCat, gfDisp, gBin, gCall, gApp, gaNil, gaCons, gaCup, gC_eq, gVar_un, gDisp, gSlice, gPart, gNoPart, gTru, gBool, gChain, gAnd, gOr, gNot, gAndV, gOrV, gNotV, gIfE, gUn, gCupF_un, gCupT_un, gCupSet, gRet, gAsg, gPar, gPar3, gDrop, gRaise, gSkip, gIsi, gFor, giTup, giLst, giArg, gLc, gL, gFrz, gApd, gYes, gAll, ggName, ggTup, ggCons, ggNil, wipeE, dLst, dTup, gForL_nil, gForL_cons, gLcL_nil, gLcL_cons, dZip_tup, dZip_lst, zipD_cc, zipD_nil, cutD_1, dCut_tup, dCut_lst, dAbs_ab, dAdd_tup, dAdd_lst, Rs.bind_ok, Rs.bind_exc, Rs.bind_stuck, Rs.ofO_some, Rs.nox_ok, List.getElem?_cons_zero, List.getElem?_cons_succ, List.set_cons_zero, List.set_cons_succ, List.length_cons, List.length_nil, List.length_append, List.length_map, List.replicate_succ, List.replicate_zero, List.cons_append, List.nil_append, List.append_nil, Nat.reduceAdd, Nat.reduceSub, Nat.reduceLT, Nat.reduceLeDiff, Nat.reduceEqDiff, Nat.zero_add, dAdd_int, dMul_int, fI0_int, fB0_int, fI_int, dEq_int, dNe_int, dEq_str, dNe_str, dEq_bl, dBool_bl, dTru_bl, dNeg_int, dToInt_int, dToInt_bl, dLen_tup, dLen_lst, dMin2_int, dMulT_int, dToTup_lst, dToTup_tup, dToLst_lst, dToLst_tup, dats_nil, dats_cons, dIx_tup, dIx_lst, atI0, atI1, atI2, atI3, atI4, atI5, dInt_int, Option.map_some, Option.map_none, Option.bind_some, if_true, if_false, ite_true, ite_false, Bool.false_eq_true, Bool.true_eq_false, reduceIte, Bool.not_true, Bool.not_false, isi_int_int, isi_int_bool, isi_int_str, isi_int_tuple, isi_bool_int, isi_bool_bool, isi_bool_str, isi_bool_tuple, isi_str_int, isi_str_bool, isi_str_str, isi_str_tuple, isi_tup_int, isi_tup_bool, isi_tup_str, isi_tup_tuple, isi_lst_int, isi_lst_bool, isi_lst_str, isi_lst_tuple, isi_none_int, isi_none_bool, isi_none_str, isi_none_tuple, Int.cast_ofNat_Int, decide_true, decide_false, decide_eq_true_eq, not_true_eq_false, not_false_eq_true, Int.reduceEq, Int.reduceNe, Int.reduceLE, Int.reduceLT, Int.reduceAdd, Int.reduceSub, Int.reduceMul, Int.reduceNeg, ite_self, dMax2_int, dInR_int, gInR, le_bezout_0, fb_need_integer_row_0, le_gcd_row_of_0, fb_gcd_row_of_0, ez_gcd_row_of_0, le_shows_gcd_row_0, le_shows_gcd_row_1, le__law_integers_0, lt__law_integers_0, fb__law_integer_0, le__law_is_row_0, le__law_is_row_1, lt__law_is_row_0, le__law_gcd_right_0, lt__law_gcd_right_0, le__law_gcd_right_1, le__law_gcd_right_2, lt__law_gcd_right_1, le__law_lcm_right_0, le__law_lcm_right_1, lt__law_lcm_right_0, le__law_lcm_right_2, lt__law_lcm_right_1, fb__law_row_right_0, le__law_row_right_0, le__law_row_right_1, lt__law_row_right_0, le__law_row_right_2, lt__law_row_right_1, le__law_written_0, lt__law_written_0, le__law_written_1, le__law_written_2]
theorem g_tail (h1 : Rg one) (h2 : Rg other) {ds : List PyData} {x5 x7 : Sl} (G : Gp one other d u v p q) (e : ∀ cu, G_gcd_paper [.dat (.int one), .dat (.int other)] cu = .ok (pt5 d u v p q) cu) (h : ∀ x ∈ ds, Five x) (hl : ds.length < 16777216) :
    ta__law_gcd_right_2 (gE one other d (pt5 d u v p q) x5 (.own ds) x7) cu = .ok (.ret (.bool true)) cu := by
  have ht := g_told (cu := cu) h1 h2 (D := d) (P := pt5 d u v p q) (x5 := x5) (x7 := x7) h hl
  have h4 := e_takes4 (cu := cu) h1 h2 (a := .int d) (b := .int u) (c := .int v) (d := .int p)
  have hx : dIs (.bool false) (.bool false) = some (.bool true) := rfl
  simp only [gE, pt5] at ht e ⊢
  simp only [ta__law_gcd_right_2, ta__law_gcd_right_1, ta__law_gcd_right_0, gFrz, List.getElem?_cons_succ, List.getElem?_cons_zero, List.set_cons_succ, List.set_cons_zero, gSeq, gIf, gBool, gBin, gL, ht, gDisp, gaNil, eqL_nil', Rs.bind_ok, Rs.ofO_some, dats_nil, Option.bind_some, List.length_nil, Nat.zero_le, if_true, dBool_bl, Bool.false_eq_true, if_false, gSkip]
  simp only [e, h4, hx, cut5_a4, gFn, gSeq, gIf, gSet, gSetO, gfCat, gfDisp, gBin, gCall, gApp, gaNil, gaCons, gaCup, gC_eq, gVar_un, gDisp, gSlice, gPart, gNoPart, gTru, gBool, gChain, gAnd, gOr, gNot, gAndV, gOrV, gNotV, gIfE, gUn, gCupF_un, gCupT_un, gCupSet, gRet, gAsg, gPar, gPar3, gDrop, gRaise, gSkip, gIsi, gFor, giTup, giLst, giArg, gLc, gL, gFrz, gApd, gYes, gAll, ggName, ggTup, ggCons, ggNil, wipeE, dLst, dTup, gForL_nil, gForL_cons, gLcL_nil, gLcL_cons, dZip_tup, dZip_lst, zipD_cc, zipD_nil, cutD_1, dCut_tup, dCut_lst, dAbs_ab, dAdd_tup, dAdd_lst, Rs.bind_ok, Rs.bind_exc, Rs.bind_stuck, Rs.ofO_some, Rs.nox_ok, List.getElem?_cons_zero, List.getElem?_cons_succ, List.set_cons_zero, List.set_cons_succ, List.length_cons, List.length_nil, List.length_append, List.length_map, List.replicate_succ, List.replicate_zero, List.cons_append, List.nil_append, List.append_nil, Nat.reduceAdd, Nat.reduceSub, Nat.reduceLT, Nat.reduceLeDiff, Nat.reduceEqDiff, Nat.zero_add, dAdd_int, dMul_int, fI0_int, fB0_int, fI_int, dEq_int, dNe_int, dEq_str, dNe_str, dEq_bl, dBool_bl, dTru_bl, dNeg_int, dToInt_int, dToInt_bl, dLen_tup, dLen_lst, dMin2_int, dMulT_int, dToTup_lst, dToTup_tup, dToLst_lst, dToLst_tup, dats_nil, dats_cons, dIx_tup, dIx_lst, atI0, atI1, atI2, atI3, atI4, atI5, dInt_int, Option.map_some, Option.map_none, Option.bind_some, if_true, if_false, ite_true, ite_false, Bool.false_eq_true, Bool.true_eq_false, reduceIte, Bool.not_true, Bool.not_false, isi_int_int, isi_int_bool, isi_int_str, isi_int_tuple, isi_bool_int, isi_bool_bool, isi_bool_str, isi_bool_tuple, isi_str_int, isi_str_bool, isi_str_str, isi_str_tuple, isi_tup_int, isi_tup_bool, isi_tup_str, isi_tup_tuple, isi_lst_int, isi_lst_bool, isi_lst_str, isi_lst_tuple, isi_none_int, isi_none_bool, isi_none_str, isi_none_tuple, Int.cast_ofNat_Int, decide_true, decide_false, decide_eq_true_eq, not_true_eq_false, not_false_eq_true, Int.reduceEq, Int.reduceNe, Int.reduceLE, Int.reduceLT, Int.reduceAdd, Int.reduceSub, Int.reduceMul, Int.reduceNeg, ite_self, dMax2_int, dInR_int, gInR]
/-- the greatest that divides both, among the small ones -/
def bothP (one other : Int) : Int → Bool := fun x => decide (one.fmod x = 0 ∧ other.fmod x = 0)
def smalls (n : Nat) : List Int := (List.range n).map fun (i : Nat) => (1 : Int) + (i : Int)
theorem rng_smalls (n : Nat) : rngD 1 n = (smalls n).map PyData.int := by
  unfold rngD smalls
  rw [List.map_map]; rfl
theorem smalls_mem {n : Nat} {x : Int} : x ∈ smalls n ↔ 1 ≤ x ∧ x ≤ n := by
  unfold smalls
  rw [List.mem_map]
  constructor
  · rintro ⟨i, hi, rfl⟩
    have := List.mem_range.mp hi
    omega
  · rintro ⟨h1, h2⟩
    exact ⟨(x - 1).toNat, List.mem_range.mpr (by omega), by omega⟩
theorem filter_ints {zs : List Int} {f : PyData → Bool} {g : Int → Bool} (h : ∀ z, f (.int z) = g z) : (zs.map PyData.int).filter f = (zs.filter g).map PyData.int := by
  induction zs with
  | nil => rfl
  | cons z r ih =>
    rw [List.map_cons]
    cases hg : g z with
    | true => rw [List.filter_cons_of_pos (by rw [h, hg]), List.filter_cons_of_pos (by rw [hg]), ih, List.map_cons]
    | false => rw [List.filter_cons_of_neg (by rw [h, hg]; exact Bool.false_ne_true), List.filter_cons_of_neg (by rw [hg]; exact Bool.false_ne_true), ih]
def onI (g : Int → Bool) : PyData → Bool
  | .int z => g z
  | _ => false
theorem g_small {P : PyData} {x5 x6 x7 : Sl} {D : Int} : gLc (giArg dRng2 (gaCons (gC (.int 1)) (gaCons (gC (.int 60)) gaNil))) [9] (ggName 9) lt__law_gcd_right_0 le__law_gcd_right_0 (gE one other D P x5 x6 x7) cu = .ok (((smalls 59).filter (bothP one other)).map PyData.int) cu := by
  have z := gLcL_pure (gg := ggName 9) (gt := lt__law_gcd_right_0) (ge := le__law_gcd_right_0) (cu := cu) (ρ := gE one other D P x5 x6 x7) (onI (bothP one other)) id (ds := rngD 1 59) fun x hx => by
    obtain ⟨i, hi, rfl⟩ := rng_mem.mp hx
    have o : ∀ y : Int, modOk y (1 + (i : Int)) = true := fun y => modOk_b (by omega)
    refine ⟨_, rfl, ?_, fun _ => rfl⟩
    by_cases c : one.fmod (1 + (i : Int)) = 0
    · have c' : (one.fmod (1 + (i : Int)) = 0) = True := eq_true c
      simp only [gE, o, onI, bothP, c', true_and, gFn, gSeq, gIf, gSet, gSetO, gfCat, gfDisp, gBin, gCall, gApp, gaNil, gaCons, gaCup, gC_eq, gVar_un, gDisp, gSlice, gPart, gNoPart, gTru, gBool, gChain, gAnd, gOr, gNot, gAndV, gOrV, gNotV, gIfE, gUn, gCupF_un, gCupT_un, gCupSet, gRet, gAsg, gPar, gPar3, gDrop, gRaise, gSkip, gIsi, gFor, giTup, giLst, giArg, gLc, gL, gFrz, gApd, gYes, gAll, ggName, ggTup, ggCons, ggNil, wipeE, dLst, dTup, gForL_nil, gForL_cons, gLcL_nil, gLcL_cons, dZip_tup, dZip_lst, zipD_cc, zipD_nil, cutD_1, dCut_tup, dCut_lst, dAbs_ab, dAdd_tup, dAdd_lst, Rs.bind_ok, Rs.bind_exc, Rs.bind_stuck, Rs.ofO_some, Rs.nox_ok, List.getElem?_cons_zero, List.getElem?_cons_succ, List.set_cons_zero, List.set_cons_succ, List.length_cons, List.length_nil, List.length_append, List.length_map, List.replicate_succ, List.replicate_zero, List.cons_append, List.nil_append, List.append_nil, Nat.reduceAdd, Nat.reduceSub, Nat.reduceLT, Nat.reduceLeDiff, Nat.reduceEqDiff, Nat.zero_add, dAdd_int, dMul_int, fI0_int, fB0_int, fI_int, dEq_int, dNe_int, dEq_str, dNe_str, dEq_bl, dBool_bl, dTru_bl, dNeg_int, dToInt_int, dToInt_bl, dLen_tup, dLen_lst, dMin2_int, dMulT_int, dToTup_lst, dToTup_tup, dToLst_lst, dToLst_tup, dats_nil, dats_cons, dIx_tup, dIx_lst, atI0, atI1, atI2, atI3, atI4, atI5, dInt_int, Option.map_some, Option.map_none, Option.bind_some, if_true, if_false, ite_true, ite_false, Bool.false_eq_true, Bool.true_eq_false, reduceIte, Bool.not_true, Bool.not_false, isi_int_int, isi_int_bool, isi_int_str, isi_int_tuple, isi_bool_int, isi_bool_bool, isi_bool_str, isi_bool_tuple, isi_str_int, isi_str_bool, isi_str_str, isi_str_tuple, isi_tup_int, isi_tup_bool, isi_tup_str, isi_tup_tuple, isi_lst_int, isi_lst_bool, isi_lst_str, isi_lst_tuple, isi_none_int, isi_none_bool, isi_none_str, isi_none_tuple, Int.cast_ofNat_Int, decide_true, decide_false, decide_eq_true_eq, not_true_eq_false, not_false_eq_true, Int.reduceEq, Int.reduceNe, Int.reduceLE, Int.reduceLT, Int.reduceAdd, Int.reduceSub, Int.reduceMul, Int.reduceNeg, ite_self, dMax2_int, dInR_int, gInR, le_bezout_0, fb_need_integer_row_0, le_gcd_row_of_0, fb_gcd_row_of_0, ez_gcd_row_of_0, le_shows_gcd_row_0, le_shows_gcd_row_1, le__law_integers_0, lt__law_integers_0, fb__law_integer_0, le__law_is_row_0, le__law_is_row_1, lt__law_is_row_0, le__law_gcd_right_0, lt__law_gcd_right_0, le__law_gcd_right_1, le__law_gcd_right_2, lt__law_gcd_right_1, le__law_lcm_right_0, le__law_lcm_right_1, lt__law_lcm_right_0, le__law_lcm_right_2, lt__law_lcm_right_1, fb__law_row_right_0, le__law_row_right_0, le__law_row_right_1, lt__law_row_right_0, le__law_row_right_2, lt__law_row_right_1, le__law_written_0, lt__law_written_0, le__law_written_1, le__law_written_2]
    · simp only [gE, o, onI, bothP, c, false_and, gFn, gSeq, gIf, gSet, gSetO, gfCat, gfDisp, gBin, gCall, gApp, gaNil, gaCons, gaCup, gC_eq, gVar_un, gDisp, gSlice, gPart, gNoPart, gTru, gBool, gChain, gAnd, gOr, gNot, gAndV, gOrV, gNotV, gIfE, gUn, gCupF_un, gCupT_un, gCupSet, gRet, gAsg, gPar, gPar3, gDrop, gRaise, gSkip, gIsi, gFor, giTup, giLst, giArg, gLc, gL, gFrz, gApd, gYes, gAll, ggName, ggTup, ggCons, ggNil, wipeE, dLst, dTup, gForL_nil, gForL_cons, gLcL_nil, gLcL_cons, dZip_tup, dZip_lst, zipD_cc, zipD_nil, cutD_1, dCut_tup, dCut_lst, dAbs_ab, dAdd_tup, dAdd_lst, Rs.bind_ok, Rs.bind_exc, Rs.bind_stuck, Rs.ofO_some, Rs.nox_ok, List.getElem?_cons_zero, List.getElem?_cons_succ, List.set_cons_zero, List.set_cons_succ, List.length_cons, List.length_nil, List.length_append, List.length_map, List.replicate_succ, List.replicate_zero, List.cons_append, List.nil_append, List.append_nil, Nat.reduceAdd, Nat.reduceSub, Nat.reduceLT, Nat.reduceLeDiff, Nat.reduceEqDiff, Nat.zero_add, dAdd_int, dMul_int, fI0_int, fB0_int, fI_int, dEq_int, dNe_int, dEq_str, dNe_str, dEq_bl, dBool_bl, dTru_bl, dNeg_int, dToInt_int, dToInt_bl, dLen_tup, dLen_lst, dMin2_int, dMulT_int, dToTup_lst, dToTup_tup, dToLst_lst, dToLst_tup, dats_nil, dats_cons, dIx_tup, dIx_lst, atI0, atI1, atI2, atI3, atI4, atI5, dInt_int, Option.map_some, Option.map_none, Option.bind_some, if_true, if_false, ite_true, ite_false, Bool.false_eq_true, Bool.true_eq_false, reduceIte, Bool.not_true, Bool.not_false, isi_int_int, isi_int_bool, isi_int_str, isi_int_tuple, isi_bool_int, isi_bool_bool, isi_bool_str, isi_bool_tuple, isi_str_int, isi_str_bool, isi_str_str, isi_str_tuple, isi_tup_int, isi_tup_bool, isi_tup_str, isi_tup_tuple, isi_lst_int, isi_lst_bool, isi_lst_str, isi_lst_tuple, isi_none_int, isi_none_bool, isi_none_str, isi_none_tuple, Int.cast_ofNat_Int, decide_true, decide_false, decide_eq_true_eq, not_true_eq_false, not_false_eq_true, Int.reduceEq, Int.reduceNe, Int.reduceLE, Int.reduceLT, Int.reduceAdd, Int.reduceSub, Int.reduceMul, Int.reduceNeg, ite_self, dMax2_int, dInR_int, gInR, le_bezout_0, fb_need_integer_row_0, le_gcd_row_of_0, fb_gcd_row_of_0, ez_gcd_row_of_0, le_shows_gcd_row_0, le_shows_gcd_row_1, le__law_integers_0, lt__law_integers_0, fb__law_integer_0, le__law_is_row_0, le__law_is_row_1, lt__law_is_row_0, le__law_gcd_right_0, lt__law_gcd_right_0, le__law_gcd_right_1, le__law_gcd_right_2, lt__law_gcd_right_1, le__law_lcm_right_0, le__law_lcm_right_1, lt__law_lcm_right_0, le__law_lcm_right_2, lt__law_lcm_right_1, fb__law_row_right_0, le__law_row_right_0, le__law_row_right_1, lt__law_row_right_0, le__law_row_right_2, lt__law_row_right_1, le__law_written_0, lt__law_written_0, le__law_written_1, le__law_written_2]
  have hr : dRng2 [.int 1, .int 60] = some (rngD 1 59) := rfl
  have hl : (rngD 1 59).length < 16777216 := by rw [rng_len]; decide
  simp only [gLc, giArg, gE, gaCons, gaNil, gC_eq, Rs.bind_ok, dats_cons, dats_nil, Option.map_some, Option.bind_some, hr, Rs.ofO_some, hl, if_true, wipeE, List.set_cons_succ, List.set_cons_zero]
  simp only [gE] at z
  rw [z, List.map_id, rng_smalls, filter_ints (g := bothP one other) (fun _ => rfl)]
theorem fmod_zero {a c : Int} (h : c ∣ a) : a.fmod c = 0 := by
  obtain ⟨k, rfl⟩ := h
  exact Int.mul_fmod_right ..
theorem dvd_of_fmod {a c : Int} (h : a.fmod c = 0) : c ∣ a := by
  have e := Int.mul_fdiv_add_fmod a c
  rw [h, Int.add_zero] at e
  exact ⟨_, e.symm⟩
theorem g_max (G : Gp one other d u v p q) (h : 1 ≤ ab one + ab other ∧ ab one + ab other < 60) : dMaxL [lstI ((smalls 59).filter (bothP one other))] = some (.int d) := by
  have hd1 : d ∣ one := ⟨p, by rw [Int.mul_comm]; exact G.pe.symm⟩
  have hd2 : d ∣ other := ⟨q, by rw [Int.mul_comm]; exact G.qe.symm⟩
  have hd0 : 0 < d := by
    have g0 : d = Int.gcd one other := G.gc
    rcases Int.lt_or_eq_of_le (show 0 ≤ d by omega) with z | z
    · exact z
    · have : Int.gcd one other = 0 := by omega
      obtain ⟨z1, z2⟩ := Int.gcd_eq_zero_iff.mp this
      rw [z1, z2] at h
      have : ab (0 : Int) + ab (0 : Int) = 0 := by decide
      omega
  have le : d ≤ 59 := by
    have a1 := ab_natAbs (a := one); have a2 := ab_natAbs (a := other)
    have n1 := ab_nn (x := one); have n2 := ab_nn (x := other)
    by_cases z : one = 0
    · have hz : other ≠ 0 := fun hz => by
        rw [z, hz] at h
        have : ab (0 : Int) + ab (0 : Int) = 0 := by decide
        omega
      have := Nat.le_of_dvd (by omega) (Int.natAbs_dvd_natAbs.mpr hd2)
      omega
    · have := Nat.le_of_dvd (by omega) (Int.natAbs_dvd_natAbs.mpr hd1)
      omega
  refine dMaxL_of (List.mem_filter.mpr ⟨smalls_mem.mpr ⟨by omega, by omega⟩, decide_eq_true ⟨fmod_zero hd1, fmod_zero hd2⟩⟩) fun z hz => ?_
  obtain ⟨h1, h2⟩ := List.mem_filter.mp hz
  obtain ⟨h3, h4⟩ := of_decide_eq_true (show decide _ = true from h2)
  have : z ∣ d := by rw [G.gc]; exact Int.dvd_coe_gcd (dvd_of_fmod h3) (dvd_of_fmod h4)
  exact Int.le_of_dvd hd0 this
theorem max1 {x y : Int} (h : ab x ≤ 1 ∨ ab x ≤ ab y) : ((if ab y > 1 then ab y else 1) < ab x) = False := eq_false (by split <;> omega)
theorem e_gcd_right (h1 : Rg one) (h2 : Rg other) (cu : Cu) : ∃ c, G__law_gcd_right [.cup, .dat (.int one), .dat (.int other)] cu = .ok (.bool true) c := by
  obtain ⟨d, u, v, p, q, G, e⟩ := e_gcd_paper h1 h2
  have hi := e_lint5 (cu := cu) (a := d) (b := u) (c := v) (d := p) (e := q)
  have hc : G__law_common [.dat (.int one), .dat (.int other)] cu = .ok (.int d) cu := by rw [G.gc]; exact e_common
  have s1 : Sm d := up G.sd
  have s2 : Sm u := up G.su
  have s3 : Sm v := up G.sv
  have s4 : Sm p := up G.sp
  have s5 : Sm q := up G.sq
  have hg : isG one other d u v p q = true := decide_eq_true ⟨by have := G.gc; omega, G.ee, G.pe, G.qe⟩
  have hj : G__law_is_gcd [.dat (.int one), .dat (.int other), .dat (pt5 d u v p q)] cu = .ok (.bool true) cu := by rw [e_law_is_gcd h1 h2 s1 s2 s3 s4 s5, hg]
  obtain ⟨m, c1, m0, m1, er⟩ := roll_ex 5 (by decide) (by decide) cu
  have sz : ∀ z ∈ [d, u, v, p, q], Hf z := by
    intro z hz
    simp only [List.mem_cons, List.not_mem_nil, or_false] at hz
    rcases hz with rfl | rfl | rfl | rfl | rfl
    · exact Hf.of G.sd
    · exact Hf.of G.su
    · exact Hf.of G.sv
    · exact Hf.of G.sp
    · exact Hf.of G.sq
  have hs : ∀ cu, ∃ Q c, Five Q ∧ G__law_spoilt [.cup, .dat (pt5 d u v p q)] cu = .ok Q c := fun cu => by
    obtain ⟨ws, c, hl, hw, es⟩ := e_spoilt (cu := cu) (zs := [d, u, v, p, q]) (Nat.zero_lt_succ _) (show 5 ≤ 1000 by decide) sz
    exact ⟨_, c, five_of hl hw, es⟩
  have k1 : mulOk (m - 2) other = true := mulOk_l (by omega)
  have k2 : mulOk (m - 2) one = true := mulOk_l (by omega)
  have k3 : mulOk d 2 = true := mulOk_r (by decide)
  have k4 : mulOk u 2 = true := mulOk_r (by decide)
  have k5 : mulOk v 2 = true := mulOk_r (by decide)
  have b1 := h1.b
  have b2 := h2.b
  have t1 : ((m - 2) * other).natAbs ≤ 2 * other.natAbs := by rw [Int.natAbs_mul]; exact Nat.mul_le_mul_right _ (by omega)
  have t2 : ((m - 2) * one).natAbs ≤ 2 * one.natAbs := by rw [Int.natAbs_mul]; exact Nat.mul_le_mul_right _ (by omega)
  have hb : (2 : Nat) ^ 340 * 4 < 2 ^ 2000 := by decide
  have z1 := G.su; have z2 := G.sv; have z3 := G.sd
  have w1 : Sm (u + (m - 2) * other) := by unfold Sm; omega
  have w2 : Sm (v - (m - 2) * one) := by unfold Sm; omega
  have w3 : Sm (d * 2) := by unfold Sm; omega
  have w4 : Sm (u * 2) := by unfold Sm; omega
  have w5 : Sm (v * 2) := by unfold Sm; omega
  let O1 : List PyData := [pt5 d u v p q, pt5 d (u + (m - 2) * other) (v - (m - 2) * one) p q]
  obtain ⟨qs, c2, hq, hl, eq⟩ := e_spoilts (P := pt5 d u v p q) (le := le__law_gcd_right_1) (gg := ggName 7) (ρ := gE one other d (pt5 d u v p q) (.dat (.int (m - 2))) (.own O1) .un)
    (fun x cu => ⟨_, rfl, by simp only [gE, gFn, gSeq, gIf, gSet, gSetO, gfCat, gfDisp, gBin, gCall, gApp, gaNil, gaCons, gaCup, gC_eq, gVar_un, gDisp, gSlice, gPart, gNoPart, gTru, gBool, gChain, gAnd, gOr, gNot, gAndV, gOrV, gNotV, gIfE, gUn, gCupF_un, gCupT_un, gCupSet, gRet, gAsg, gPar, gPar3, gDrop, gRaise, gSkip, gIsi, gFor, giTup, giLst, giArg, gLc, gL, gFrz, gApd, gYes, gAll, ggName, ggTup, ggCons, ggNil, wipeE, dLst, dTup, gForL_nil, gForL_cons, gLcL_nil, gLcL_cons, dZip_tup, dZip_lst, zipD_cc, zipD_nil, cutD_1, dCut_tup, dCut_lst, dAbs_ab, dAdd_tup, dAdd_lst, Rs.bind_ok, Rs.bind_exc, Rs.bind_stuck, Rs.ofO_some, Rs.nox_ok, List.getElem?_cons_zero, List.getElem?_cons_succ, List.set_cons_zero, List.set_cons_succ, List.length_cons, List.length_nil, List.length_append, List.length_map, List.replicate_succ, List.replicate_zero, List.cons_append, List.nil_append, List.append_nil, Nat.reduceAdd, Nat.reduceSub, Nat.reduceLT, Nat.reduceLeDiff, Nat.reduceEqDiff, Nat.zero_add, dAdd_int, dMul_int, fI0_int, fB0_int, fI_int, dEq_int, dNe_int, dEq_str, dNe_str, dEq_bl, dBool_bl, dTru_bl, dNeg_int, dToInt_int, dToInt_bl, dLen_tup, dLen_lst, dMin2_int, dMulT_int, dToTup_lst, dToTup_tup, dToLst_lst, dToLst_tup, dats_nil, dats_cons, dIx_tup, dIx_lst, atI0, atI1, atI2, atI3, atI4, atI5, dInt_int, Option.map_some, Option.map_none, Option.bind_some, if_true, if_false, ite_true, ite_false, Bool.false_eq_true, Bool.true_eq_false, reduceIte, Bool.not_true, Bool.not_false, isi_int_int, isi_int_bool, isi_int_str, isi_int_tuple, isi_bool_int, isi_bool_bool, isi_bool_str, isi_bool_tuple, isi_str_int, isi_str_bool, isi_str_str, isi_str_tuple, isi_tup_int, isi_tup_bool, isi_tup_str, isi_tup_tuple, isi_lst_int, isi_lst_bool, isi_lst_str, isi_lst_tuple, isi_none_int, isi_none_bool, isi_none_str, isi_none_tuple, Int.cast_ofNat_Int, decide_true, decide_false, decide_eq_true_eq, not_true_eq_false, not_false_eq_true, Int.reduceEq, Int.reduceNe, Int.reduceLE, Int.reduceLT, Int.reduceAdd, Int.reduceSub, Int.reduceMul, Int.reduceNeg, ite_self, dMax2_int, dInR_int, gInR, le_bezout_0, fb_need_integer_row_0, le_gcd_row_of_0, fb_gcd_row_of_0, ez_gcd_row_of_0, le_shows_gcd_row_0, le_shows_gcd_row_1, le__law_integers_0, lt__law_integers_0, fb__law_integer_0, le__law_is_row_0, le__law_is_row_1, lt__law_is_row_0, le__law_gcd_right_0, lt__law_gcd_right_0, le__law_gcd_right_1, le__law_gcd_right_2, lt__law_gcd_right_1, le__law_lcm_right_0, le__law_lcm_right_1, lt__law_lcm_right_0, le__law_lcm_right_2, lt__law_lcm_right_1, fb__law_row_right_0, le__law_row_right_0, le__law_row_right_1, lt__law_row_right_0, le__law_row_right_2, lt__law_row_right_1, le__law_written_0, lt__law_written_0, le__law_written_1, le__law_written_2]⟩) hs [.int 0, .int 1, .int 2] c1
  obtain ⟨q1, q2, q3, rfl⟩ := three hl
  have ht := g_tail (cu := c2) h1 h2 (x5 := .dat (.int (m - 2))) (x7 := .un) G e (ds := [pt5 d u v p q, pt5 d (u + (m - 2) * other) (v - (m - 2) * one) p q, q1, q2, q3, pt5 (d * 2) (u * 2) (v * 2) p q]) (by
      intro x hx
      simp only [List.mem_cons, List.not_mem_nil, or_false] at hx
      rcases hx with rfl | rfl | rfl | rfl | rfl | rfl
      · exact ⟨_, _, _, _, _, rfl, s1, s2, s3, s4, s5⟩
      · exact ⟨_, _, _, _, _, rfl, s1, w1, w2, s4, s5⟩
      · exact hq _ (by simp)
      · exact hq _ (by simp)
      · exact hq _ (by simp)
      · exact ⟨_, _, _, _, _, rfl, w3, w4, w5, s4, s5⟩) (show 6 < 16777216 by decide)
  have x1 := max1 G.bu
  have x2 := max1 G.bv
  have e6 : ta__law_gcd_right_6 (gE one other d (pt5 d u v p q) .un .un .un) cu = .ok (.ret (.bool true)) c2 := by
    simp only [gE, pt5, O1] at eq ht ⊢
    simp only [ta__law_gcd_right_6, ta__law_gcd_right_5, ta__law_gcd_right_4, ta__law_gcd_right_3, er, k1, k2, k3, k4, k5, cut5_a1, cut5_b3, rng3, eq, ht, catL, gFn, gSeq, gIf, gSet, gSetO, gfCat, gfDisp, gBin, gCall, gApp, gaNil, gaCons, gaCup, gC_eq, gVar_un, gDisp, gSlice, gPart, gNoPart, gTru, gBool, gChain, gAnd, gOr, gNot, gAndV, gOrV, gNotV, gIfE, gUn, gCupF_un, gCupT_un, gCupSet, gRet, gAsg, gPar, gPar3, gDrop, gRaise, gSkip, gIsi, gFor, giTup, giLst, giArg, gLc, gL, gFrz, gApd, gYes, gAll, ggName, ggTup, ggCons, ggNil, wipeE, dLst, dTup, gForL_nil, gForL_cons, dZip_tup, dZip_lst, zipD_cc, zipD_nil, cutD_1, dCut_tup, dCut_lst, dAbs_ab, dAdd_tup, dAdd_lst, Rs.bind_ok, Rs.bind_exc, Rs.bind_stuck, Rs.ofO_some, Rs.nox_ok, List.getElem?_cons_zero, List.getElem?_cons_succ, List.set_cons_zero, List.set_cons_succ, List.length_cons, List.length_nil, List.length_append, List.length_map, List.replicate_succ, List.replicate_zero, List.cons_append, List.nil_append, List.append_nil, Nat.reduceAdd, Nat.reduceSub, Nat.reduceLT, Nat.reduceLeDiff, Nat.reduceEqDiff, Nat.zero_add, dAdd_int, dMul_int, fI0_int, fB0_int, fI_int, dEq_int, dNe_int, dEq_str, dNe_str, dEq_bl, dBool_bl, dTru_bl, dNeg_int, dToInt_int, dToInt_bl, dLen_tup, dLen_lst, dMin2_int, dMulT_int, dToTup_lst, dToTup_tup, dToLst_lst, dToLst_tup, dats_nil, dats_cons, dIx_tup, dIx_lst, atI0, atI1, atI2, atI3, atI4, atI5, dInt_int, Option.map_some, Option.map_none, Option.bind_some, if_true, if_false, ite_true, ite_false, Bool.false_eq_true, Bool.true_eq_false, reduceIte, Bool.not_true, Bool.not_false, isi_int_int, isi_int_bool, isi_int_str, isi_int_tuple, isi_bool_int, isi_bool_bool, isi_bool_str, isi_bool_tuple, isi_str_int, isi_str_bool, isi_str_str, isi_str_tuple, isi_tup_int, isi_tup_bool, isi_tup_str, isi_tup_tuple, isi_lst_int, isi_lst_bool, isi_lst_str, isi_lst_tuple, isi_none_int, isi_none_bool, isi_none_str, isi_none_tuple, Int.cast_ofNat_Int, decide_true, decide_false, decide_eq_true_eq, not_true_eq_false, not_false_eq_true, Int.reduceEq, Int.reduceNe, Int.reduceLE, Int.reduceLT, Int.reduceAdd, Int.reduceSub, Int.reduceMul, Int.reduceNeg, ite_self, dMax2_int, dInR_int, gInR]
  have e7 : ta__law_gcd_right_7 (gE one other d (pt5 d u v p q) .un .un .un) cu = .ok (.ret (.bool true)) c2 := by
    have hsm := g_small (cu := cu) (one := one) (other := other) (D := d) (P := pt5 d u v p q) (x5 := .un) (x6 := .un) (x7 := .un)
    by_cases c : 1 ≤ ab one + ab other ∧ ab one + ab other < 60
    · have hm := g_max G c
      have c' : (1 ≤ ab one + ab other ∧ ab one + ab other < 60) = True := eq_true c
      simp only [gE, pt5, lstI] at e6 hsm hm ⊢
      simp only [ta__law_gcd_right_7, gSeq, gIf, gBool, gInR, gBin, gL, hsm, hm, c', e6, gCall, gaCons, gaNil, gC_eq, gVar_un, List.getElem?_cons_succ, List.getElem?_cons_zero, Rs.bind_ok, Rs.ofO_some, dats_cons, dats_nil, Option.map_some, Option.bind_some, dAbs_ab, dAdd_int, dInR_int, decide_true, dBool_bl, if_true, dIx_tup, atI0, dNe_int, Bool.not_true, Bool.false_eq_true, if_false, gSkip]
    · simp only [gE, pt5] at e6 ⊢
      simp only [ta__law_gcd_right_7, gSeq, gIf, gBool, gInR, gBin, c, e6, gCall, gaCons, gaNil, gC_eq, gVar_un, List.getElem?_cons_succ, List.getElem?_cons_zero, Rs.bind_ok, Rs.ofO_some, dats_cons, dats_nil, Option.map_some, Option.bind_some, dAbs_ab, dAdd_int, dInR_int, decide_false, dBool_bl, Bool.false_eq_true, if_false, gSkip]
  refine ⟨c2, ?_⟩
  simp only [gE, pt5] at e7 hi hj e
  simp only [G__law_gcd_right, g__law_gcd_right, ta__law_gcd_right_9, ta__law_gcd_right_8, hc, e, hi, hj, x1, x2, e7, gFn, gSeq, gIf, gSet, gSetO, gfCat, gfDisp, gBin, gCall, gApp, gaNil, gaCons, gaCup, gC_eq, gVar_un, gDisp, gSlice, gPart, gNoPart, gTru, gBool, gChain, gAnd, gOr, gNot, gAndV, gOrV, gNotV, gIfE, gUn, gCupF_un, gCupT_un, gCupSet, gRet, gAsg, gPar, gPar3, gDrop, gRaise, gSkip, gIsi, gFor, giTup, giLst, giArg, gLc, gL, gFrz, gApd, gYes, gAll, ggName, ggTup, ggCons, ggNil, wipeE, dLst, dTup, gForL_nil, gForL_cons, gLcL_nil, gLcL_cons, dZip_tup, dZip_lst, zipD_cc, zipD_nil, cutD_1, dCut_tup, dCut_lst, dAbs_ab, dAdd_tup, dAdd_lst, Rs.bind_ok, Rs.bind_exc, Rs.bind_stuck, Rs.ofO_some, Rs.nox_ok, List.getElem?_cons_zero, List.getElem?_cons_succ, List.set_cons_zero, List.set_cons_succ, List.length_cons, List.length_nil, List.length_append, List.length_map, List.replicate_succ, List.replicate_zero, List.cons_append, List.nil_append, List.append_nil, Nat.reduceAdd, Nat.reduceSub, Nat.reduceLT, Nat.reduceLeDiff, Nat.reduceEqDiff, Nat.zero_add, dAdd_int, dMul_int, fI0_int, fB0_int, fI_int, dEq_int, dNe_int, dEq_str, dNe_str, dEq_bl, dBool_bl, dTru_bl, dNeg_int, dToInt_int, dToInt_bl, dLen_tup, dLen_lst, dMin2_int, dMulT_int, dToTup_lst, dToTup_tup, dToLst_lst, dToLst_tup, dats_nil, dats_cons, dIx_tup, dIx_lst, atI0, atI1, atI2, atI3, atI4, atI5, dInt_int, Option.map_some, Option.map_none, Option.bind_some, if_true, if_false, ite_true, ite_false, Bool.false_eq_true, Bool.true_eq_false, reduceIte, Bool.not_true, Bool.not_false, isi_int_int, isi_int_bool, isi_int_str, isi_int_tuple, isi_bool_int, isi_bool_bool, isi_bool_str, isi_bool_tuple, isi_str_int, isi_str_bool, isi_str_str, isi_str_tuple, isi_tup_int, isi_tup_bool, isi_tup_str, isi_tup_tuple, isi_lst_int, isi_lst_bool, isi_lst_str, isi_lst_tuple, isi_none_int, isi_none_bool, isi_none_str, isi_none_tuple, Int.cast_ofNat_Int, decide_true, decide_false, decide_eq_true_eq, not_true_eq_false, not_false_eq_true, Int.reduceEq, Int.reduceNe, Int.reduceLE, Int.reduceLT, Int.reduceAdd, Int.reduceSub, Int.reduceMul, Int.reduceNeg, ite_self, dMax2_int, dInR_int, gInR]
end
end Prog

set_option Elab.async false
set_option linter.all false
set_option maxRecDepth 100000
set_option maxHeartbeats 4000000
set_option autoImplicit false
set_option exponentiation.threshold 4000
namespace Prog
open PySem PySem.Spec L2 DL
section
variable {cu : Cu} {one other m s t u v : Int}
/-- what a paper of a least multiple says -/
structure Lp (one other m s t u v : Int) : Prop where
  p : 0 ≤ m
  e1 : one * s = m
  e2 : other * t = m
  e3 : u * s + v * t = 1
  due : (if 0 < ((Int.gcd one other : Nat) : Int) then (ab (one * other)).fdiv (Int.gcd one other) else 0) = m
  sm : m.natAbs < 2 ^ 700
  ss : s.natAbs < 2 ^ 340
  st : t.natAbs < 2 ^ 340
  su : u.natAbs < 2 ^ 340
  sv : v.natAbs < 2 ^ 340
theorem ab_zero : ab (0 : Int) = 0 := rfl
theorem zero_fdiv' {x : Int} : (0 : Int).fdiv x = 0 := Int.zero_fdiv x
theorem lp_zero_l : Lp 0 other 0 1 0 1 0 := by
  refine ⟨by decide, by omega, by omega, by decide, ?_, by decide, by decide, by decide, by decide, by decide⟩
  rw [Int.zero_mul, ab_zero, zero_fdiv', ite_self]
theorem lp_zero_r : Lp one 0 0 0 1 0 1 := by
  refine ⟨by decide, by omega, by omega, by decide, ?_, by decide, by decide, by decide, by decide, by decide⟩
  rw [Int.mul_zero, ab_zero, zero_fdiv', ite_self]
theorem ab_mul {a b : Int} : ab (a * b) = ab a * ab b := by
  have e1 : ∀ x : Int, ab x = (x.natAbs : Int) := fun x => by unfold ab; split <;> omega
  rw [e1, e1, e1, Int.natAbs_mul, Int.natCast_mul]
theorem dvd_ab {a b : Int} (h : a ∣ b) : a ∣ ab b := by
  unfold ab; split
  · exact Int.dvd_neg.mpr h
  · exact h
theorem ab_pos {a : Int} (h : a ≠ 0) : 0 < ab a := by unfold ab; split <;> omega
theorem natAbs_cancel {a b c : Int} (h0 : c ≠ 0) (h : (a * c).natAbs = (b * c).natAbs) : a.natAbs = b.natAbs := by
  rw [Int.natAbs_mul, Int.natAbs_mul] at h
  exact Nat.eq_of_mul_eq_mul_right (by omega) h
theorem e_lcm_of (h1 : Rg one) (h2 : Rg other) : ∃ m s t u v : Int, Lp one other m s t u v ∧ ∀ cu, G_lcm_of [.dat (.int one), .dat (.int other)] cu = .ok (pt5 m s t u v) cu := by
  by_cases z1 : one = 0
  · subst z1
    exact ⟨_, _, _, _, _, lp_zero_l, fun cu => by simp only [G_lcm_of, g_lcm_of, gFn, gSeq, gIf, gSet, gSetO, gfCat, gfDisp, gBin, gCall, gApp, gaNil, gaCons, gaCup, gC_eq, gVar_un, gDisp, gSlice, gPart, gNoPart, gTru, gBool, gChain, gAnd, gOr, gNot, gAndV, gOrV, gNotV, gIfE, gUn, gCupF_un, gCupT_un, gCupSet, gRet, gAsg, gPar, gPar3, gDrop, gRaise, gSkip, gIsi, gFor, giTup, giLst, giArg, gLc, gL, gFrz, gApd, gYes, gAll, ggName, ggTup, ggCons, ggNil, wipeE, dLst, dTup, gForL_nil, gForL_cons, gLcL_nil, gLcL_cons, dZip_tup, dZip_lst, zipD_cc, zipD_nil, cutD_1, dCut_tup, dCut_lst, dAbs_ab, dAdd_tup, dAdd_lst, Rs.bind_ok, Rs.bind_exc, Rs.bind_stuck, Rs.ofO_some, Rs.nox_ok, List.getElem?_cons_zero, List.getElem?_cons_succ, List.set_cons_zero, List.set_cons_succ, List.length_cons, List.length_nil, List.length_append, List.length_map, List.replicate_succ, List.replicate_zero, List.cons_append, List.nil_append, List.append_nil, Nat.reduceAdd, Nat.reduceSub, Nat.reduceLT, Nat.reduceLeDiff, Nat.reduceEqDiff, Nat.zero_add, dAdd_int, dMul_int, fI0_int, fB0_int, fI_int, dEq_int, dNe_int, dEq_str, dNe_str, dEq_bl, dBool_bl, dTru_bl, dNeg_int, dToInt_int, dToInt_bl, dLen_tup, dLen_lst, dMin2_int, dMulT_int, dToTup_lst, dToTup_tup, dToLst_lst, dToLst_tup, dats_nil, dats_cons, dIx_tup, dIx_lst, atI0, atI1, atI2, atI3, atI4, atI5, dInt_int, Option.map_some, Option.map_none, Option.bind_some, if_true, if_false, ite_true, ite_false, Bool.false_eq_true, Bool.true_eq_false, reduceIte, Bool.not_true, Bool.not_false, isi_int_int, isi_int_bool, isi_int_str, isi_int_tuple, isi_bool_int, isi_bool_bool, isi_bool_str, isi_bool_tuple, isi_str_int, isi_str_bool, isi_str_str, isi_str_tuple, isi_tup_int, isi_tup_bool, isi_tup_str, isi_tup_tuple, isi_lst_int, isi_lst_bool, isi_lst_str, isi_lst_tuple, isi_none_int, isi_none_bool, isi_none_str, isi_none_tuple, Int.cast_ofNat_Int, decide_true, decide_false, decide_eq_true_eq, not_true_eq_false, not_false_eq_true, Int.reduceEq, Int.reduceNe, Int.reduceLE, Int.reduceLT, Int.reduceAdd, Int.reduceSub, Int.reduceMul, Int.reduceNeg, ite_self, dMax2_int, dInR_int, gInR, le_bezout_0, fb_need_integer_row_0, le_gcd_row_of_0, fb_gcd_row_of_0, ez_gcd_row_of_0, le_shows_gcd_row_0, le_shows_gcd_row_1, le__law_integers_0, lt__law_integers_0, fb__law_integer_0, le__law_is_row_0, le__law_is_row_1, lt__law_is_row_0, le__law_gcd_right_0, lt__law_gcd_right_0, le__law_gcd_right_1, le__law_gcd_right_2, lt__law_gcd_right_1, le__law_lcm_right_0, le__law_lcm_right_1, lt__law_lcm_right_0, le__law_lcm_right_2, lt__law_lcm_right_1, fb__law_row_right_0, le__law_row_right_0, le__law_row_right_1, lt__law_row_right_0, le__law_row_right_2, lt__law_row_right_1, le__law_written_0, lt__law_written_0, le__law_written_1, le__law_written_2]⟩
  by_cases z2 : other = 0
  · subst z2
    exact ⟨_, _, _, _, _, lp_zero_r, fun cu => by simp only [G_lcm_of, g_lcm_of, z1, gFn, gSeq, gIf, gSet, gSetO, gfCat, gfDisp, gBin, gCall, gApp, gaNil, gaCons, gaCup, gC_eq, gVar_un, gDisp, gSlice, gPart, gNoPart, gTru, gBool, gChain, gAnd, gOr, gNot, gAndV, gOrV, gNotV, gIfE, gUn, gCupF_un, gCupT_un, gCupSet, gRet, gAsg, gPar, gPar3, gDrop, gRaise, gSkip, gIsi, gFor, giTup, giLst, giArg, gLc, gL, gFrz, gApd, gYes, gAll, ggName, ggTup, ggCons, ggNil, wipeE, dLst, dTup, gForL_nil, gForL_cons, gLcL_nil, gLcL_cons, dZip_tup, dZip_lst, zipD_cc, zipD_nil, cutD_1, dCut_tup, dCut_lst, dAbs_ab, dAdd_tup, dAdd_lst, Rs.bind_ok, Rs.bind_exc, Rs.bind_stuck, Rs.ofO_some, Rs.nox_ok, List.getElem?_cons_zero, List.getElem?_cons_succ, List.set_cons_zero, List.set_cons_succ, List.length_cons, List.length_nil, List.length_append, List.length_map, List.replicate_succ, List.replicate_zero, List.cons_append, List.nil_append, List.append_nil, Nat.reduceAdd, Nat.reduceSub, Nat.reduceLT, Nat.reduceLeDiff, Nat.reduceEqDiff, Nat.zero_add, dAdd_int, dMul_int, fI0_int, fB0_int, fI_int, dEq_int, dNe_int, dEq_str, dNe_str, dEq_bl, dBool_bl, dTru_bl, dNeg_int, dToInt_int, dToInt_bl, dLen_tup, dLen_lst, dMin2_int, dMulT_int, dToTup_lst, dToTup_tup, dToLst_lst, dToLst_tup, dats_nil, dats_cons, dIx_tup, dIx_lst, atI0, atI1, atI2, atI3, atI4, atI5, dInt_int, Option.map_some, Option.map_none, Option.bind_some, if_true, if_false, ite_true, ite_false, Bool.false_eq_true, Bool.true_eq_false, reduceIte, Bool.not_true, Bool.not_false, isi_int_int, isi_int_bool, isi_int_str, isi_int_tuple, isi_bool_int, isi_bool_bool, isi_bool_str, isi_bool_tuple, isi_str_int, isi_str_bool, isi_str_str, isi_str_tuple, isi_tup_int, isi_tup_bool, isi_tup_str, isi_tup_tuple, isi_lst_int, isi_lst_bool, isi_lst_str, isi_lst_tuple, isi_none_int, isi_none_bool, isi_none_str, isi_none_tuple, Int.cast_ofNat_Int, decide_true, decide_false, decide_eq_true_eq, not_true_eq_false, not_false_eq_true, Int.reduceEq, Int.reduceNe, Int.reduceLE, Int.reduceLT, Int.reduceAdd, Int.reduceSub, Int.reduceMul, Int.reduceNeg, ite_self, dMax2_int, dInR_int, gInR, le_bezout_0, fb_need_integer_row_0, le_gcd_row_of_0, fb_gcd_row_of_0, ez_gcd_row_of_0, le_shows_gcd_row_0, le_shows_gcd_row_1, le__law_integers_0, lt__law_integers_0, fb__law_integer_0, le__law_is_row_0, le__law_is_row_1, lt__law_is_row_0, le__law_gcd_right_0, lt__law_gcd_right_0, le__law_gcd_right_1, le__law_gcd_right_2, lt__law_gcd_right_1, le__law_lcm_right_0, le__law_lcm_right_1, lt__law_lcm_right_0, le__law_lcm_right_2, lt__law_lcm_right_1, fb__law_row_right_0, le__law_row_right_0, le__law_row_right_1, lt__law_row_right_0, le__law_row_right_2, lt__law_row_right_1, le__law_written_0, lt__law_written_0, le__law_written_1, le__law_written_2]⟩
  obtain ⟨d, u0, v0, B, eb⟩ := e_bezout h1.md h2.md
  have hg := B.gc
  have hd0 : d ≠ 0 := fun hz => z1 (Int.gcd_eq_zero_iff.mp (show Int.gcd one other = 0 by omega)).1
  have hdp : 0 < d := by omega
  have d1 : d ∣ one := by rw [hg]; exact Int.gcd_dvd_left ..
  have d2 : d ∣ other := by rw [hg]; exact Int.gcd_dvd_right ..
  have ep := fdiv_ex hd0 d1
  have eq := fdiv_ex hd0 d2
  generalize hp : one.fdiv d = p at ep
  generalize hq : other.fdiv d = q at eq
  have co : u0 * p + v0 * q = 1 := by
    have e := B.ee
    have : (u0 * p + v0 * q) * d = 1 * d := by rw [Int.add_mul, Int.mul_assoc, Int.mul_assoc, ep, eq, e, Int.one_mul]
    exact Int.eq_of_mul_eq_mul_right hd0 this
  have po : p * other = q * one := by rw [← ep, ← eq]; grind
  have dm1 : one ∣ ab (p * other) := dvd_ab ⟨q, by rw [po, Int.mul_comm]⟩
  have dm2 : other ∣ ab (p * other) := dvd_ab ⟨p, by rw [Int.mul_comm]⟩
  have es := fdiv_ex z1 dm1
  have et := fdiv_ex z2 dm2
  generalize hs : (ab (p * other)).fdiv one = s at es
  generalize ht : (ab (p * other)).fdiv other = t at et
  have ls : s.natAbs = q.natAbs := natAbs_cancel z1 (by rw [es, ab_natAbs, po])
  have lt : t.natAbs = p.natAbs := natAbs_cancel z2 (by rw [et, ab_natAbs])
  have lp : p.natAbs < 2 ^ 340 := Nat.lt_of_le_of_lt (le_of_mul hd0 ep) h1.b
  have lq : q.natAbs < 2 ^ 340 := Nat.lt_of_le_of_lt (le_of_mul hd0 eq) h2.b
  have ms : s.natAbs < 2 ^ 340 := by omega
  have mt : t.natAbs < 2 ^ 340 := by omega
  obtain ⟨d', u, v, B', eb'⟩ := e_bezout (one := s) (other := t) (up ms) (up mt)
  have g1 : d' = 1 := by
    have gg : Int.gcd s t = Int.gcd q p := by unfold Int.gcd; rw [ls, lt]
    have k1 : ((Int.gcd q p : Nat) : Int) ∣ 1 := by
      rw [← co]
      exact Int.dvd_add (Int.dvd_trans (Int.gcd_dvd_right ..) (Int.dvd_mul_left ..)) (Int.dvd_trans (Int.gcd_dvd_left ..) (Int.dvd_mul_left ..))
    have := Int.eq_one_of_dvd_one (by omega) k1
    rw [B'.gc, gg, this]
  subst g1
  have lm : (ab (p * other)).natAbs < 2 ^ 700 := by
    rw [ab_natAbs, Int.natAbs_mul]
    calc p.natAbs * other.natAbs < 2 ^ 340 * 2 ^ 340 := Nat.mul_lt_mul'' lp h2.b
      _ ≤ 2 ^ 700 := by decide
  refine ⟨ab (p * other), s, t, u, v, ⟨ab_nn, by rw [Int.mul_comm]; exact es, by rw [Int.mul_comm]; exact et, B'.ee, ?_, lm, ms, mt, ab_b B'.bu mt (by decide), ab_b B'.bv ms (by decide)⟩, fun cu => ?_⟩
  · rw [← hg, if_pos hdp]
    have : one * other = (p * other) * d := by rw [← ep]; grind
    rw [this, ab_mul, ab_lo (show 0 ≤ d by omega), Int.mul_fdiv_cancel _ hd0]
  · have o1 : divOk one d = true := divOk_b (p := 340) hd0 (by rw [hg]; exact gcd_b h1.b h2.b) (by decide) (by decide)
    have o2 : mulOk p other = true := mulOk_b lp h2.b (by decide) (by decide) (by decide)
    have o3 : divOk (ab (p * other)) one = true := divOk_b z1 h1.b (by decide) (by decide)
    have o4 : divOk (ab (p * other)) other = true := divOk_b z2 h2.b (by decide) (by decide)
    have cb : cutD [PyData.int 1, .int u, .int v] (some 1) none = [.int u, .int v] := rfl
    simp only [G_lcm_of, g_lcm_of, z1, z2, eb, row3, hp, o1, o2, o3, o4, hs, ht, eb', cb, gFn, gSeq, gIf, gSet, gSetO, gfCat, gfDisp, gBin, gCall, gApp, gaNil, gaCons, gaCup, gC_eq, gVar_un, gDisp, gSlice, gPart, gNoPart, gTru, gBool, gChain, gAnd, gOr, gNot, gAndV, gOrV, gNotV, gIfE, gUn, gCupF_un, gCupT_un, gCupSet, gRet, gAsg, gPar, gPar3, gDrop, gRaise, gSkip, gIsi, gFor, giTup, giLst, giArg, gLc, gL, gFrz, gApd, gYes, gAll, ggName, ggTup, ggCons, ggNil, wipeE, dLst, dTup, gForL_nil, gForL_cons, gLcL_nil, gLcL_cons, dZip_tup, dZip_lst, zipD_cc, zipD_nil, cutD_1, dCut_tup, dCut_lst, dAbs_ab, dAdd_tup, dAdd_lst, Rs.bind_ok, Rs.bind_exc, Rs.bind_stuck, Rs.ofO_some, Rs.nox_ok, List.getElem?_cons_zero, List.getElem?_cons_succ, List.set_cons_zero, List.set_cons_succ, List.length_cons, List.length_nil, List.length_append, List.length_map, List.replicate_succ, List.replicate_zero, List.cons_append, List.nil_append, List.append_nil, Nat.reduceAdd, Nat.reduceSub, Nat.reduceLT, Nat.reduceLeDiff, Nat.reduceEqDiff, Nat.zero_add, dAdd_int, dMul_int, fI0_int, fB0_int, fI_int, dEq_int, dNe_int, dEq_str, dNe_str, dEq_bl, dBool_bl, dTru_bl, dNeg_int, dToInt_int, dToInt_bl, dLen_tup, dLen_lst, dMin2_int, dMulT_int, dToTup_lst, dToTup_tup, dToLst_lst, dToLst_tup, dats_nil, dats_cons, dIx_tup, dIx_lst, atI0, atI1, atI2, atI3, atI4, atI5, dInt_int, Option.map_some, Option.map_none, Option.bind_some, if_true, if_false, ite_true, ite_false, Bool.false_eq_true, Bool.true_eq_false, reduceIte, Bool.not_true, Bool.not_false, isi_int_int, isi_int_bool, isi_int_str, isi_int_tuple, isi_bool_int, isi_bool_bool, isi_bool_str, isi_bool_tuple, isi_str_int, isi_str_bool, isi_str_str, isi_str_tuple, isi_tup_int, isi_tup_bool, isi_tup_str, isi_tup_tuple, isi_lst_int, isi_lst_bool, isi_lst_str, isi_lst_tuple, isi_none_int, isi_none_bool, isi_none_str, isi_none_tuple, Int.cast_ofNat_Int, decide_true, decide_false, decide_eq_true_eq, not_true_eq_false, not_false_eq_true, Int.reduceEq, Int.reduceNe, Int.reduceLE, Int.reduceLT, Int.reduceAdd, Int.reduceSub, Int.reduceMul, Int.reduceNeg, ite_self, dMax2_int, dInR_int, gInR, le_bezout_0, fb_need_integer_row_0, le_gcd_row_of_0, fb_gcd_row_of_0, ez_gcd_row_of_0, le_shows_gcd_row_0, le_shows_gcd_row_1, le__law_integers_0, lt__law_integers_0, fb__law_integer_0, le__law_is_row_0, le__law_is_row_1, lt__law_is_row_0, le__law_gcd_right_0, lt__law_gcd_right_0, le__law_gcd_right_1, le__law_gcd_right_2, lt__law_gcd_right_1, le__law_lcm_right_0, le__law_lcm_right_1, lt__law_lcm_right_0, le__law_lcm_right_2, lt__law_lcm_right_1, fb__law_row_right_0, le__law_row_right_0, le__law_row_right_1, lt__law_row_right_0, le__law_row_right_2, lt__law_row_right_1, le__law_written_0, lt__law_written_0, le__law_written_1, le__law_written_2]
theorem e_lcm_paper (h1 : Rg one) (h2 : Rg other) : ∃ m s t u v : Int, Lp one other m s t u v ∧ ∀ cu, G_lcm_paper [.dat (.int one), .dat (.int other)] cu = .ok (pt5 m s t u v) cu := by
  obtain ⟨m, s, t, u, v, L, e⟩ := e_lcm_of h1 h2
  refine ⟨m, s, t, u, v, L, fun cu => ?_⟩
  have hn := e_need_two (cu := cu) h1 h2
  simp only [G_lcm_paper, g_lcm_paper, hn, e, gFn, gSeq, gIf, gSet, gSetO, gfCat, gfDisp, gBin, gCall, gApp, gaNil, gaCons, gaCup, gC_eq, gVar_un, gDisp, gSlice, gPart, gNoPart, gTru, gBool, gChain, gAnd, gOr, gNot, gAndV, gOrV, gNotV, gIfE, gUn, gCupF_un, gCupT_un, gCupSet, gRet, gAsg, gPar, gPar3, gDrop, gRaise, gSkip, gIsi, gFor, giTup, giLst, giArg, gLc, gL, gFrz, gApd, gYes, gAll, ggName, ggTup, ggCons, ggNil, wipeE, dLst, dTup, gForL_nil, gForL_cons, gLcL_nil, gLcL_cons, dZip_tup, dZip_lst, zipD_cc, zipD_nil, cutD_1, dCut_tup, dCut_lst, dAbs_ab, dAdd_tup, dAdd_lst, Rs.bind_ok, Rs.bind_exc, Rs.bind_stuck, Rs.ofO_some, Rs.nox_ok, List.getElem?_cons_zero, List.getElem?_cons_succ, List.set_cons_zero, List.set_cons_succ, List.length_cons, List.length_nil, List.length_append, List.length_map, List.replicate_succ, List.replicate_zero, List.cons_append, List.nil_append, List.append_nil, Nat.reduceAdd, Nat.reduceSub, Nat.reduceLT, Nat.reduceLeDiff, Nat.reduceEqDiff, Nat.zero_add, dAdd_int, dMul_int, fI0_int, fB0_int, fI_int, dEq_int, dNe_int, dEq_str, dNe_str, dEq_bl, dBool_bl, dTru_bl, dNeg_int, dToInt_int, dToInt_bl, dLen_tup, dLen_lst, dMin2_int, dMulT_int, dToTup_lst, dToTup_tup, dToLst_lst, dToLst_tup, dats_nil, dats_cons, dIx_tup, dIx_lst, atI0, atI1, atI2, atI3, atI4, atI5, dInt_int, Option.map_some, Option.map_none, Option.bind_some, if_true, if_false, ite_true, ite_false, Bool.false_eq_true, Bool.true_eq_false, reduceIte, Bool.not_true, Bool.not_false, isi_int_int, isi_int_bool, isi_int_str, isi_int_tuple, isi_bool_int, isi_bool_bool, isi_bool_str, isi_bool_tuple, isi_str_int, isi_str_bool, isi_str_str, isi_str_tuple, isi_tup_int, isi_tup_bool, isi_tup_str, isi_tup_tuple, isi_lst_int, isi_lst_bool, isi_lst_str, isi_lst_tuple, isi_none_int, isi_none_bool, isi_none_str, isi_none_tuple, Int.cast_ofNat_Int, decide_true, decide_false, decide_eq_true_eq, not_true_eq_false, not_false_eq_true, Int.reduceEq, Int.reduceNe, Int.reduceLE, Int.reduceLT, Int.reduceAdd, Int.reduceSub, Int.reduceMul, Int.reduceNeg, ite_self, dMax2_int, dInR_int, gInR, le_bezout_0, fb_need_integer_row_0, le_gcd_row_of_0, fb_gcd_row_of_0, ez_gcd_row_of_0, le_shows_gcd_row_0, le_shows_gcd_row_1, le__law_integers_0, lt__law_integers_0, fb__law_integer_0, le__law_is_row_0, le__law_is_row_1, lt__law_is_row_0, le__law_gcd_right_0, lt__law_gcd_right_0, le__law_gcd_right_1, le__law_gcd_right_2, lt__law_gcd_right_1, le__law_lcm_right_0, le__law_lcm_right_1, lt__law_lcm_right_0, le__law_lcm_right_2, lt__law_lcm_right_1, fb__law_row_right_0, le__law_row_right_0, le__law_row_right_1, lt__law_row_right_0, le__law_row_right_2, lt__law_row_right_1, le__law_written_0, lt__law_written_0, le__law_written_1, le__law_written_2]
def isL (one other m s t u v : Int) : Bool := decide (0 ≤ m ∧ one * s = m ∧ other * t = m ∧ u * s + v * t = 1)
theorem e_takes_lcm (h1 : Rg one) (h2 : Rg other) (hm : Sm m) (hs : Sm s) (ht : Sm t) (hu : Sm u) (hv : Sm v) :
    G_takes_lcm [.dat (.int one), .dat (.int other), .dat (pt5 m s t u v)] cu = .ok (.bool (isL one other m s t u v)) cu := by
  have hn := e_need_two (cu := cu) h1 h2
  have ha := e_are5 (cu := cu) (a := m) (b := s) (c := t) (d := u) (e := v)
  have m1 := mulOk_sm h1.sm hs
  have m2 := mulOk_sm h2.sm ht
  have m3 := mulOk_sm hu hs
  have m4 := mulOk_sm hv ht
  unfold isL
  simp only [pt5] at ha ⊢
  by_cases c1 : m < 0
  · have c1' : ¬ 0 ≤ m := by omega
    simp only [G_takes_lcm, g_takes_lcm, G_shows_lcm, g_shows_lcm, hn, ha, m1, m2, m3, m4, c1, c1', false_and, gFn, gSeq, gIf, gSet, gSetO, gfCat, gfDisp, gBin, gCall, gApp, gaNil, gaCons, gaCup, gC_eq, gVar_un, gDisp, gSlice, gPart, gNoPart, gTru, gBool, gChain, gAnd, gOr, gNot, gAndV, gOrV, gNotV, gIfE, gUn, gCupF_un, gCupT_un, gCupSet, gRet, gAsg, gPar, gPar3, gDrop, gRaise, gSkip, gIsi, gFor, giTup, giLst, giArg, gLc, gL, gFrz, gApd, gYes, gAll, ggName, ggTup, ggCons, ggNil, wipeE, dLst, dTup, gForL_nil, gForL_cons, gLcL_nil, gLcL_cons, dZip_tup, dZip_lst, zipD_cc, zipD_nil, cutD_1, dCut_tup, dCut_lst, dAbs_ab, dAdd_tup, dAdd_lst, Rs.bind_ok, Rs.bind_exc, Rs.bind_stuck, Rs.ofO_some, Rs.nox_ok, List.getElem?_cons_zero, List.getElem?_cons_succ, List.set_cons_zero, List.set_cons_succ, List.length_cons, List.length_nil, List.length_append, List.length_map, List.replicate_succ, List.replicate_zero, List.cons_append, List.nil_append, List.append_nil, Nat.reduceAdd, Nat.reduceSub, Nat.reduceLT, Nat.reduceLeDiff, Nat.reduceEqDiff, Nat.zero_add, dAdd_int, dMul_int, fI0_int, fB0_int, fI_int, dEq_int, dNe_int, dEq_str, dNe_str, dEq_bl, dBool_bl, dTru_bl, dNeg_int, dToInt_int, dToInt_bl, dLen_tup, dLen_lst, dMin2_int, dMulT_int, dToTup_lst, dToTup_tup, dToLst_lst, dToLst_tup, dats_nil, dats_cons, dIx_tup, dIx_lst, atI0, atI1, atI2, atI3, atI4, atI5, dInt_int, Option.map_some, Option.map_none, Option.bind_some, if_true, if_false, ite_true, ite_false, Bool.false_eq_true, Bool.true_eq_false, reduceIte, Bool.not_true, Bool.not_false, isi_int_int, isi_int_bool, isi_int_str, isi_int_tuple, isi_bool_int, isi_bool_bool, isi_bool_str, isi_bool_tuple, isi_str_int, isi_str_bool, isi_str_str, isi_str_tuple, isi_tup_int, isi_tup_bool, isi_tup_str, isi_tup_tuple, isi_lst_int, isi_lst_bool, isi_lst_str, isi_lst_tuple, isi_none_int, isi_none_bool, isi_none_str, isi_none_tuple, Int.cast_ofNat_Int, decide_true, decide_false, decide_eq_true_eq, not_true_eq_false, not_false_eq_true, Int.reduceEq, Int.reduceNe, Int.reduceLE, Int.reduceLT, Int.reduceAdd, Int.reduceSub, Int.reduceMul, Int.reduceNeg, ite_self, dMax2_int, dInR_int, gInR, le_bezout_0, fb_need_integer_row_0, le_gcd_row_of_0, fb_gcd_row_of_0, ez_gcd_row_of_0, le_shows_gcd_row_0, le_shows_gcd_row_1, le__law_integers_0, lt__law_integers_0, fb__law_integer_0, le__law_is_row_0, le__law_is_row_1, lt__law_is_row_0, le__law_gcd_right_0, lt__law_gcd_right_0, le__law_gcd_right_1, le__law_gcd_right_2, lt__law_gcd_right_1, le__law_lcm_right_0, le__law_lcm_right_1, lt__law_lcm_right_0, le__law_lcm_right_2, lt__law_lcm_right_1, fb__law_row_right_0, le__law_row_right_0, le__law_row_right_1, lt__law_row_right_0, le__law_row_right_2, lt__law_row_right_1, le__law_written_0, lt__law_written_0, le__law_written_1, le__law_written_2]
  have c1' : 0 ≤ m := by omega
  by_cases c2 : one * s = m
  case neg => simp only [G_takes_lcm, g_takes_lcm, G_shows_lcm, g_shows_lcm, hn, ha, m1, m2, m3, m4, c1, c2, false_and, and_false, gFn, gSeq, gIf, gSet, gSetO, gfCat, gfDisp, gBin, gCall, gApp, gaNil, gaCons, gaCup, gC_eq, gVar_un, gDisp, gSlice, gPart, gNoPart, gTru, gBool, gChain, gAnd, gOr, gNot, gAndV, gOrV, gNotV, gIfE, gUn, gCupF_un, gCupT_un, gCupSet, gRet, gAsg, gPar, gPar3, gDrop, gRaise, gSkip, gIsi, gFor, giTup, giLst, giArg, gLc, gL, gFrz, gApd, gYes, gAll, ggName, ggTup, ggCons, ggNil, wipeE, dLst, dTup, gForL_nil, gForL_cons, gLcL_nil, gLcL_cons, dZip_tup, dZip_lst, zipD_cc, zipD_nil, cutD_1, dCut_tup, dCut_lst, dAbs_ab, dAdd_tup, dAdd_lst, Rs.bind_ok, Rs.bind_exc, Rs.bind_stuck, Rs.ofO_some, Rs.nox_ok, List.getElem?_cons_zero, List.getElem?_cons_succ, List.set_cons_zero, List.set_cons_succ, List.length_cons, List.length_nil, List.length_append, List.length_map, List.replicate_succ, List.replicate_zero, List.cons_append, List.nil_append, List.append_nil, Nat.reduceAdd, Nat.reduceSub, Nat.reduceLT, Nat.reduceLeDiff, Nat.reduceEqDiff, Nat.zero_add, dAdd_int, dMul_int, fI0_int, fB0_int, fI_int, dEq_int, dNe_int, dEq_str, dNe_str, dEq_bl, dBool_bl, dTru_bl, dNeg_int, dToInt_int, dToInt_bl, dLen_tup, dLen_lst, dMin2_int, dMulT_int, dToTup_lst, dToTup_tup, dToLst_lst, dToLst_tup, dats_nil, dats_cons, dIx_tup, dIx_lst, atI0, atI1, atI2, atI3, atI4, atI5, dInt_int, Option.map_some, Option.map_none, Option.bind_some, if_true, if_false, ite_true, ite_false, Bool.false_eq_true, Bool.true_eq_false, reduceIte, Bool.not_true, Bool.not_false, isi_int_int, isi_int_bool, isi_int_str, isi_int_tuple, isi_bool_int, isi_bool_bool, isi_bool_str, isi_bool_tuple, isi_str_int, isi_str_bool, isi_str_str, isi_str_tuple, isi_tup_int, isi_tup_bool, isi_tup_str, isi_tup_tuple, isi_lst_int, isi_lst_bool, isi_lst_str, isi_lst_tuple, isi_none_int, isi_none_bool, isi_none_str, isi_none_tuple, Int.cast_ofNat_Int, decide_true, decide_false, decide_eq_true_eq, not_true_eq_false, not_false_eq_true, Int.reduceEq, Int.reduceNe, Int.reduceLE, Int.reduceLT, Int.reduceAdd, Int.reduceSub, Int.reduceMul, Int.reduceNeg, ite_self, dMax2_int, dInR_int, gInR, le_bezout_0, fb_need_integer_row_0, le_gcd_row_of_0, fb_gcd_row_of_0, ez_gcd_row_of_0, le_shows_gcd_row_0, le_shows_gcd_row_1, le__law_integers_0, lt__law_integers_0, fb__law_integer_0, le__law_is_row_0, le__law_is_row_1, lt__law_is_row_0, le__law_gcd_right_0, lt__law_gcd_right_0, le__law_gcd_right_1, le__law_gcd_right_2, lt__law_gcd_right_1, le__law_lcm_right_0, le__law_lcm_right_1, lt__law_lcm_right_0, le__law_lcm_right_2, lt__law_lcm_right_1, fb__law_row_right_0, le__law_row_right_0, le__law_row_right_1, lt__law_row_right_0, le__law_row_right_2, lt__law_row_right_1, le__law_written_0, lt__law_written_0, le__law_written_1, le__law_written_2]
  by_cases c3 : other * t = m
  case neg => simp only [G_takes_lcm, g_takes_lcm, G_shows_lcm, g_shows_lcm, hn, ha, m1, m2, m3, m4, c1, c2, c3, false_and, and_false, gFn, gSeq, gIf, gSet, gSetO, gfCat, gfDisp, gBin, gCall, gApp, gaNil, gaCons, gaCup, gC_eq, gVar_un, gDisp, gSlice, gPart, gNoPart, gTru, gBool, gChain, gAnd, gOr, gNot, gAndV, gOrV, gNotV, gIfE, gUn, gCupF_un, gCupT_un, gCupSet, gRet, gAsg, gPar, gPar3, gDrop, gRaise, gSkip, gIsi, gFor, giTup, giLst, giArg, gLc, gL, gFrz, gApd, gYes, gAll, ggName, ggTup, ggCons, ggNil, wipeE, dLst, dTup, gForL_nil, gForL_cons, gLcL_nil, gLcL_cons, dZip_tup, dZip_lst, zipD_cc, zipD_nil, cutD_1, dCut_tup, dCut_lst, dAbs_ab, dAdd_tup, dAdd_lst, Rs.bind_ok, Rs.bind_exc, Rs.bind_stuck, Rs.ofO_some, Rs.nox_ok, List.getElem?_cons_zero, List.getElem?_cons_succ, List.set_cons_zero, List.set_cons_succ, List.length_cons, List.length_nil, List.length_append, List.length_map, List.replicate_succ, List.replicate_zero, List.cons_append, List.nil_append, List.append_nil, Nat.reduceAdd, Nat.reduceSub, Nat.reduceLT, Nat.reduceLeDiff, Nat.reduceEqDiff, Nat.zero_add, dAdd_int, dMul_int, fI0_int, fB0_int, fI_int, dEq_int, dNe_int, dEq_str, dNe_str, dEq_bl, dBool_bl, dTru_bl, dNeg_int, dToInt_int, dToInt_bl, dLen_tup, dLen_lst, dMin2_int, dMulT_int, dToTup_lst, dToTup_tup, dToLst_lst, dToLst_tup, dats_nil, dats_cons, dIx_tup, dIx_lst, atI0, atI1, atI2, atI3, atI4, atI5, dInt_int, Option.map_some, Option.map_none, Option.bind_some, if_true, if_false, ite_true, ite_false, Bool.false_eq_true, Bool.true_eq_false, reduceIte, Bool.not_true, Bool.not_false, isi_int_int, isi_int_bool, isi_int_str, isi_int_tuple, isi_bool_int, isi_bool_bool, isi_bool_str, isi_bool_tuple, isi_str_int, isi_str_bool, isi_str_str, isi_str_tuple, isi_tup_int, isi_tup_bool, isi_tup_str, isi_tup_tuple, isi_lst_int, isi_lst_bool, isi_lst_str, isi_lst_tuple, isi_none_int, isi_none_bool, isi_none_str, isi_none_tuple, Int.cast_ofNat_Int, decide_true, decide_false, decide_eq_true_eq, not_true_eq_false, not_false_eq_true, Int.reduceEq, Int.reduceNe, Int.reduceLE, Int.reduceLT, Int.reduceAdd, Int.reduceSub, Int.reduceMul, Int.reduceNeg, ite_self, dMax2_int, dInR_int, gInR, le_bezout_0, fb_need_integer_row_0, le_gcd_row_of_0, fb_gcd_row_of_0, ez_gcd_row_of_0, le_shows_gcd_row_0, le_shows_gcd_row_1, le__law_integers_0, lt__law_integers_0, fb__law_integer_0, le__law_is_row_0, le__law_is_row_1, lt__law_is_row_0, le__law_gcd_right_0, lt__law_gcd_right_0, le__law_gcd_right_1, le__law_gcd_right_2, lt__law_gcd_right_1, le__law_lcm_right_0, le__law_lcm_right_1, lt__law_lcm_right_0, le__law_lcm_right_2, lt__law_lcm_right_1, fb__law_row_right_0, le__law_row_right_0, le__law_row_right_1, lt__law_row_right_0, le__law_row_right_2, lt__law_row_right_1, le__law_written_0, lt__law_written_0, le__law_written_1, le__law_written_2]
  simp only [G_takes_lcm, g_takes_lcm, G_shows_lcm, g_shows_lcm, hn, ha, m1, m2, m3, m4, c1, c1', c2, c3, true_and, gFn, gSeq, gIf, gSet, gSetO, gfCat, gfDisp, gBin, gCall, gApp, gaNil, gaCons, gaCup, gC_eq, gVar_un, gDisp, gSlice, gPart, gNoPart, gTru, gBool, gChain, gAnd, gOr, gNot, gAndV, gOrV, gNotV, gIfE, gUn, gCupF_un, gCupT_un, gCupSet, gRet, gAsg, gPar, gPar3, gDrop, gRaise, gSkip, gIsi, gFor, giTup, giLst, giArg, gLc, gL, gFrz, gApd, gYes, gAll, ggName, ggTup, ggCons, ggNil, wipeE, dLst, dTup, gForL_nil, gForL_cons, gLcL_nil, gLcL_cons, dZip_tup, dZip_lst, zipD_cc, zipD_nil, cutD_1, dCut_tup, dCut_lst, dAbs_ab, dAdd_tup, dAdd_lst, Rs.bind_ok, Rs.bind_exc, Rs.bind_stuck, Rs.ofO_some, Rs.nox_ok, List.getElem?_cons_zero, List.getElem?_cons_succ, List.set_cons_zero, List.set_cons_succ, List.length_cons, List.length_nil, List.length_append, List.length_map, List.replicate_succ, List.replicate_zero, List.cons_append, List.nil_append, List.append_nil, Nat.reduceAdd, Nat.reduceSub, Nat.reduceLT, Nat.reduceLeDiff, Nat.reduceEqDiff, Nat.zero_add, dAdd_int, dMul_int, fI0_int, fB0_int, fI_int, dEq_int, dNe_int, dEq_str, dNe_str, dEq_bl, dBool_bl, dTru_bl, dNeg_int, dToInt_int, dToInt_bl, dLen_tup, dLen_lst, dMin2_int, dMulT_int, dToTup_lst, dToTup_tup, dToLst_lst, dToLst_tup, dats_nil, dats_cons, dIx_tup, dIx_lst, atI0, atI1, atI2, atI3, atI4, atI5, dInt_int, Option.map_some, Option.map_none, Option.bind_some, if_true, if_false, ite_true, ite_false, Bool.false_eq_true, Bool.true_eq_false, reduceIte, Bool.not_true, Bool.not_false, isi_int_int, isi_int_bool, isi_int_str, isi_int_tuple, isi_bool_int, isi_bool_bool, isi_bool_str, isi_bool_tuple, isi_str_int, isi_str_bool, isi_str_str, isi_str_tuple, isi_tup_int, isi_tup_bool, isi_tup_str, isi_tup_tuple, isi_lst_int, isi_lst_bool, isi_lst_str, isi_lst_tuple, isi_none_int, isi_none_bool, isi_none_str, isi_none_tuple, Int.cast_ofNat_Int, decide_true, decide_false, decide_eq_true_eq, not_true_eq_false, not_false_eq_true, Int.reduceEq, Int.reduceNe, Int.reduceLE, Int.reduceLT, Int.reduceAdd, Int.reduceSub, Int.reduceMul, Int.reduceNeg, ite_self, dMax2_int, dInR_int, gInR, le_bezout_0, fb_need_integer_row_0, le_gcd_row_of_0, fb_gcd_row_of_0, ez_gcd_row_of_0, le_shows_gcd_row_0, le_shows_gcd_row_1, le__law_integers_0, lt__law_integers_0, fb__law_integer_0, le__law_is_row_0, le__law_is_row_1, lt__law_is_row_0, le__law_gcd_right_0, lt__law_gcd_right_0, le__law_gcd_right_1, le__law_gcd_right_2, lt__law_gcd_right_1, le__law_lcm_right_0, le__law_lcm_right_1, lt__law_lcm_right_0, le__law_lcm_right_2, lt__law_lcm_right_1, fb__law_row_right_0, le__law_row_right_0, le__law_row_right_1, lt__law_row_right_0, le__law_row_right_2, lt__law_row_right_1, le__law_written_0, lt__law_written_0, le__law_written_1, le__law_written_2]
theorem e_law_is_lcm (h1 : Rg one) (h2 : Rg other) (hm : Sm m) (hs : Sm s) (ht : Sm t) (hu : Sm u) (hv : Sm v) :
    G__law_is_lcm [.dat (.int one), .dat (.int other), .dat (pt5 m s t u v)] cu = .ok (.bool (isL one other m s t u v)) cu := by
  have m1 := mulOk_sm h1.sm hs
  have m2 := mulOk_sm h2.sm ht
  have m3 := mulOk_sm hu hs
  have m4 := mulOk_sm hv ht
  unfold isL
  simp only [pt5]
  by_cases c1 : 0 ≤ m
  case neg => simp only [G__law_is_lcm, g__law_is_lcm, m1, m2, m3, m4, c1, false_and, gFn, gSeq, gIf, gSet, gSetO, gfCat, gfDisp, gBin, gCall, gApp, gaNil, gaCons, gaCup, gC_eq, gVar_un, gDisp, gSlice, gPart, gNoPart, gTru, gBool, gChain, gAnd, gOr, gNot, gAndV, gOrV, gNotV, gIfE, gUn, gCupF_un, gCupT_un, gCupSet, gRet, gAsg, gPar, gPar3, gDrop, gRaise, gSkip, gIsi, gFor, giTup, giLst, giArg, gLc, gL, gFrz, gApd, gYes, gAll, ggName, ggTup, ggCons, ggNil, wipeE, dLst, dTup, gForL_nil, gForL_cons, gLcL_nil, gLcL_cons, dZip_tup, dZip_lst, zipD_cc, zipD_nil, cutD_1, dCut_tup, dCut_lst, dAbs_ab, dAdd_tup, dAdd_lst, Rs.bind_ok, Rs.bind_exc, Rs.bind_stuck, Rs.ofO_some, Rs.nox_ok, List.getElem?_cons_zero, List.getElem?_cons_succ, List.set_cons_zero, List.set_cons_succ, List.length_cons, List.length_nil, List.length_append, List.length_map, List.replicate_succ, List.replicate_zero, List.cons_append, List.nil_append, List.append_nil, Nat.reduceAdd, Nat.reduceSub, Nat.reduceLT, Nat.reduceLeDiff, Nat.reduceEqDiff, Nat.zero_add, dAdd_int, dMul_int, fI0_int, fB0_int, fI_int, dEq_int, dNe_int, dEq_str, dNe_str, dEq_bl, dBool_bl, dTru_bl, dNeg_int, dToInt_int, dToInt_bl, dLen_tup, dLen_lst, dMin2_int, dMulT_int, dToTup_lst, dToTup_tup, dToLst_lst, dToLst_tup, dats_nil, dats_cons, dIx_tup, dIx_lst, atI0, atI1, atI2, atI3, atI4, atI5, dInt_int, Option.map_some, Option.map_none, Option.bind_some, if_true, if_false, ite_true, ite_false, Bool.false_eq_true, Bool.true_eq_false, reduceIte, Bool.not_true, Bool.not_false, isi_int_int, isi_int_bool, isi_int_str, isi_int_tuple, isi_bool_int, isi_bool_bool, isi_bool_str, isi_bool_tuple, isi_str_int, isi_str_bool, isi_str_str, isi_str_tuple, isi_tup_int, isi_tup_bool, isi_tup_str, isi_tup_tuple, isi_lst_int, isi_lst_bool, isi_lst_str, isi_lst_tuple, isi_none_int, isi_none_bool, isi_none_str, isi_none_tuple, Int.cast_ofNat_Int, decide_true, decide_false, decide_eq_true_eq, not_true_eq_false, not_false_eq_true, Int.reduceEq, Int.reduceNe, Int.reduceLE, Int.reduceLT, Int.reduceAdd, Int.reduceSub, Int.reduceMul, Int.reduceNeg, ite_self, dMax2_int, dInR_int, gInR, le_bezout_0, fb_need_integer_row_0, le_gcd_row_of_0, fb_gcd_row_of_0, ez_gcd_row_of_0, le_shows_gcd_row_0, le_shows_gcd_row_1, le__law_integers_0, lt__law_integers_0, fb__law_integer_0, le__law_is_row_0, le__law_is_row_1, lt__law_is_row_0, le__law_gcd_right_0, lt__law_gcd_right_0, le__law_gcd_right_1, le__law_gcd_right_2, lt__law_gcd_right_1, le__law_lcm_right_0, le__law_lcm_right_1, lt__law_lcm_right_0, le__law_lcm_right_2, lt__law_lcm_right_1, fb__law_row_right_0, le__law_row_right_0, le__law_row_right_1, lt__law_row_right_0, le__law_row_right_2, lt__law_row_right_1, le__law_written_0, lt__law_written_0, le__law_written_1, le__law_written_2]
  by_cases c2 : one * s = m
  case neg => simp only [G__law_is_lcm, g__law_is_lcm, m1, m2, m3, m4, c1, c2, false_and, and_false, gFn, gSeq, gIf, gSet, gSetO, gfCat, gfDisp, gBin, gCall, gApp, gaNil, gaCons, gaCup, gC_eq, gVar_un, gDisp, gSlice, gPart, gNoPart, gTru, gBool, gChain, gAnd, gOr, gNot, gAndV, gOrV, gNotV, gIfE, gUn, gCupF_un, gCupT_un, gCupSet, gRet, gAsg, gPar, gPar3, gDrop, gRaise, gSkip, gIsi, gFor, giTup, giLst, giArg, gLc, gL, gFrz, gApd, gYes, gAll, ggName, ggTup, ggCons, ggNil, wipeE, dLst, dTup, gForL_nil, gForL_cons, gLcL_nil, gLcL_cons, dZip_tup, dZip_lst, zipD_cc, zipD_nil, cutD_1, dCut_tup, dCut_lst, dAbs_ab, dAdd_tup, dAdd_lst, Rs.bind_ok, Rs.bind_exc, Rs.bind_stuck, Rs.ofO_some, Rs.nox_ok, List.getElem?_cons_zero, List.getElem?_cons_succ, List.set_cons_zero, List.set_cons_succ, List.length_cons, List.length_nil, List.length_append, List.length_map, List.replicate_succ, List.replicate_zero, List.cons_append, List.nil_append, List.append_nil, Nat.reduceAdd, Nat.reduceSub, Nat.reduceLT, Nat.reduceLeDiff, Nat.reduceEqDiff, Nat.zero_add, dAdd_int, dMul_int, fI0_int, fB0_int, fI_int, dEq_int, dNe_int, dEq_str, dNe_str, dEq_bl, dBool_bl, dTru_bl, dNeg_int, dToInt_int, dToInt_bl, dLen_tup, dLen_lst, dMin2_int, dMulT_int, dToTup_lst, dToTup_tup, dToLst_lst, dToLst_tup, dats_nil, dats_cons, dIx_tup, dIx_lst, atI0, atI1, atI2, atI3, atI4, atI5, dInt_int, Option.map_some, Option.map_none, Option.bind_some, if_true, if_false, ite_true, ite_false, Bool.false_eq_true, Bool.true_eq_false, reduceIte, Bool.not_true, Bool.not_false, isi_int_int, isi_int_bool, isi_int_str, isi_int_tuple, isi_bool_int, isi_bool_bool, isi_bool_str, isi_bool_tuple, isi_str_int, isi_str_bool, isi_str_str, isi_str_tuple, isi_tup_int, isi_tup_bool, isi_tup_str, isi_tup_tuple, isi_lst_int, isi_lst_bool, isi_lst_str, isi_lst_tuple, isi_none_int, isi_none_bool, isi_none_str, isi_none_tuple, Int.cast_ofNat_Int, decide_true, decide_false, decide_eq_true_eq, not_true_eq_false, not_false_eq_true, Int.reduceEq, Int.reduceNe, Int.reduceLE, Int.reduceLT, Int.reduceAdd, Int.reduceSub, Int.reduceMul, Int.reduceNeg, ite_self, dMax2_int, dInR_int, gInR, le_bezout_0, fb_need_integer_row_0, le_gcd_row_of_0, fb_gcd_row_of_0, ez_gcd_row_of_0, le_shows_gcd_row_0, le_shows_gcd_row_1, le__law_integers_0, lt__law_integers_0, fb__law_integer_0, le__law_is_row_0, le__law_is_row_1, lt__law_is_row_0, le__law_gcd_right_0, lt__law_gcd_right_0, le__law_gcd_right_1, le__law_gcd_right_2, lt__law_gcd_right_1, le__law_lcm_right_0, le__law_lcm_right_1, lt__law_lcm_right_0, le__law_lcm_right_2, lt__law_lcm_right_1, fb__law_row_right_0, le__law_row_right_0, le__law_row_right_1, lt__law_row_right_0, le__law_row_right_2, lt__law_row_right_1, le__law_written_0, lt__law_written_0, le__law_written_1, le__law_written_2]
  by_cases c3 : other * t = m
  case neg => simp only [G__law_is_lcm, g__law_is_lcm, m1, m2, m3, m4, c1, c2, c3, false_and, and_false, gFn, gSeq, gIf, gSet, gSetO, gfCat, gfDisp, gBin, gCall, gApp, gaNil, gaCons, gaCup, gC_eq, gVar_un, gDisp, gSlice, gPart, gNoPart, gTru, gBool, gChain, gAnd, gOr, gNot, gAndV, gOrV, gNotV, gIfE, gUn, gCupF_un, gCupT_un, gCupSet, gRet, gAsg, gPar, gPar3, gDrop, gRaise, gSkip, gIsi, gFor, giTup, giLst, giArg, gLc, gL, gFrz, gApd, gYes, gAll, ggName, ggTup, ggCons, ggNil, wipeE, dLst, dTup, gForL_nil, gForL_cons, gLcL_nil, gLcL_cons, dZip_tup, dZip_lst, zipD_cc, zipD_nil, cutD_1, dCut_tup, dCut_lst, dAbs_ab, dAdd_tup, dAdd_lst, Rs.bind_ok, Rs.bind_exc, Rs.bind_stuck, Rs.ofO_some, Rs.nox_ok, List.getElem?_cons_zero, List.getElem?_cons_succ, List.set_cons_zero, List.set_cons_succ, List.length_cons, List.length_nil, List.length_append, List.length_map, List.replicate_succ, List.replicate_zero, List.cons_append, List.nil_append, List.append_nil, Nat.reduceAdd, Nat.reduceSub, Nat.reduceLT, Nat.reduceLeDiff, Nat.reduceEqDiff, Nat.zero_add, dAdd_int, dMul_int, fI0_int, fB0_int, fI_int, dEq_int, dNe_int, dEq_str, dNe_str, dEq_bl, dBool_bl, dTru_bl, dNeg_int, dToInt_int, dToInt_bl, dLen_tup, dLen_lst, dMin2_int, dMulT_int, dToTup_lst, dToTup_tup, dToLst_lst, dToLst_tup, dats_nil, dats_cons, dIx_tup, dIx_lst, atI0, atI1, atI2, atI3, atI4, atI5, dInt_int, Option.map_some, Option.map_none, Option.bind_some, if_true, if_false, ite_true, ite_false, Bool.false_eq_true, Bool.true_eq_false, reduceIte, Bool.not_true, Bool.not_false, isi_int_int, isi_int_bool, isi_int_str, isi_int_tuple, isi_bool_int, isi_bool_bool, isi_bool_str, isi_bool_tuple, isi_str_int, isi_str_bool, isi_str_str, isi_str_tuple, isi_tup_int, isi_tup_bool, isi_tup_str, isi_tup_tuple, isi_lst_int, isi_lst_bool, isi_lst_str, isi_lst_tuple, isi_none_int, isi_none_bool, isi_none_str, isi_none_tuple, Int.cast_ofNat_Int, decide_true, decide_false, decide_eq_true_eq, not_true_eq_false, not_false_eq_true, Int.reduceEq, Int.reduceNe, Int.reduceLE, Int.reduceLT, Int.reduceAdd, Int.reduceSub, Int.reduceMul, Int.reduceNeg, ite_self, dMax2_int, dInR_int, gInR, le_bezout_0, fb_need_integer_row_0, le_gcd_row_of_0, fb_gcd_row_of_0, ez_gcd_row_of_0, le_shows_gcd_row_0, le_shows_gcd_row_1, le__law_integers_0, lt__law_integers_0, fb__law_integer_0, le__law_is_row_0, le__law_is_row_1, lt__law_is_row_0, le__law_gcd_right_0, lt__law_gcd_right_0, le__law_gcd_right_1, le__law_gcd_right_2, lt__law_gcd_right_1, le__law_lcm_right_0, le__law_lcm_right_1, lt__law_lcm_right_0, le__law_lcm_right_2, lt__law_lcm_right_1, fb__law_row_right_0, le__law_row_right_0, le__law_row_right_1, lt__law_row_right_0, le__law_row_right_2, lt__law_row_right_1, le__law_written_0, lt__law_written_0, le__law_written_1, le__law_written_2]
  simp only [G__law_is_lcm, g__law_is_lcm, m1, m2, m3, m4, c1, c2, c3, true_and, gFn, gSeq, gIf, gSet, gSetO, gfCat, gfDisp, gBin, gCall, gApp, gaNil, gaCons, gaCup, gC_eq, gVar_un, gDisp, gSlice, gPart, gNoPart, gTru, gBool, gChain, gAnd, gOr, gNot, gAndV, gOrV, gNotV, gIfE, gUn, gCupF_un, gCupT_un, gCupSet, gRet, gAsg, gPar, gPar3, gDrop, gRaise, gSkip, gIsi, gFor, giTup, giLst, giArg, gLc, gL, gFrz, gApd, gYes, gAll, ggName, ggTup, ggCons, ggNil, wipeE, dLst, dTup, gForL_nil, gForL_cons, gLcL_nil, gLcL_cons, dZip_tup, dZip_lst, zipD_cc, zipD_nil, cutD_1, dCut_tup, dCut_lst, dAbs_ab, dAdd_tup, dAdd_lst, Rs.bind_ok, Rs.bind_exc, Rs.bind_stuck, Rs.ofO_some, Rs.nox_ok, List.getElem?_cons_zero, List.getElem?_cons_succ, List.set_cons_zero, List.set_cons_succ, List.length_cons, List.length_nil, List.length_append, List.length_map, List.replicate_succ, List.replicate_zero, List.cons_append, List.nil_append, List.append_nil, Nat.reduceAdd, Nat.reduceSub, Nat.reduceLT, Nat.reduceLeDiff, Nat.reduceEqDiff, Nat.zero_add, dAdd_int, dMul_int, fI0_int, fB0_int, fI_int, dEq_int, dNe_int, dEq_str, dNe_str, dEq_bl, dBool_bl, dTru_bl, dNeg_int, dToInt_int, dToInt_bl, dLen_tup, dLen_lst, dMin2_int, dMulT_int, dToTup_lst, dToTup_tup, dToLst_lst, dToLst_tup, dats_nil, dats_cons, dIx_tup, dIx_lst, atI0, atI1, atI2, atI3, atI4, atI5, dInt_int, Option.map_some, Option.map_none, Option.bind_some, if_true, if_false, ite_true, ite_false, Bool.false_eq_true, Bool.true_eq_false, reduceIte, Bool.not_true, Bool.not_false, isi_int_int, isi_int_bool, isi_int_str, isi_int_tuple, isi_bool_int, isi_bool_bool, isi_bool_str, isi_bool_tuple, isi_str_int, isi_str_bool, isi_str_str, isi_str_tuple, isi_tup_int, isi_tup_bool, isi_tup_str, isi_tup_tuple, isi_lst_int, isi_lst_bool, isi_lst_str, isi_lst_tuple, isi_none_int, isi_none_bool, isi_none_str, isi_none_tuple, Int.cast_ofNat_Int, decide_true, decide_false, decide_eq_true_eq, not_true_eq_false, not_false_eq_true, Int.reduceEq, Int.reduceNe, Int.reduceLE, Int.reduceLT, Int.reduceAdd, Int.reduceSub, Int.reduceMul, Int.reduceNeg, ite_self, dMax2_int, dInR_int, gInR, le_bezout_0, fb_need_integer_row_0, le_gcd_row_of_0, fb_gcd_row_of_0, ez_gcd_row_of_0, le_shows_gcd_row_0, le_shows_gcd_row_1, le__law_integers_0, lt__law_integers_0, fb__law_integer_0, le__law_is_row_0, le__law_is_row_1, lt__law_is_row_0, le__law_gcd_right_0, lt__law_gcd_right_0, le__law_gcd_right_1, le__law_gcd_right_2, lt__law_gcd_right_1, le__law_lcm_right_0, le__law_lcm_right_1, lt__law_lcm_right_0, le__law_lcm_right_2, lt__law_lcm_right_1, fb__law_row_right_0, le__law_row_right_0, le__law_row_right_1, lt__law_row_right_0, le__law_row_right_2, lt__law_row_right_1, le__law_written_0, lt__law_written_0, le__law_written_1, le__law_written_2]
theorem Five.lcm {P : PyData} (h1 : Rg one) (h2 : Rg other) (h : Five P) : ∃ k : Bool, ∀ cu, G_takes_lcm [.dat (.int one), .dat (.int other), .dat P] cu = .ok (.bool k) cu ∧ G__law_is_lcm [.dat (.int one), .dat (.int other), .dat P] cu = .ok (.bool k) cu := by
  obtain ⟨a, b, c, d, e, rfl, s1, s2, s3, s4, s5⟩ := h
  exact ⟨_, fun cu => ⟨e_takes_lcm h1 h2 s1 s2 s3 s4 s5, e_law_is_lcm h1 h2 s1 s2 s3 s4 s5⟩⟩
abbrev lE (one other d m : Int) (P : PyData) (x6 x7 : Sl) : En := [.cup, .dat (.int one), .dat (.int other), .dat (.int d), .dat (.int m), .dat P, x6, x7, .un, .un, .un]
theorem l_told (h1 : Rg one) (h2 : Rg other) {ds : List PyData} {P : PyData} {x6 : Sl} {D : Int} (h : ∀ x ∈ ds, Five x) (hl : ds.length < 16777216) :
    gLc (giLst (gVar 7)) [8] (ggName 8) lt__law_lcm_right_0 le__law_lcm_right_1 (lE one other D m P x6 (.dat (.list ds))) cu = .ok [] cu := by
  have z := gLcL_pure (gg := ggName 8) (gt := lt__law_lcm_right_0) (ge := le__law_lcm_right_1) (cu := cu) (ρ := lE one other D m P x6 (.dat (.list ds))) (fun _ => false) id (ds := ds) fun x hx => by
    obtain ⟨k, hk⟩ := (h x hx).lcm h1 h2
    have k1 := (hk cu).1
    have k2 := (hk cu).2
    refine ⟨_, rfl, ?_, fun z => nomatch z⟩
    simp only [lE, k1, k2, e_same, gFn, gSeq, gIf, gSet, gSetO, gfCat, gfDisp, gBin, gCall, gApp, gaNil, gaCons, gaCup, gC_eq, gVar_un, gDisp, gSlice, gPart, gNoPart, gTru, gBool, gChain, gAnd, gOr, gNot, gAndV, gOrV, gNotV, gIfE, gUn, gCupF_un, gCupT_un, gCupSet, gRet, gAsg, gPar, gPar3, gDrop, gRaise, gSkip, gIsi, gFor, giTup, giLst, giArg, gLc, gL, gFrz, gApd, gYes, gAll, ggName, ggTup, ggCons, ggNil, wipeE, dLst, dTup, gForL_nil, gForL_cons, gLcL_nil, gLcL_cons, dZip_tup, dZip_lst, zipD_cc, zipD_nil, cutD_1, dCut_tup, dCut_lst, dAbs_ab, dAdd_tup, dAdd_lst, Rs.bind_ok, Rs.bind_exc, Rs.bind_stuck, Rs.ofO_some, Rs.nox_ok, List.getElem?_cons_zero, List.getElem?_cons_succ, List.set_cons_zero, List.set_cons_succ, List.length_cons, List.length_nil, List.length_append, List.length_map, List.replicate_succ, List.replicate_zero, List.cons_append, List.nil_append, List.append_nil, Nat.reduceAdd, Nat.reduceSub, Nat.reduceLT, Nat.reduceLeDiff, Nat.reduceEqDiff, Nat.zero_add, dAdd_int, dMul_int, fI0_int, fB0_int, fI_int, dEq_int, dNe_int, dEq_str, dNe_str, dEq_bl, dBool_bl, dTru_bl, dNeg_int, dToInt_int, dToInt_bl, dLen_tup, dLen_lst, dMin2_int, dMulT_int, dToTup_lst, dToTup_tup, dToLst_lst, dToLst_tup, dats_nil, dats_cons, dIx_tup, dIx_lst, atI0, atI1, atI2, atI3, atI4, atI5, dInt_int, Option.map_some, Option.map_none, Option.bind_some, if_true, if_false, ite_true, ite_false, Bool.false_eq_true, Bool.true_eq_false, reduceIte, Bool.not_true, Bool.not_false, isi_int_int, isi_int_bool, isi_int_str, isi_int_tuple, isi_bool_int, isi_bool_bool, isi_bool_str, isi_bool_tuple, isi_str_int, isi_str_bool, isi_str_str, isi_str_tuple, isi_tup_int, isi_tup_bool, isi_tup_str, isi_tup_tuple, isi_lst_int, isi_lst_bool, isi_lst_str, isi_lst_tuple, isi_none_int, isi_none_bool, isi_none_str, isi_none_tuple, Int.cast_ofNat_Int, decide_true, decide_false, decide_eq_true_eq, not_true_eq_false, not_false_eq_true, Int.reduceEq, Int.reduceNe, Int.reduceLE, Int.reduceLT, Int.reduceAdd, Int.reduceSub, Int.reduceMul, Int.reduceNeg, ite_self, dMax2_int, dInR_int, gInR, le_bezout_0, fb_need_integer_row_0, le_gcd_row_of_0, fb_gcd_row_of_0, ez_gcd_row_of_0, le_shows_gcd_row_0, le_shows_gcd_row_1, le__law_integers_0, lt__law_integers_0, fb__law_integer_0, le__law_is_row_0, le__law_is_row_1, lt__law_is_row_0, le__law_gcd_right_0, lt__law_gcd_right_0, le__law_gcd_right_1, le__law_gcd_right_2, lt__law_gcd_right_1, le__law_lcm_right_0, le__law_lcm_right_1, lt__law_lcm_right_0, le__law_lcm_right_2, lt__law_lcm_right_1, fb__law_row_right_0, le__law_row_right_0, le__law_row_right_1, lt__law_row_right_0, le__law_row_right_2, lt__law_row_right_1, le__law_written_0, lt__law_written_0, le__law_written_1, le__law_written_2]
  simp only [gLc, giLst, gVar_un, lE, List.getElem?_cons_succ, List.getElem?_cons_zero, Rs.bind_ok, dLst, Rs.ofO_some, hl, if_true, wipeE, List.set_cons_succ, List.set_cons_zero]
  simp only [lE] at z
  rw [z, List.filter_eq_nil_iff.mpr (fun a _ => Bool.false_ne_true)]
  rfl
def multP (one other : Int) : Int → Bool := fun x => decide (x.fmod (ab one) = 0 ∧ x.fmod (ab other) = 0)
theorem l_small {P : PyData} {x6 x7 : Sl} {D : Int} (z1 : one ≠ 0) (z2 : other ≠ 0) : gLc (giArg dRng2 (gaCons (gC (.int 1)) (gaCons (gC (.int 150)) gaNil))) [10] (ggName 10) lt__law_lcm_right_1 le__law_lcm_right_2 (lE one other D m P x6 x7) cu = .ok (((smalls 149).filter (multP one other)).map PyData.int) cu := by
  have p1 := ab_pos z1
  have p2 := ab_pos z2
  have z := gLcL_pure (gg := ggName 10) (gt := lt__law_lcm_right_1) (ge := le__law_lcm_right_2) (cu := cu) (ρ := lE one other D m P x6 x7) (onI (multP one other)) id (ds := rngD 1 149) fun x hx => by
    obtain ⟨i, hi, rfl⟩ := rng_mem.mp hx
    have o1 : modOk (1 + (i : Int)) (ab one) = true := modOk_b (by omega)
    have o2 : modOk (1 + (i : Int)) (ab other) = true := modOk_b (by omega)
    refine ⟨_, rfl, ?_, fun _ => rfl⟩
    by_cases c : (1 + (i : Int)).fmod (ab one) = 0
    · have c' : ((1 + (i : Int)).fmod (ab one) = 0) = True := eq_true c
      simp only [lE, o1, o2, onI, multP, c', true_and, gFn, gSeq, gIf, gSet, gSetO, gfCat, gfDisp, gBin, gCall, gApp, gaNil, gaCons, gaCup, gC_eq, gVar_un, gDisp, gSlice, gPart, gNoPart, gTru, gBool, gChain, gAnd, gOr, gNot, gAndV, gOrV, gNotV, gIfE, gUn, gCupF_un, gCupT_un, gCupSet, gRet, gAsg, gPar, gPar3, gDrop, gRaise, gSkip, gIsi, gFor, giTup, giLst, giArg, gLc, gL, gFrz, gApd, gYes, gAll, ggName, ggTup, ggCons, ggNil, wipeE, dLst, dTup, gForL_nil, gForL_cons, gLcL_nil, gLcL_cons, dZip_tup, dZip_lst, zipD_cc, zipD_nil, cutD_1, dCut_tup, dCut_lst, dAbs_ab, dAdd_tup, dAdd_lst, Rs.bind_ok, Rs.bind_exc, Rs.bind_stuck, Rs.ofO_some, Rs.nox_ok, List.getElem?_cons_zero, List.getElem?_cons_succ, List.set_cons_zero, List.set_cons_succ, List.length_cons, List.length_nil, List.length_append, List.length_map, List.replicate_succ, List.replicate_zero, List.cons_append, List.nil_append, List.append_nil, Nat.reduceAdd, Nat.reduceSub, Nat.reduceLT, Nat.reduceLeDiff, Nat.reduceEqDiff, Nat.zero_add, dAdd_int, dMul_int, fI0_int, fB0_int, fI_int, dEq_int, dNe_int, dEq_str, dNe_str, dEq_bl, dBool_bl, dTru_bl, dNeg_int, dToInt_int, dToInt_bl, dLen_tup, dLen_lst, dMin2_int, dMulT_int, dToTup_lst, dToTup_tup, dToLst_lst, dToLst_tup, dats_nil, dats_cons, dIx_tup, dIx_lst, atI0, atI1, atI2, atI3, atI4, atI5, dInt_int, Option.map_some, Option.map_none, Option.bind_some, if_true, if_false, ite_true, ite_false, Bool.false_eq_true, Bool.true_eq_false, reduceIte, Bool.not_true, Bool.not_false, isi_int_int, isi_int_bool, isi_int_str, isi_int_tuple, isi_bool_int, isi_bool_bool, isi_bool_str, isi_bool_tuple, isi_str_int, isi_str_bool, isi_str_str, isi_str_tuple, isi_tup_int, isi_tup_bool, isi_tup_str, isi_tup_tuple, isi_lst_int, isi_lst_bool, isi_lst_str, isi_lst_tuple, isi_none_int, isi_none_bool, isi_none_str, isi_none_tuple, Int.cast_ofNat_Int, decide_true, decide_false, decide_eq_true_eq, not_true_eq_false, not_false_eq_true, Int.reduceEq, Int.reduceNe, Int.reduceLE, Int.reduceLT, Int.reduceAdd, Int.reduceSub, Int.reduceMul, Int.reduceNeg, ite_self, dMax2_int, dInR_int, gInR, le_bezout_0, fb_need_integer_row_0, le_gcd_row_of_0, fb_gcd_row_of_0, ez_gcd_row_of_0, le_shows_gcd_row_0, le_shows_gcd_row_1, le__law_integers_0, lt__law_integers_0, fb__law_integer_0, le__law_is_row_0, le__law_is_row_1, lt__law_is_row_0, le__law_gcd_right_0, lt__law_gcd_right_0, le__law_gcd_right_1, le__law_gcd_right_2, lt__law_gcd_right_1, le__law_lcm_right_0, le__law_lcm_right_1, lt__law_lcm_right_0, le__law_lcm_right_2, lt__law_lcm_right_1, fb__law_row_right_0, le__law_row_right_0, le__law_row_right_1, lt__law_row_right_0, le__law_row_right_2, lt__law_row_right_1, le__law_written_0, lt__law_written_0, le__law_written_1, le__law_written_2]
    · simp only [lE, o1, o2, onI, multP, c, false_and, gFn, gSeq, gIf, gSet, gSetO, gfCat, gfDisp, gBin, gCall, gApp, gaNil, gaCons, gaCup, gC_eq, gVar_un, gDisp, gSlice, gPart, gNoPart, gTru, gBool, gChain, gAnd, gOr, gNot, gAndV, gOrV, gNotV, gIfE, gUn, gCupF_un, gCupT_un, gCupSet, gRet, gAsg, gPar, gPar3, gDrop, gRaise, gSkip, gIsi, gFor, giTup, giLst, giArg, gLc, gL, gFrz, gApd, gYes, gAll, ggName, ggTup, ggCons, ggNil, wipeE, dLst, dTup, gForL_nil, gForL_cons, gLcL_nil, gLcL_cons, dZip_tup, dZip_lst, zipD_cc, zipD_nil, cutD_1, dCut_tup, dCut_lst, dAbs_ab, dAdd_tup, dAdd_lst, Rs.bind_ok, Rs.bind_exc, Rs.bind_stuck, Rs.ofO_some, Rs.nox_ok, List.getElem?_cons_zero, List.getElem?_cons_succ, List.set_cons_zero, List.set_cons_succ, List.length_cons, List.length_nil, List.length_append, List.length_map, List.replicate_succ, List.replicate_zero, List.cons_append, List.nil_append, List.append_nil, Nat.reduceAdd, Nat.reduceSub, Nat.reduceLT, Nat.reduceLeDiff, Nat.reduceEqDiff, Nat.zero_add, dAdd_int, dMul_int, fI0_int, fB0_int, fI_int, dEq_int, dNe_int, dEq_str, dNe_str, dEq_bl, dBool_bl, dTru_bl, dNeg_int, dToInt_int, dToInt_bl, dLen_tup, dLen_lst, dMin2_int, dMulT_int, dToTup_lst, dToTup_tup, dToLst_lst, dToLst_tup, dats_nil, dats_cons, dIx_tup, dIx_lst, atI0, atI1, atI2, atI3, atI4, atI5, dInt_int, Option.map_some, Option.map_none, Option.bind_some, if_true, if_false, ite_true, ite_false, Bool.false_eq_true, Bool.true_eq_false, reduceIte, Bool.not_true, Bool.not_false, isi_int_int, isi_int_bool, isi_int_str, isi_int_tuple, isi_bool_int, isi_bool_bool, isi_bool_str, isi_bool_tuple, isi_str_int, isi_str_bool, isi_str_str, isi_str_tuple, isi_tup_int, isi_tup_bool, isi_tup_str, isi_tup_tuple, isi_lst_int, isi_lst_bool, isi_lst_str, isi_lst_tuple, isi_none_int, isi_none_bool, isi_none_str, isi_none_tuple, Int.cast_ofNat_Int, decide_true, decide_false, decide_eq_true_eq, not_true_eq_false, not_false_eq_true, Int.reduceEq, Int.reduceNe, Int.reduceLE, Int.reduceLT, Int.reduceAdd, Int.reduceSub, Int.reduceMul, Int.reduceNeg, ite_self, dMax2_int, dInR_int, gInR, le_bezout_0, fb_need_integer_row_0, le_gcd_row_of_0, fb_gcd_row_of_0, ez_gcd_row_of_0, le_shows_gcd_row_0, le_shows_gcd_row_1, le__law_integers_0, lt__law_integers_0, fb__law_integer_0, le__law_is_row_0, le__law_is_row_1, lt__law_is_row_0, le__law_gcd_right_0, lt__law_gcd_right_0, le__law_gcd_right_1, le__law_gcd_right_2, lt__law_gcd_right_1, le__law_lcm_right_0, le__law_lcm_right_1, lt__law_lcm_right_0, le__law_lcm_right_2, lt__law_lcm_right_1, fb__law_row_right_0, le__law_row_right_0, le__law_row_right_1, lt__law_row_right_0, le__law_row_right_2, lt__law_row_right_1, le__law_written_0, lt__law_written_0, le__law_written_1, le__law_written_2]
  have hr : dRng2 [.int 1, .int 150] = some (rngD 1 149) := rfl
  have hl : (rngD 1 149).length < 16777216 := by rw [rng_len]; decide
  simp only [gLc, giArg, lE, gaCons, gaNil, gC_eq, Rs.bind_ok, dats_cons, dats_nil, Option.map_some, Option.bind_some, hr, Rs.ofO_some, hl, if_true, wipeE, List.set_cons_succ, List.set_cons_zero]
  simp only [lE] at z
  rw [z, List.map_id, rng_smalls, filter_ints (g := multP one other) (fun _ => rfl)]
theorem ab_dvd {a b : Int} : ab a ∣ b ↔ a ∣ b := by
  unfold ab; split
  · exact Int.neg_dvd
  · exact Iff.rfl
theorem l_min (L : Lp one other m s t u v) (z1 : one ≠ 0) (z2 : other ≠ 0) (h : ab (one * other) < 150) : dMinL [lstI ((smalls 149).filter (multP one other))] = some (.int m) := by
  have hm0 : m ≠ 0 := fun hz => by
    have e1 := L.e1; have e2 := L.e2; have e3 := L.e3
    rw [hz] at e1 e2
    rcases Int.mul_eq_zero.mp e1 with k | k
    · exact z1 k
    · rcases Int.mul_eq_zero.mp e2 with k2 | k2
      · exact z2 k2
      · rw [k, k2, Int.mul_zero, Int.mul_zero] at e3; cases e3
  have hmp : 0 < m := by have := L.p; omega
  have hle : m ≤ ab (one * other) := by
    have hd := L.due
    split at hd
    · rename_i hg
      have q := fdiv_lo (a := ab (one * other)) hg
      rw [hd] at q
      have := le_mulr (show 1 ≤ ((Int.gcd one other : Nat) : Int) by omega) L.p
      omega
    · omega
  refine dMinL_of (List.mem_filter.mpr ⟨smalls_mem.mpr ⟨by omega, by omega⟩, decide_eq_true ⟨fmod_zero (ab_dvd.mpr ⟨s, L.e1.symm⟩), fmod_zero (ab_dvd.mpr ⟨t, L.e2.symm⟩)⟩⟩) fun z hz => ?_
  obtain ⟨h1, h2⟩ := List.mem_filter.mp hz
  obtain ⟨h3, h4⟩ := of_decide_eq_true (show decide _ = true from h2)
  obtain ⟨k, hk⟩ := ab_dvd.mp (dvd_of_fmod h3)
  obtain ⟨l, hl⟩ := ab_dvd.mp (dvd_of_fmod h4)
  have hz1 := (smalls_mem.mp h1).1
  refine Int.le_of_dvd (by omega) ⟨u * k + v * l, ?_⟩
  have e1 := L.e1; have e2 := L.e2; have e3 := L.e3
  have a1 : z * s = m * k := by rw [hk, ← e1]; grind
  have a2 : z * t = m * l := by rw [hl, ← e2]; grind
  calc z = z * (u * s + v * t) := by rw [e3, Int.mul_one]
    _ = u * (z * s) + v * (z * t) := by grind
    _ = m * (u * k + v * l) := by rw [a1, a2]; grind
theorem e_lcm_right (h1 : Rg one) (h2 : Rg other) (cu : Cu) : ∃ c, G__law_lcm_right [.cup, .dat (.int one), .dat (.int other)] cu = .ok (.bool true) c := by
  obtain ⟨m, s, t, u, v, L, e⟩ := e_lcm_paper h1 h2
  have hi := e_lint5 (cu := cu) (a := m) (b := s) (c := t) (d := u) (e := v)
  have hc : G__law_common [.dat (.int one), .dat (.int other)] cu = .ok (.int (Int.gcd one other)) cu := e_common
  have s1 : Sm m := up L.sm
  have s2 : Sm s := up L.ss
  have s3 : Sm t := up L.st
  have s4 : Sm u := up L.su
  have s5 : Sm v := up L.sv
  have hg : isL one other m s t u v = true := decide_eq_true ⟨L.p, L.e1, L.e2, L.e3⟩
  have hj : G__law_is_lcm [.dat (.int one), .dat (.int other), .dat (pt5 m s t u v)] cu = .ok (.bool true) cu := by rw [e_law_is_lcm h1 h2 s1 s2 s3 s4 s5, hg]
  obtain ⟨k, c1, k0, k1, er⟩ := roll_ex 5 (by decide) (by decide) cu
  have sz : ∀ z ∈ [m, s, t, u, v], Hf z := by
    intro z hz
    simp only [List.mem_cons, List.not_mem_nil, or_false] at hz
    rcases hz with rfl | rfl | rfl | rfl | rfl
    · exact Hf.of L.sm
    · exact Hf.of L.ss
    · exact Hf.of L.st
    · exact Hf.of L.su
    · exact Hf.of L.sv
  have hs : ∀ cu, ∃ Q c, Five Q ∧ G__law_spoilt [.cup, .dat (pt5 m s t u v)] cu = .ok Q c := fun cu => by
    obtain ⟨ws, c, hl, hw, es⟩ := e_spoilt (cu := cu) (zs := [m, s, t, u, v]) (Nat.zero_lt_succ _) (show 5 ≤ 1000 by decide) sz
    exact ⟨_, c, five_of hl hw, es⟩
  have y1 : mulOk (k - 2) t = true := mulOk_l (by omega)
  have y2 : mulOk (k - 2) s = true := mulOk_l (by omega)
  have y3 : mulOk m 2 = true := mulOk_r (by decide)
  have y4 : mulOk s 2 = true := mulOk_r (by decide)
  have y5 : mulOk t 2 = true := mulOk_r (by decide)
  have y6 := mulOk_sm h1.sm h2.sm
  have t1 : ((k - 2) * t).natAbs ≤ 2 * t.natAbs := by rw [Int.natAbs_mul]; exact Nat.mul_le_mul_right _ (by omega)
  have t2 : ((k - 2) * s).natAbs ≤ 2 * s.natAbs := by rw [Int.natAbs_mul]; exact Nat.mul_le_mul_right _ (by omega)
  have hb : (2 : Nat) ^ 340 * 4 < 2 ^ 2000 := by decide
  have hb2 : (2 : Nat) ^ 700 * 2 < 2 ^ 2000 := by decide
  have z1 := L.su; have z2 := L.sv; have z3 := L.sm; have z4 := L.ss; have z5 := L.st
  have w1 : Sm (u + (k - 2) * t) := by unfold Sm; omega
  have w2 : Sm (v - (k - 2) * s) := by unfold Sm; omega
  have w3 : Sm (m * 2) := by unfold Sm; omega
  have w4 : Sm (s * 2) := by unfold Sm; omega
  have w5 : Sm (t * 2) := by unfold Sm; omega
  let D : Int := Int.gcd one other
  let O1 : List PyData := [pt5 m s t u v, pt5 m s t (u + (k - 2) * t) (v - (k - 2) * s)]
  obtain ⟨qs, c2, hq, hl, eq⟩ := e_spoilts (P := pt5 m s t u v) (le := le__law_lcm_right_0) (gg := ggName 9) (ρ := lE one other D m (pt5 m s t u v) (.dat (.int (k - 2))) (.dat (.list O1)))
    (fun x cu => ⟨_, rfl, by simp only [lE, gFn, gSeq, gIf, gSet, gSetO, gfCat, gfDisp, gBin, gCall, gApp, gaNil, gaCons, gaCup, gC_eq, gVar_un, gDisp, gSlice, gPart, gNoPart, gTru, gBool, gChain, gAnd, gOr, gNot, gAndV, gOrV, gNotV, gIfE, gUn, gCupF_un, gCupT_un, gCupSet, gRet, gAsg, gPar, gPar3, gDrop, gRaise, gSkip, gIsi, gFor, giTup, giLst, giArg, gLc, gL, gFrz, gApd, gYes, gAll, ggName, ggTup, ggCons, ggNil, wipeE, dLst, dTup, gForL_nil, gForL_cons, gLcL_nil, gLcL_cons, dZip_tup, dZip_lst, zipD_cc, zipD_nil, cutD_1, dCut_tup, dCut_lst, dAbs_ab, dAdd_tup, dAdd_lst, Rs.bind_ok, Rs.bind_exc, Rs.bind_stuck, Rs.ofO_some, Rs.nox_ok, List.getElem?_cons_zero, List.getElem?_cons_succ, List.set_cons_zero, List.set_cons_succ, List.length_cons, List.length_nil, List.length_append, List.length_map, List.replicate_succ, List.replicate_zero, List.cons_append, List.nil_append, List.append_nil, Nat.reduceAdd, Nat.reduceSub, Nat.reduceLT, Nat.reduceLeDiff, Nat.reduceEqDiff, Nat.zero_add, dAdd_int, dMul_int, fI0_int, fB0_int, fI_int, dEq_int, dNe_int, dEq_str, dNe_str, dEq_bl, dBool_bl, dTru_bl, dNeg_int, dToInt_int, dToInt_bl, dLen_tup, dLen_lst, dMin2_int, dMulT_int, dToTup_lst, dToTup_tup, dToLst_lst, dToLst_tup, dats_nil, dats_cons, dIx_tup, dIx_lst, atI0, atI1, atI2, atI3, atI4, atI5, dInt_int, Option.map_some, Option.map_none, Option.bind_some, if_true, if_false, ite_true, ite_false, Bool.false_eq_true, Bool.true_eq_false, reduceIte, Bool.not_true, Bool.not_false, isi_int_int, isi_int_bool, isi_int_str, isi_int_tuple, isi_bool_int, isi_bool_bool, isi_bool_str, isi_bool_tuple, isi_str_int, isi_str_bool, isi_str_str, isi_str_tuple, isi_tup_int, isi_tup_bool, isi_tup_str, isi_tup_tuple, isi_lst_int, isi_lst_bool, isi_lst_str, isi_lst_tuple, isi_none_int, isi_none_bool, isi_none_str, isi_none_tuple, Int.cast_ofNat_Int, decide_true, decide_false, decide_eq_true_eq, not_true_eq_false, not_false_eq_true, Int.reduceEq, Int.reduceNe, Int.reduceLE, Int.reduceLT, Int.reduceAdd, Int.reduceSub, Int.reduceMul, Int.reduceNeg, ite_self, dMax2_int, dInR_int, gInR, le_bezout_0, fb_need_integer_row_0, le_gcd_row_of_0, fb_gcd_row_of_0, ez_gcd_row_of_0, le_shows_gcd_row_0, le_shows_gcd_row_1, le__law_integers_0, lt__law_integers_0, fb__law_integer_0, le__law_is_row_0, le__law_is_row_1, lt__law_is_row_0, le__law_gcd_right_0, lt__law_gcd_right_0, le__law_gcd_right_1, le__law_gcd_right_2, lt__law_gcd_right_1, le__law_lcm_right_0, le__law_lcm_right_1, lt__law_lcm_right_0, le__law_lcm_right_2, lt__law_lcm_right_1, fb__law_row_right_0, le__law_row_right_0, le__law_row_right_1, lt__law_row_right_0, le__law_row_right_2, lt__law_row_right_1, le__law_written_0, lt__law_written_0, le__law_written_1, le__law_written_2]⟩) hs [.int 0, .int 1, .int 2] c1
  obtain ⟨q1, q2, q3, rfl⟩ := three hl
  let O2 : List PyData := [pt5 m s t u v, pt5 m s t (u + (k - 2) * t) (v - (k - 2) * s), q1, q2, q3, pt5 (m * 2) (s * 2) (t * 2) u v]
  have ht := l_told (cu := c2) h1 h2 (D := D) (m := m) (P := pt5 m s t u v) (x6 := .dat (.int (k - 2))) (ds := O2) (by
      intro x hx
      simp only [O2, List.mem_cons, List.not_mem_nil, or_false] at hx
      rcases hx with rfl | rfl | rfl | rfl | rfl | rfl
      · exact ⟨_, _, _, _, _, rfl, s1, s2, s3, s4, s5⟩
      · exact ⟨_, _, _, _, _, rfl, s1, s2, s3, w1, w2⟩
      · exact hq _ (by simp)
      · exact hq _ (by simp)
      · exact hq _ (by simp)
      · exact ⟨_, _, _, _, _, rfl, w3, w4, w5, s4, s5⟩) (show 6 < 16777216 by decide)
  have e1 : ta__law_lcm_right_1 (lE one other D m (pt5 m s t u v) (.dat (.int (k - 2))) (.dat (.list O2))) c2 = .ok (.ret (.bool true)) c2 := by
    by_cases n1 : one = 0
    · have n1' : (one = 0) = True := eq_true n1
      simp only [ta__law_lcm_right_1, ta__law_lcm_right_0, lE, n1', gFn, gSeq, gIf, gSet, gSetO, gfCat, gfDisp, gBin, gCall, gApp, gaNil, gaCons, gaCup, gC_eq, gVar_un, gDisp, gSlice, gPart, gNoPart, gTru, gBool, gChain, gAnd, gOr, gNot, gAndV, gOrV, gNotV, gIfE, gUn, gCupF_un, gCupT_un, gCupSet, gRet, gAsg, gPar, gPar3, gDrop, gRaise, gSkip, gIsi, gFor, giTup, giLst, giArg, gLc, gL, gFrz, gApd, gYes, gAll, ggName, ggTup, ggCons, ggNil, wipeE, dLst, dTup, gForL_nil, gForL_cons, gLcL_nil, gLcL_cons, dZip_tup, dZip_lst, zipD_cc, zipD_nil, cutD_1, dCut_tup, dCut_lst, dAbs_ab, dAdd_tup, dAdd_lst, Rs.bind_ok, Rs.bind_exc, Rs.bind_stuck, Rs.ofO_some, Rs.nox_ok, List.getElem?_cons_zero, List.getElem?_cons_succ, List.set_cons_zero, List.set_cons_succ, List.length_cons, List.length_nil, List.length_append, List.length_map, List.replicate_succ, List.replicate_zero, List.cons_append, List.nil_append, List.append_nil, Nat.reduceAdd, Nat.reduceSub, Nat.reduceLT, Nat.reduceLeDiff, Nat.reduceEqDiff, Nat.zero_add, dAdd_int, dMul_int, fI0_int, fB0_int, fI_int, dEq_int, dNe_int, dEq_str, dNe_str, dEq_bl, dBool_bl, dTru_bl, dNeg_int, dToInt_int, dToInt_bl, dLen_tup, dLen_lst, dMin2_int, dMulT_int, dToTup_lst, dToTup_tup, dToLst_lst, dToLst_tup, dats_nil, dats_cons, dIx_tup, dIx_lst, atI0, atI1, atI2, atI3, atI4, atI5, dInt_int, Option.map_some, Option.map_none, Option.bind_some, if_true, if_false, ite_true, ite_false, Bool.false_eq_true, Bool.true_eq_false, reduceIte, Bool.not_true, Bool.not_false, isi_int_int, isi_int_bool, isi_int_str, isi_int_tuple, isi_bool_int, isi_bool_bool, isi_bool_str, isi_bool_tuple, isi_str_int, isi_str_bool, isi_str_str, isi_str_tuple, isi_tup_int, isi_tup_bool, isi_tup_str, isi_tup_tuple, isi_lst_int, isi_lst_bool, isi_lst_str, isi_lst_tuple, isi_none_int, isi_none_bool, isi_none_str, isi_none_tuple, Int.cast_ofNat_Int, decide_true, decide_false, decide_eq_true_eq, not_true_eq_false, not_false_eq_true, Int.reduceEq, Int.reduceNe, Int.reduceLE, Int.reduceLT, Int.reduceAdd, Int.reduceSub, Int.reduceMul, Int.reduceNeg, ite_self, dMax2_int, dInR_int, gInR]
    by_cases n2 : other = 0
    · have n2' : (other = 0) = True := eq_true n2
      simp only [ta__law_lcm_right_1, ta__law_lcm_right_0, lE, n1, n2', gFn, gSeq, gIf, gSet, gSetO, gfCat, gfDisp, gBin, gCall, gApp, gaNil, gaCons, gaCup, gC_eq, gVar_un, gDisp, gSlice, gPart, gNoPart, gTru, gBool, gChain, gAnd, gOr, gNot, gAndV, gOrV, gNotV, gIfE, gUn, gCupF_un, gCupT_un, gCupSet, gRet, gAsg, gPar, gPar3, gDrop, gRaise, gSkip, gIsi, gFor, giTup, giLst, giArg, gLc, gL, gFrz, gApd, gYes, gAll, ggName, ggTup, ggCons, ggNil, wipeE, dLst, dTup, gForL_nil, gForL_cons, gLcL_nil, gLcL_cons, dZip_tup, dZip_lst, zipD_cc, zipD_nil, cutD_1, dCut_tup, dCut_lst, dAbs_ab, dAdd_tup, dAdd_lst, Rs.bind_ok, Rs.bind_exc, Rs.bind_stuck, Rs.ofO_some, Rs.nox_ok, List.getElem?_cons_zero, List.getElem?_cons_succ, List.set_cons_zero, List.set_cons_succ, List.length_cons, List.length_nil, List.length_append, List.length_map, List.replicate_succ, List.replicate_zero, List.cons_append, List.nil_append, List.append_nil, Nat.reduceAdd, Nat.reduceSub, Nat.reduceLT, Nat.reduceLeDiff, Nat.reduceEqDiff, Nat.zero_add, dAdd_int, dMul_int, fI0_int, fB0_int, fI_int, dEq_int, dNe_int, dEq_str, dNe_str, dEq_bl, dBool_bl, dTru_bl, dNeg_int, dToInt_int, dToInt_bl, dLen_tup, dLen_lst, dMin2_int, dMulT_int, dToTup_lst, dToTup_tup, dToLst_lst, dToLst_tup, dats_nil, dats_cons, dIx_tup, dIx_lst, atI0, atI1, atI2, atI3, atI4, atI5, dInt_int, Option.map_some, Option.map_none, Option.bind_some, if_true, if_false, ite_true, ite_false, Bool.false_eq_true, Bool.true_eq_false, reduceIte, Bool.not_true, Bool.not_false, isi_int_int, isi_int_bool, isi_int_str, isi_int_tuple, isi_bool_int, isi_bool_bool, isi_bool_str, isi_bool_tuple, isi_str_int, isi_str_bool, isi_str_str, isi_str_tuple, isi_tup_int, isi_tup_bool, isi_tup_str, isi_tup_tuple, isi_lst_int, isi_lst_bool, isi_lst_str, isi_lst_tuple, isi_none_int, isi_none_bool, isi_none_str, isi_none_tuple, Int.cast_ofNat_Int, decide_true, decide_false, decide_eq_true_eq, not_true_eq_false, not_false_eq_true, Int.reduceEq, Int.reduceNe, Int.reduceLE, Int.reduceLT, Int.reduceAdd, Int.reduceSub, Int.reduceMul, Int.reduceNeg, ite_self, dMax2_int, dInR_int, gInR]
    by_cases n3 : ab (one * other) < 150
    · have hsm := l_small (cu := c2) (m := m) (D := D) (P := pt5 m s t u v) (x6 := .dat (.int (k - 2))) (x7 := .dat (.list O2)) n1 n2
      have hm := l_min L n1 n2 n3
      simp only [lE, pt5, lstI] at hsm hm ⊢
      simp only [ta__law_lcm_right_1, ta__law_lcm_right_0, gSeq, gIf, gAnd, gBool, gBin, gL, hsm, hm, n1, n2, n3, y6, gCall, gaCons, gaNil, gC_eq, gVar_un, List.getElem?_cons_succ, List.getElem?_cons_zero, Rs.bind_ok, Rs.ofO_some, dats_cons, dats_nil, Option.map_some, Option.bind_some, dAbs_ab, dMul_int, fB0_int, decide_true, decide_false, Bool.not_false, dBool_bl, if_true, dIx_tup, atI0, dNe_int, Bool.not_true, Bool.false_eq_true, if_false, gSkip, gRet]
    · simp only [ta__law_lcm_right_1, ta__law_lcm_right_0, lE, n1, n2, n3, y6, gFn, gSeq, gIf, gSet, gSetO, gfCat, gfDisp, gBin, gCall, gApp, gaNil, gaCons, gaCup, gC_eq, gVar_un, gDisp, gSlice, gPart, gNoPart, gTru, gBool, gChain, gAnd, gOr, gNot, gAndV, gOrV, gNotV, gIfE, gUn, gCupF_un, gCupT_un, gCupSet, gRet, gAsg, gPar, gPar3, gDrop, gRaise, gSkip, gIsi, gFor, giTup, giLst, giArg, gLc, gL, gFrz, gApd, gYes, gAll, ggName, ggTup, ggCons, ggNil, wipeE, dLst, dTup, gForL_nil, gForL_cons, gLcL_nil, gLcL_cons, dZip_tup, dZip_lst, zipD_cc, zipD_nil, cutD_1, dCut_tup, dCut_lst, dAbs_ab, dAdd_tup, dAdd_lst, Rs.bind_ok, Rs.bind_exc, Rs.bind_stuck, Rs.ofO_some, Rs.nox_ok, List.getElem?_cons_zero, List.getElem?_cons_succ, List.set_cons_zero, List.set_cons_succ, List.length_cons, List.length_nil, List.length_append, List.length_map, List.replicate_succ, List.replicate_zero, List.cons_append, List.nil_append, List.append_nil, Nat.reduceAdd, Nat.reduceSub, Nat.reduceLT, Nat.reduceLeDiff, Nat.reduceEqDiff, Nat.zero_add, dAdd_int, dMul_int, fI0_int, fB0_int, fI_int, dEq_int, dNe_int, dEq_str, dNe_str, dEq_bl, dBool_bl, dTru_bl, dNeg_int, dToInt_int, dToInt_bl, dLen_tup, dLen_lst, dMin2_int, dMulT_int, dToTup_lst, dToTup_tup, dToLst_lst, dToLst_tup, dats_nil, dats_cons, dIx_tup, dIx_lst, atI0, atI1, atI2, atI3, atI4, atI5, dInt_int, Option.map_some, Option.map_none, Option.bind_some, if_true, if_false, ite_true, ite_false, Bool.false_eq_true, Bool.true_eq_false, reduceIte, Bool.not_true, Bool.not_false, isi_int_int, isi_int_bool, isi_int_str, isi_int_tuple, isi_bool_int, isi_bool_bool, isi_bool_str, isi_bool_tuple, isi_str_int, isi_str_bool, isi_str_str, isi_str_tuple, isi_tup_int, isi_tup_bool, isi_tup_str, isi_tup_tuple, isi_lst_int, isi_lst_bool, isi_lst_str, isi_lst_tuple, isi_none_int, isi_none_bool, isi_none_str, isi_none_tuple, Int.cast_ofNat_Int, decide_true, decide_false, decide_eq_true_eq, not_true_eq_false, not_false_eq_true, Int.reduceEq, Int.reduceNe, Int.reduceLE, Int.reduceLT, Int.reduceAdd, Int.reduceSub, Int.reduceMul, Int.reduceNeg, ite_self, dMax2_int, dInR_int, gInR]
  have e2 : ta__law_lcm_right_2 (lE one other D m (pt5 m s t u v) (.dat (.int (k - 2))) (.dat (.list O2))) c2 = .ok (.ret (.bool true)) c2 := by
    simp only [lE, pt5, O2] at ht e1 ⊢
    simp only [ta__law_lcm_right_2, gSeq, gIf, gBool, gBin, gL, ht, gDisp, gaNil, eqL_nil', Rs.bind_ok, Rs.ofO_some, dats_nil, Option.bind_some, List.length_nil, Nat.zero_le, if_true, dBool_bl, Bool.false_eq_true, if_false, gSkip, e1]
  have e6 : ta__law_lcm_right_6 (lE one other D m (pt5 m s t u v) .un .un) cu = .ok (.ret (.bool true)) c2 := by
    have cq : cutD [PyData.int m, .int s, .int t, .int u, .int v] none (some 3) = [.int m, .int s, .int t] := rfl
    simp only [lE, pt5, O1, O2] at eq e2 hi hj ⊢
    simp only [ta__law_lcm_right_6, ta__law_lcm_right_5, ta__law_lcm_right_4, ta__law_lcm_right_3, hi, hj, er, y1, y2, y3, y4, y5, cq, cut5_b3, rng3, eq, e2, gFn, gSeq, gIf, gSet, gSetO, gfCat, gfDisp, gBin, gCall, gApp, gaNil, gaCons, gaCup, gC_eq, gVar_un, gDisp, gSlice, gPart, gNoPart, gTru, gBool, gChain, gAnd, gOr, gNot, gAndV, gOrV, gNotV, gIfE, gUn, gCupF_un, gCupT_un, gCupSet, gRet, gAsg, gPar, gPar3, gDrop, gRaise, gSkip, gIsi, gFor, giTup, giLst, giArg, gLc, gL, gFrz, gApd, gYes, gAll, ggName, ggTup, ggCons, ggNil, wipeE, dLst, dTup, gForL_nil, gForL_cons, dZip_tup, dZip_lst, zipD_cc, zipD_nil, cutD_1, dCut_tup, dCut_lst, dAbs_ab, dAdd_tup, dAdd_lst, Rs.bind_ok, Rs.bind_exc, Rs.bind_stuck, Rs.ofO_some, Rs.nox_ok, List.getElem?_cons_zero, List.getElem?_cons_succ, List.set_cons_zero, List.set_cons_succ, List.length_cons, List.length_nil, List.length_append, List.length_map, List.replicate_succ, List.replicate_zero, List.cons_append, List.nil_append, List.append_nil, Nat.reduceAdd, Nat.reduceSub, Nat.reduceLT, Nat.reduceLeDiff, Nat.reduceEqDiff, Nat.zero_add, dAdd_int, dMul_int, fI0_int, fB0_int, fI_int, dEq_int, dNe_int, dEq_str, dNe_str, dEq_bl, dBool_bl, dTru_bl, dNeg_int, dToInt_int, dToInt_bl, dLen_tup, dLen_lst, dMin2_int, dMulT_int, dToTup_lst, dToTup_tup, dToLst_lst, dToLst_tup, dats_nil, dats_cons, dIx_tup, dIx_lst, atI0, atI1, atI2, atI3, atI4, atI5, dInt_int, Option.map_some, Option.map_none, Option.bind_some, if_true, if_false, ite_true, ite_false, Bool.false_eq_true, Bool.true_eq_false, reduceIte, Bool.not_true, Bool.not_false, isi_int_int, isi_int_bool, isi_int_str, isi_int_tuple, isi_bool_int, isi_bool_bool, isi_bool_str, isi_bool_tuple, isi_str_int, isi_str_bool, isi_str_str, isi_str_tuple, isi_tup_int, isi_tup_bool, isi_tup_str, isi_tup_tuple, isi_lst_int, isi_lst_bool, isi_lst_str, isi_lst_tuple, isi_none_int, isi_none_bool, isi_none_str, isi_none_tuple, Int.cast_ofNat_Int, decide_true, decide_false, decide_eq_true_eq, not_true_eq_false, not_false_eq_true, Int.reduceEq, Int.reduceNe, Int.reduceLE, Int.reduceLT, Int.reduceAdd, Int.reduceSub, Int.reduceMul, Int.reduceNeg, ite_self, dMax2_int, dInR_int, gInR]
  refine ⟨c2, ?_⟩
  have hdue : (if 0 < D then (ab (one * other)).fdiv D else 0) = m := L.due
  simp only [lE, pt5] at e6 e
  have oD : D.natAbs < 2 ^ 340 := gcd_b h1.b h2.b
  by_cases cD : 0 < D
  · have o1 : divOk (ab (one * other)) D = true := divOk_b (by omega) oD (by decide) (by decide)
    rw [if_pos cD] at hdue
    have hcD : G__law_common [.dat (.int one), .dat (.int other)] cu = .ok (.int D) cu := hc
    simp only [G__law_lcm_right, g__law_lcm_right, ta__law_lcm_right_7, hcD, cD, y6, o1, hdue, e, e6, gFn, gSeq, gIf, gSet, gSetO, gfCat, gfDisp, gBin, gCall, gApp, gaNil, gaCons, gaCup, gC_eq, gVar_un, gDisp, gSlice, gPart, gNoPart, gTru, gBool, gChain, gAnd, gOr, gNot, gAndV, gOrV, gNotV, gIfE, gUn, gCupF_un, gCupT_un, gCupSet, gRet, gAsg, gPar, gPar3, gDrop, gRaise, gSkip, gIsi, gFor, giTup, giLst, giArg, gLc, gL, gFrz, gApd, gYes, gAll, ggName, ggTup, ggCons, ggNil, wipeE, dLst, dTup, gForL_nil, gForL_cons, gLcL_nil, gLcL_cons, dZip_tup, dZip_lst, zipD_cc, zipD_nil, cutD_1, dCut_tup, dCut_lst, dAbs_ab, dAdd_tup, dAdd_lst, Rs.bind_ok, Rs.bind_exc, Rs.bind_stuck, Rs.ofO_some, Rs.nox_ok, List.getElem?_cons_zero, List.getElem?_cons_succ, List.set_cons_zero, List.set_cons_succ, List.length_cons, List.length_nil, List.length_append, List.length_map, List.replicate_succ, List.replicate_zero, List.cons_append, List.nil_append, List.append_nil, Nat.reduceAdd, Nat.reduceSub, Nat.reduceLT, Nat.reduceLeDiff, Nat.reduceEqDiff, Nat.zero_add, dAdd_int, dMul_int, fI0_int, fB0_int, fI_int, dEq_int, dNe_int, dEq_str, dNe_str, dEq_bl, dBool_bl, dTru_bl, dNeg_int, dToInt_int, dToInt_bl, dLen_tup, dLen_lst, dMin2_int, dMulT_int, dToTup_lst, dToTup_tup, dToLst_lst, dToLst_tup, dats_nil, dats_cons, dIx_tup, dIx_lst, atI0, atI1, atI2, atI3, atI4, atI5, dInt_int, Option.map_some, Option.map_none, Option.bind_some, if_true, if_false, ite_true, ite_false, Bool.false_eq_true, Bool.true_eq_false, reduceIte, Bool.not_true, Bool.not_false, isi_int_int, isi_int_bool, isi_int_str, isi_int_tuple, isi_bool_int, isi_bool_bool, isi_bool_str, isi_bool_tuple, isi_str_int, isi_str_bool, isi_str_str, isi_str_tuple, isi_tup_int, isi_tup_bool, isi_tup_str, isi_tup_tuple, isi_lst_int, isi_lst_bool, isi_lst_str, isi_lst_tuple, isi_none_int, isi_none_bool, isi_none_str, isi_none_tuple, Int.cast_ofNat_Int, decide_true, decide_false, decide_eq_true_eq, not_true_eq_false, not_false_eq_true, Int.reduceEq, Int.reduceNe, Int.reduceLE, Int.reduceLT, Int.reduceAdd, Int.reduceSub, Int.reduceMul, Int.reduceNeg, ite_self, dMax2_int, dInR_int, gInR]
  · rw [if_neg cD] at hdue
    subst hdue
    have hcD : G__law_common [.dat (.int one), .dat (.int other)] cu = .ok (.int D) cu := hc
    simp only [G__law_lcm_right, g__law_lcm_right, ta__law_lcm_right_7, hcD, cD, e, e6, gFn, gSeq, gIf, gSet, gSetO, gfCat, gfDisp, gBin, gCall, gApp, gaNil, gaCons, gaCup, gC_eq, gVar_un, gDisp, gSlice, gPart, gNoPart, gTru, gBool, gChain, gAnd, gOr, gNot, gAndV, gOrV, gNotV, gIfE, gUn, gCupF_un, gCupT_un, gCupSet, gRet, gAsg, gPar, gPar3, gDrop, gRaise, gSkip, gIsi, gFor, giTup, giLst, giArg, gLc, gL, gFrz, gApd, gYes, gAll, ggName, ggTup, ggCons, ggNil, wipeE, dLst, dTup, gForL_nil, gForL_cons, gLcL_nil, gLcL_cons, dZip_tup, dZip_lst, zipD_cc, zipD_nil, cutD_1, dCut_tup, dCut_lst, dAbs_ab, dAdd_tup, dAdd_lst, Rs.bind_ok, Rs.bind_exc, Rs.bind_stuck, Rs.ofO_some, Rs.nox_ok, List.getElem?_cons_zero, List.getElem?_cons_succ, List.set_cons_zero, List.set_cons_succ, List.length_cons, List.length_nil, List.length_append, List.length_map, List.replicate_succ, List.replicate_zero, List.cons_append, List.nil_append, List.append_nil, Nat.reduceAdd, Nat.reduceSub, Nat.reduceLT, Nat.reduceLeDiff, Nat.reduceEqDiff, Nat.zero_add, dAdd_int, dMul_int, fI0_int, fB0_int, fI_int, dEq_int, dNe_int, dEq_str, dNe_str, dEq_bl, dBool_bl, dTru_bl, dNeg_int, dToInt_int, dToInt_bl, dLen_tup, dLen_lst, dMin2_int, dMulT_int, dToTup_lst, dToTup_tup, dToLst_lst, dToLst_tup, dats_nil, dats_cons, dIx_tup, dIx_lst, atI0, atI1, atI2, atI3, atI4, atI5, dInt_int, Option.map_some, Option.map_none, Option.bind_some, if_true, if_false, ite_true, ite_false, Bool.false_eq_true, Bool.true_eq_false, reduceIte, Bool.not_true, Bool.not_false, isi_int_int, isi_int_bool, isi_int_str, isi_int_tuple, isi_bool_int, isi_bool_bool, isi_bool_str, isi_bool_tuple, isi_str_int, isi_str_bool, isi_str_str, isi_str_tuple, isi_tup_int, isi_tup_bool, isi_tup_str, isi_tup_tuple, isi_lst_int, isi_lst_bool, isi_lst_str, isi_lst_tuple, isi_none_int, isi_none_bool, isi_none_str, isi_none_tuple, Int.cast_ofNat_Int, decide_true, decide_false, decide_eq_true_eq, not_true_eq_false, not_false_eq_true, Int.reduceEq, Int.reduceNe, Int.reduceLE, Int.reduceLT, Int.reduceAdd, Int.reduceSub, Int.reduceMul, Int.reduceNeg, ite_self, dMax2_int, dInR_int, gInR]
end
end Prog

set_option Elab.async false
set_option linter.all false
set_option maxRecDepth 100000
set_option maxHeartbeats 4000000
set_option autoImplicit false
set_option exponentiation.threshold 4000
namespace Prog
open PySem PySem.Spec L2 DL
def gfold (c : Int) (ns : List Int) : Int := ns.foldl (fun c n => ((Int.gcd c n : Nat) : Int)) c
def dotI (xs ys : List Int) : Int := ((List.zip xs ys).map fun p => p.1 * p.2).sum
theorem dot_nil {ys : List Int} : dotI [] ys = 0 := by unfold dotI; rw [List.zip_nil_left]; rfl
theorem dot_cons {x y : Int} {xs ys : List Int} : dotI (x :: xs) (y :: ys) = x * y + dotI xs ys := by
  unfold dotI; rw [List.zip_cons_cons, List.map_cons, List.sum_cons]
theorem dot_comm : ∀ {xs ys : List Int}, dotI xs ys = dotI ys xs
  | [], ys => by rw [dot_nil]; unfold dotI; rw [List.zip_nil_right]; rfl
  | x :: xs, [] => by rw [dot_nil]; unfold dotI; rw [List.zip_nil_right]; rfl
  | x :: xs, y :: ys => by rw [dot_cons, dot_cons, dot_comm, Int.mul_comm]
theorem dot_app : ∀ {xs ys : List Int} {x y : Int}, xs.length = ys.length → dotI (xs ++ [x]) (ys ++ [y]) = dotI xs ys + x * y
  | [], [], x, y, _ => by
    show dotI [x] [y] = _
    rw [dot_cons, dot_nil]; omega
  | a :: xs, b :: ys, x, y, h => by
    rw [List.cons_append, List.cons_append, dot_cons, dot_cons, dot_app (Nat.succ.inj h)]; omega
theorem dot_mul : ∀ {xs ys : List Int} {k : Int}, dotI (xs.map (· * k)) ys = k * dotI xs ys
  | [], ys, k => by rw [List.map_nil, dot_nil]; omega
  | x :: xs, [], k => by
    unfold dotI; rw [List.zip_nil_right, List.zip_nil_right]
    show (0 : Int) = k * 0
    omega
  | x :: xs, y :: ys, k => by
    rw [List.map_cons, dot_cons, dot_cons, dot_mul]; grind
theorem gfold_dvd : ∀ {ns : List Int} {c : Int}, gfold c ns ∣ c ∧ ∀ n ∈ ns, gfold c ns ∣ n
  | [], c => ⟨Int.dvd_refl c, fun n h => nomatch h⟩
  | m :: r, c => by
    obtain ⟨h1, h2⟩ := gfold_dvd (ns := r) (c := ((Int.gcd c m : Nat) : Int))
    refine ⟨Int.dvd_trans h1 (Int.gcd_dvd_left ..), fun n hn => ?_⟩
    rcases List.mem_cons.mp hn with rfl | hn
    · exact Int.dvd_trans h1 (Int.gcd_dvd_right ..)
    · exact h2 n hn
structure RowR (ns : List Int) : Prop where
  lo : 1 ≤ ns.length
  hi : ns.length ≤ 6
  rg : ∀ n ∈ ns, Rg n
abbrev rowP (d : Int) (ms qs : List Int) : PyData := .tuple [.int d, tupI ms, tupI qs]
theorem rg_gcd {a b : Int} (ha : Rg a) (hb : Rg b) : Rg ((Int.gcd a b : Nat) : Int) := by
  have h0 : (0 : Int) ≤ Big := by decide
  by_cases z : a = 0
  · subst z
    rw [Int.gcd_zero_left]
    obtain ⟨h1, h2⟩ := hb
    exact ⟨by omega, by omega⟩
  · have := Int.gcd_le_natAbs_left b z
    obtain ⟨h1, h2⟩ := ha
    exact ⟨by omega, by omega⟩
section
variable {cu : Cu} {ns ms qs : List Int}
theorem e_need_row (R : RowR ns) : G_need_integer_row [.dat (tupI ns)] cu = .ok .none cu := by
  have loop : ∀ (l : List Int) (y : Sl), (∀ n ∈ l, Rg n) → ∃ y', gForL (ggName 1) fb_need_integer_row_0 (l.map .int) [.dat (tupI ns), y] cu = .ok (.nx [.dat (tupI ns), y']) cu := by
    intro l
    induction l with
    | nil => exact fun y _ => ⟨y, rfl⟩
    | cons n r ih =>
      intro y h
      obtain ⟨y', e⟩ := ih (.dat (.int n)) fun m hm => h m (List.mem_cons_of_mem _ hm)
      obtain ⟨r1, r2⟩ := h n (List.mem_cons_self ..)
      refine ⟨y', ?_⟩
      have ei := e_is_integer_in (cu := cu) (i := n) (a := -(10 ^ 50 * 10 ^ 50)) (b := 10 ^ 50 * 10 ^ 50)
      have hr : (-(10 ^ 50 * 10 ^ 50) ≤ n ∧ n ≤ 10 ^ 50 * 10 ^ 50) = True := eq_true ⟨r1, r2⟩
      rw [List.map_cons, gForL_cons]
      show ((Rs.ok ([.dat (tupI ns), .dat (.int n)] : En) cu).bind _) = _
      have ef : fb_need_integer_row_0 [.dat (tupI ns), .dat (.int n)] cu = .ok (.nx [.dat (tupI ns), .dat (.int n)]) cu := by
        simp only [fb_need_integer_row_0, ei, hr, gFn, gSeq, gIf, gSet, gSetO, gfCat, gfDisp, gBin, gCall, gApp, gaNil, gaCons, gaCup, gC_eq, gVar_un, gDisp, gSlice, gPart, gNoPart, gTru, gBool, gChain, gAnd, gOr, gNot, gAndV, gOrV, gNotV, gIfE, gUn, gCupF_un, gCupT_un, gCupSet, gRet, gAsg, gPar, gPar3, gDrop, gRaise, gSkip, gIsi, gFor, giTup, giLst, giArg, gLc, gL, gFrz, gApd, gYes, gAll, ggName, ggTup, ggCons, ggNil, wipeE, dLst, dTup, gForL_nil, gForL_cons, gLcL_nil, gLcL_cons, dZip_tup, dZip_lst, zipD_cc, zipD_nil, cutD_1, dCut_tup, dCut_lst, dAbs_ab, dAdd_tup, dAdd_lst, Rs.bind_ok, Rs.bind_exc, Rs.bind_stuck, Rs.ofO_some, Rs.nox_ok, List.getElem?_cons_zero, List.getElem?_cons_succ, List.set_cons_zero, List.set_cons_succ, List.length_cons, List.length_nil, List.length_append, List.length_map, List.replicate_succ, List.replicate_zero, List.cons_append, List.nil_append, List.append_nil, Nat.reduceAdd, Nat.reduceSub, Nat.reduceLT, Nat.reduceLeDiff, Nat.reduceEqDiff, Nat.zero_add, dAdd_int, dMul_int, fI0_int, fB0_int, fI_int, dEq_int, dNe_int, dEq_str, dNe_str, dEq_bl, dBool_bl, dTru_bl, dNeg_int, dToInt_int, dToInt_bl, dLen_tup, dLen_lst, dMin2_int, dMulT_int, dToTup_lst, dToTup_tup, dToLst_lst, dToLst_tup, dats_nil, dats_cons, dIx_tup, dIx_lst, atI0, atI1, atI2, atI3, atI4, atI5, dInt_int, Option.map_some, Option.map_none, Option.bind_some, if_true, if_false, ite_true, ite_false, Bool.false_eq_true, Bool.true_eq_false, reduceIte, Bool.not_true, Bool.not_false, isi_int_int, isi_int_bool, isi_int_str, isi_int_tuple, isi_bool_int, isi_bool_bool, isi_bool_str, isi_bool_tuple, isi_str_int, isi_str_bool, isi_str_str, isi_str_tuple, isi_tup_int, isi_tup_bool, isi_tup_str, isi_tup_tuple, isi_lst_int, isi_lst_bool, isi_lst_str, isi_lst_tuple, isi_none_int, isi_none_bool, isi_none_str, isi_none_tuple, Int.cast_ofNat_Int, decide_true, decide_false, decide_eq_true_eq, not_true_eq_false, not_false_eq_true, Int.reduceEq, Int.reduceNe, Int.reduceLE, Int.reduceLT, Int.reduceAdd, Int.reduceSub, Int.reduceMul, Int.reduceNeg, ite_self, dMax2_int, dInR_int, gInR]
      rw [Rs.bind_ok, ef, Rs.bind_ok]
      exact e
  obtain ⟨y', e⟩ := loop ns .un R.rg
  have l1 : (1 ≤ (ns.length : Int)) = True := eq_true (by have := R.lo; omega)
  have l2 : ((ns.length : Int) ≤ 6) = True := eq_true (by have := R.hi; omega)
  simp only [G_need_integer_row, g_need_integer_row, List.length_map, l1, l2, e, gFn, gSeq, gIf, gSet, gSetO, gfCat, gfDisp, gBin, gCall, gApp, gaNil, gaCons, gaCup, gC_eq, gVar_un, gDisp, gSlice, gPart, gNoPart, gTru, gBool, gChain, gAnd, gOr, gNot, gAndV, gOrV, gNotV, gIfE, gUn, gCupF_un, gCupT_un, gCupSet, gRet, gAsg, gPar, gPar3, gDrop, gRaise, gSkip, gIsi, gFor, giTup, giLst, giArg, gLc, gL, gFrz, gApd, gYes, gAll, ggName, ggTup, ggCons, ggNil, wipeE, dLst, dTup, gForL_nil, gForL_cons, gLcL_nil, gLcL_cons, dZip_tup, dZip_lst, zipD_cc, zipD_nil, cutD_1, dCut_tup, dCut_lst, dAbs_ab, dAdd_tup, dAdd_lst, Rs.bind_ok, Rs.bind_exc, Rs.bind_stuck, Rs.ofO_some, Rs.nox_ok, List.getElem?_cons_zero, List.getElem?_cons_succ, List.set_cons_zero, List.set_cons_succ, List.length_cons, List.length_nil, List.length_append, List.length_map, List.replicate_succ, List.replicate_zero, List.cons_append, List.nil_append, List.append_nil, Nat.reduceAdd, Nat.reduceSub, Nat.reduceLT, Nat.reduceLeDiff, Nat.reduceEqDiff, Nat.zero_add, dAdd_int, dMul_int, fI0_int, fB0_int, fI_int, dEq_int, dNe_int, dEq_str, dNe_str, dEq_bl, dBool_bl, dTru_bl, dNeg_int, dToInt_int, dToInt_bl, dLen_tup, dLen_lst, dMin2_int, dMulT_int, dToTup_lst, dToTup_tup, dToLst_lst, dToLst_tup, dats_nil, dats_cons, dIx_tup, dIx_lst, atI0, atI1, atI2, atI3, atI4, atI5, dInt_int, Option.map_some, Option.map_none, Option.bind_some, if_true, if_false, ite_true, ite_false, Bool.false_eq_true, Bool.true_eq_false, reduceIte, Bool.not_true, Bool.not_false, isi_int_int, isi_int_bool, isi_int_str, isi_int_tuple, isi_bool_int, isi_bool_bool, isi_bool_str, isi_bool_tuple, isi_str_int, isi_str_bool, isi_str_str, isi_str_tuple, isi_tup_int, isi_tup_bool, isi_tup_str, isi_tup_tuple, isi_lst_int, isi_lst_bool, isi_lst_str, isi_lst_tuple, isi_none_int, isi_none_bool, isi_none_str, isi_none_tuple, Int.cast_ofNat_Int, decide_true, decide_false, decide_eq_true_eq, not_true_eq_false, not_false_eq_true, Int.reduceEq, Int.reduceNe, Int.reduceLE, Int.reduceLT, Int.reduceAdd, Int.reduceSub, Int.reduceMul, Int.reduceNeg, ite_self, dMax2_int, dInR_int, gInR]
/-! the greatest divisor of a row -/
abbrev rE (P : PyData) (c : Int) (ms : List Int) (y z w v : Sl) : En := [.dat P, .dat (.int c), .dat (lstI ms), y, z, w, v, .un]
theorem e_mul_list {P : PyData} {c b1 b2 : Int} {y z : Sl} (hb : Sm b1) (hl : ms.length < 1000) (hm : ∀ m ∈ ms, Sm m) :
    gLc (giLst (gVar 2)) [7] (ggName 7) gYes le_gcd_row_of_0 (rE P c ms y z (.dat (.int b1)) (.dat (.int b2))) cu = .ok ((ms.map (· * b1)).map PyData.int) cu := by
  have zz := gLcL_map (gg := ggName 7) (ge := le_gcd_row_of_0) (cu := cu) (ρ := rE P c ms y z (.dat (.int b1)) (.dat (.int b2))) (ds := ms.map .int) (fun d => match d with | .int i => .int (i * b1) | d => d) fun d hd => by
    obtain ⟨m, hm', rfl⟩ := List.mem_map.mp hd
    have o := mulOk_sm (hm m hm') hb
    refine ⟨_, rfl, ?_⟩
    simp only [rE, o, gFn, gSeq, gIf, gSet, gSetO, gfCat, gfDisp, gBin, gCall, gApp, gaNil, gaCons, gaCup, gC_eq, gVar_un, gDisp, gSlice, gPart, gNoPart, gTru, gBool, gChain, gAnd, gOr, gNot, gAndV, gOrV, gNotV, gIfE, gUn, gCupF_un, gCupT_un, gCupSet, gRet, gAsg, gPar, gPar3, gDrop, gRaise, gSkip, gIsi, gFor, giTup, giLst, giArg, gLc, gL, gFrz, gApd, gYes, gAll, ggName, ggTup, ggCons, ggNil, wipeE, dLst, dTup, gForL_nil, gForL_cons, gLcL_nil, gLcL_cons, dZip_tup, dZip_lst, zipD_cc, zipD_nil, cutD_1, dCut_tup, dCut_lst, dAbs_ab, dAdd_tup, dAdd_lst, Rs.bind_ok, Rs.bind_exc, Rs.bind_stuck, Rs.ofO_some, Rs.nox_ok, List.getElem?_cons_zero, List.getElem?_cons_succ, List.set_cons_zero, List.set_cons_succ, List.length_cons, List.length_nil, List.length_append, List.length_map, List.replicate_succ, List.replicate_zero, List.cons_append, List.nil_append, List.append_nil, Nat.reduceAdd, Nat.reduceSub, Nat.reduceLT, Nat.reduceLeDiff, Nat.reduceEqDiff, Nat.zero_add, dAdd_int, dMul_int, fI0_int, fB0_int, fI_int, dEq_int, dNe_int, dEq_str, dNe_str, dEq_bl, dBool_bl, dTru_bl, dNeg_int, dToInt_int, dToInt_bl, dLen_tup, dLen_lst, dMin2_int, dMulT_int, dToTup_lst, dToTup_tup, dToLst_lst, dToLst_tup, dats_nil, dats_cons, dIx_tup, dIx_lst, atI0, atI1, atI2, atI3, atI4, atI5, dInt_int, Option.map_some, Option.map_none, Option.bind_some, if_true, if_false, ite_true, ite_false, Bool.false_eq_true, Bool.true_eq_false, reduceIte, Bool.not_true, Bool.not_false, isi_int_int, isi_int_bool, isi_int_str, isi_int_tuple, isi_bool_int, isi_bool_bool, isi_bool_str, isi_bool_tuple, isi_str_int, isi_str_bool, isi_str_str, isi_str_tuple, isi_tup_int, isi_tup_bool, isi_tup_str, isi_tup_tuple, isi_lst_int, isi_lst_bool, isi_lst_str, isi_lst_tuple, isi_none_int, isi_none_bool, isi_none_str, isi_none_tuple, Int.cast_ofNat_Int, decide_true, decide_false, decide_eq_true_eq, not_true_eq_false, not_false_eq_true, Int.reduceEq, Int.reduceNe, Int.reduceLE, Int.reduceLT, Int.reduceAdd, Int.reduceSub, Int.reduceMul, Int.reduceNeg, ite_self, dMax2_int, dInR_int, gInR, le_bezout_0, fb_need_integer_row_0, le_gcd_row_of_0, fb_gcd_row_of_0, ez_gcd_row_of_0, le_shows_gcd_row_0, le_shows_gcd_row_1, le__law_integers_0, lt__law_integers_0, fb__law_integer_0, le__law_is_row_0, le__law_is_row_1, lt__law_is_row_0, le__law_gcd_right_0, lt__law_gcd_right_0, le__law_gcd_right_1, le__law_gcd_right_2, lt__law_gcd_right_1, le__law_lcm_right_0, le__law_lcm_right_1, lt__law_lcm_right_0, le__law_lcm_right_2, lt__law_lcm_right_1, fb__law_row_right_0, le__law_row_right_0, le__law_row_right_1, lt__law_row_right_0, le__law_row_right_2, lt__law_row_right_1, le__law_written_0, lt__law_written_0, le__law_written_1, le__law_written_2]
  have hl' : (ms.map PyData.int).length < 16777216 := by rw [List.length_map]; omega
  simp only [gLc, giLst, gVar_un, rE, List.getElem?_cons_succ, List.getElem?_cons_zero, Rs.bind_ok, dLst, Rs.ofO_some, hl', if_true, wipeE, List.set_cons_succ, List.set_cons_zero]
  simp only [rE] at zz
  rw [zz, List.map_map, List.map_map]
  rfl
theorem e_rloop {P : PyData} : ∀ (rest done ms : List Int) (c : Int) (y z w v : Sl), (∀ n ∈ rest, Rg n) → Rg c → ms.length = done.length → dotI ms done = c → done.length + rest.length ≤ 6 → (∀ m ∈ ms, m.natAbs ≤ Big.natAbs ^ done.length) →
    ∃ (ms' : List Int) (y' w' v' : Sl), ms'.length = done.length + rest.length ∧ dotI ms' (done ++ rest) = gfold c rest ∧ (∀ m ∈ ms', m.natAbs ≤ Big.natAbs ^ (done.length + rest.length)) ∧ Rg (gfold c rest) ∧
      ∀ cu, gForL (ggName 3) fb_gcd_row_of_0 (rest.map .int) (rE P c ms y z w v) cu = .ok (.nx (rE P (gfold c rest) ms' y' z w' v')) cu
  | [], done, ms, c, y, z, w, v, hr, hc, hl, hd, h6, hm => ⟨ms, y, w, v, hl, by rw [List.append_nil]; exact hd, hm, hc, fun cu => rfl⟩
  | n :: rest, done, ms, c, y, z, w, v, hr, hc, hl, hd, h6, hm => by
    have hn := hr n (List.mem_cons_self ..)
    obtain ⟨d, b1, b2, B, e⟩ := e_bezout hc.md hn.md
    have gd : d = Int.gcd c n := B.gc
    have B0 : (1 : Nat) ≤ Big.natAbs := by decide
    have bn : n.natAbs ≤ Big.natAbs := by obtain ⟨h1, h2⟩ := hn; have h0 : (0 : Int) ≤ Big := by decide
                                          omega
    have bc : c.natAbs ≤ Big.natAbs := by obtain ⟨h1, h2⟩ := hc; have h0 : (0 : Int) ≤ Big := by decide
                                          omega
    have a1 := ab_natAbs (a := b1); have a2 := ab_natAbs (a := n); have a3 := ab_natAbs (a := b2); have a4 := ab_natAbs (a := c)
    have n1 := ab_nn (x := b1); have n2 := ab_nn (x := n); have n3 := ab_nn (x := b2); have n4 := ab_nn (x := c)
    have k1 : b1.natAbs ≤ Big.natAbs := by rcases B.bu with k | k <;> omega
    have k2 : b2.natAbs ≤ Big.natAbs := by rcases B.bv with k | k <;> omega
    have six : Big.natAbs ^ 6 < 2 ^ 1998 := by decide
    rw [List.length_cons] at h6
    have smm : ∀ m ∈ ms, Sm m := fun m h => by
      have h1 := hm m h
      have h2 : Big.natAbs ^ done.length ≤ Big.natAbs ^ 6 := Nat.pow_le_pow_right B0 (by omega)
      exact up (n := 1998) (by omega)
    have sb1 : Sm b1 := by
      have : Big.natAbs < 2 ^ 2000 := by decide
      unfold Sm; omega
    obtain ⟨ms', y', w', v', h1, h2, h3, h4, h5⟩ := e_rloop (P := P) rest (done ++ [n]) (ms.map (· * b1) ++ [b2]) d (.dat (.int n)) z (.dat (.int b1)) (.dat (.int b2))
      (fun m h => hr m (List.mem_cons_of_mem _ h)) (by rw [gd]; exact rg_gcd hc hn) (by simp [hl]) (by
        rw [dot_app (by simp [hl]), dot_mul, hd]
        exact B.ee) (by rw [List.length_append]; simp; omega) (fun m h => by
        rw [List.length_append, List.length_cons, List.length_nil, Nat.pow_succ]
        rcases List.mem_append.mp h with h | h
        · obtain ⟨m0, hm0, rfl⟩ := List.mem_map.mp h
          show (m0 * b1).natAbs ≤ _
          rw [Int.natAbs_mul]
          exact Nat.mul_le_mul (hm m0 hm0) k1
        · rw [List.mem_singleton] at h
          subst h
          exact Nat.le_trans k2 (Nat.le_mul_of_pos_left _ (Nat.pow_pos B0)))
    have ll : (done ++ [n]).length + rest.length = done.length + (rest.length + 1) := by rw [List.length_append, List.length_cons, List.length_nil]; omega
    have hg : gfold d rest = gfold c (n :: rest) := by rw [gd]; rfl
    rw [ll] at h1 h3
    rw [hg] at h2 h4 h5
    refine ⟨ms', y', w', v', h1, by rw [List.append_assoc] at h2; exact h2, h3, h4, fun cu => ?_⟩
    have el := e_mul_list (cu := cu) (P := P) (c := d) (b1 := b1) (b2 := b2) (y := .dat (.int n)) (z := z) sb1 (by omega) smm
    have l1 : (ms.map (· * b1)).length + 1 ≤ 16777216 := by rw [List.length_map]; omega
    have ef : fb_gcd_row_of_0 (rE P c ms (.dat (.int n)) z w v) cu = .ok (.nx (rE P d (ms.map (· * b1) ++ [b2]) (.dat (.int n)) z (.dat (.int b1)) (.dat (.int b2)))) cu := by
      have ee := e cu
      simp only [rE, row3] at el ee ⊢
      simp only [fb_gcd_row_of_0, gSeq, gAsg, gApp, gaCons, gaNil, gVar_un, List.getElem?_cons_succ, List.getElem?_cons_zero, Rs.bind_ok, List.length_cons, List.length_nil, Nat.reduceAdd, Nat.zero_add, if_true, ee, ggTup, ggCons, ggNil, ggName, Rs.ofO_some, List.set_cons_succ, List.set_cons_zero, gSet, gBin, gL, el, gDisp, dats_cons, dats_nil, Option.map_some, Option.bind_some, Nat.reduceLeDiff]
      rw [dAdd_lst (by simp only [List.length_map, List.length_cons, List.length_nil]; omega)]
      show Rs.ok _ _ = Rs.ok _ _
      simp only [lstI, List.map_append, List.map_cons, List.map_nil]
    rw [List.map_cons, gForL_cons]
    show ((Rs.ok (rE P c ms (.dat (.int n)) z w v) cu).bind _) = _
    rw [Rs.bind_ok, ef, Rs.bind_ok]
    exact h5 cu
theorem mapO_map {f : PyData → Option Int} {g : Int → Int} : ∀ {l : List Int}, (∀ n ∈ l, f (.int n) = some (g n)) → mapO f (l.map .int) = some (l.map g)
  | [], _ => rfl
  | n :: r, h => by
    rw [List.map_cons, mapO, h n (List.mem_cons_self ..), mapO_map fun m hm => h m (List.mem_cons_of_mem _ hm)]
    rfl
def quo (c n : Int) : Int := if c ≠ 0 then n.fdiv c else 0
theorem quo_mul {c n : Int} (h : c ∣ n) : quo c n * c = n := by
  unfold quo
  by_cases z : c = 0
  · subst z
    rw [if_neg (fun h => h rfl)]
    obtain ⟨k, rfl⟩ := h
    omega
  · rw [if_pos z, fdiv_ex z h]
theorem quo_sm {c n : Int} (h : c ∣ n) (hn : Rg n) : (quo c n).natAbs < 2 ^ 340 := by
  by_cases z : c = 0
  · unfold quo; rw [if_neg (fun h => h z)]; decide
  · exact Nat.lt_of_le_of_lt (le_of_mul z (quo_mul h)) hn.b
/-- what a paper of a row says -/
structure Rp1 (ns : List Int) (d : Int) (ms qs : List Int) : Prop where
  gd : d = gfold 0 ns
  rg : Rg d
  nn : 0 ≤ d
  lm : ms.length = ns.length
  lq : qs.length = ns.length
  dot : dotI ms ns = d
  quo : qs = ns.map (Prog.quo d)
  hm : ∀ m ∈ ms, Hf m
  hq : ∀ q ∈ qs, Hf q
theorem gfold_nn {c : Int} (h : 0 ≤ c) : ∀ {ns : List Int}, 0 ≤ gfold c ns := by
  intro ns
  induction ns generalizing c with
  | nil => exact h
  | cons n r ih => exact ih (show 0 ≤ ((Int.gcd c n : Nat) : Int) by omega)
theorem e_row_paper (R : RowR ns) : ∃ d ms qs, Rp1 ns d ms qs ∧ ∀ cu, G_gcd_row_paper [.dat (tupI ns)] cu = .ok (rowP d ms qs) cu := by
  obtain ⟨ms, y', w', v', h1, h2, h3, h4, h5⟩ := e_rloop (P := tupI ns) ns [] [] 0 .un .un .un .un R.rg ⟨by decide, by decide⟩ rfl dot_nil (by have := R.hi; simp; omega) (fun m h => nomatch h)
  rw [List.length_nil, Nat.zero_add] at h1 h3
  rw [List.nil_append] at h2
  have hd := (gfold_dvd (ns := ns) (c := 0)).2
  have B0 : (1 : Nat) ≤ Big.natAbs := by decide
  have six : Big.natAbs ^ 6 < 2 ^ 1998 := by decide
  refine ⟨gfold 0 ns, ms, ns.map (Prog.quo (gfold 0 ns)), ⟨rfl, h4, gfold_nn (by decide), h1, by rw [List.length_map], h2, rfl, fun m h => ?_, fun q h => ?_⟩, fun cu => ?_⟩
  · have k1 := h3 m h
    have k2 : Big.natAbs ^ ns.length ≤ Big.natAbs ^ 6 := Nat.pow_le_pow_right B0 R.hi
    unfold Hf; omega
  · obtain ⟨n, hn, rfl⟩ := List.mem_map.mp h
    exact Hf.of (quo_sm (hd n hn) (R.rg n hn))
  · have hn := e_need_row (cu := cu) R
    have e5 := h5 cu
    have hz : ∀ x3 x4 x5 x6 x7 : Sl, mapO (ez_gcd_row_of_0 [.dat (tupI ns), .dat (.int (gfold 0 ns)), .dat (lstI ms), x3, x4, x5, x6, x7]) (ns.map .int) = some (ns.map (Prog.quo (gfold 0 ns))) := fun x3 x4 x5 x6 x7 => by
      refine mapO_map fun n hn => ?_
      have ea : atZ 1 [Sl.dat (tupI ns), .dat (.int (gfold 0 ns)), .dat (lstI ms), x3, x4, x5, x6, x7] = some (gfold 0 ns) := rfl
      unfold ez_gcd_row_of_0 Prog.quo
      simp only [ea, Option.bind_some, dInt]
      by_cases z : gfold 0 ns = 0
      · have z' : ¬ (gfold 0 ns ≠ 0) := fun h => h z
        rw [if_neg z', if_neg z']
      · rw [if_pos z, if_pos z, if_pos (divOk_b z h4.b (by decide) (by decide))]
    have l6 : ns.length ≤ 16777216 := by have := R.hi; omega
    simp only [rE] at e5
    have e0 : gForL (ggName 3) fb_gcd_row_of_0 (ns.map .int) [.dat (tupI ns), .dat (.int 0), .dat (.list []), .un, .un, .un, .un, .un] cu = .ok (.nx [.dat (tupI ns), .dat (.int (gfold 0 ns)), .dat (lstI ms), y', .un, w', v', .un]) cu := e5
    simp only [G_gcd_row_paper, g_gcd_row_paper, G_gcd_row_of, g_gcd_row_of, hn, e0, gTupZ, hz, l6, gFn, gSeq, gIf, gSet, gSetO, gfCat, gfDisp, gBin, gCall, gApp, gaNil, gaCons, gaCup, gC_eq, gVar_un, gDisp, gSlice, gPart, gNoPart, gTru, gBool, gChain, gAnd, gOr, gNot, gAndV, gOrV, gNotV, gIfE, gUn, gCupF_un, gCupT_un, gCupSet, gRet, gAsg, gPar, gPar3, gDrop, gRaise, gSkip, gIsi, gFor, giTup, giLst, giArg, gLc, gL, gFrz, gApd, gYes, gAll, ggName, ggTup, ggCons, ggNil, wipeE, dLst, dTup, gForL_nil, gForL_cons, gLcL_nil, gLcL_cons, dZip_tup, dZip_lst, zipD_cc, zipD_nil, cutD_1, dCut_tup, dCut_lst, dAbs_ab, dAdd_tup, dAdd_lst, Rs.bind_ok, Rs.bind_exc, Rs.bind_stuck, Rs.ofO_some, Rs.nox_ok, List.getElem?_cons_zero, List.getElem?_cons_succ, List.set_cons_zero, List.set_cons_succ, List.length_cons, List.length_nil, List.length_append, List.length_map, List.replicate_succ, List.replicate_zero, List.cons_append, List.nil_append, List.append_nil, Nat.reduceAdd, Nat.reduceSub, Nat.reduceLT, Nat.reduceLeDiff, Nat.reduceEqDiff, Nat.zero_add, dAdd_int, dMul_int, fI0_int, fB0_int, fI_int, dEq_int, dNe_int, dEq_str, dNe_str, dEq_bl, dBool_bl, dTru_bl, dNeg_int, dToInt_int, dToInt_bl, dLen_tup, dLen_lst, dMin2_int, dMulT_int, dToTup_lst, dToTup_tup, dToLst_lst, dToLst_tup, dats_nil, dats_cons, dIx_tup, dIx_lst, atI0, atI1, atI2, atI3, atI4, atI5, dInt_int, Option.map_some, Option.map_none, Option.bind_some, if_true, if_false, ite_true, ite_false, Bool.false_eq_true, Bool.true_eq_false, reduceIte, Bool.not_true, Bool.not_false, isi_int_int, isi_int_bool, isi_int_str, isi_int_tuple, isi_bool_int, isi_bool_bool, isi_bool_str, isi_bool_tuple, isi_str_int, isi_str_bool, isi_str_str, isi_str_tuple, isi_tup_int, isi_tup_bool, isi_tup_str, isi_tup_tuple, isi_lst_int, isi_lst_bool, isi_lst_str, isi_lst_tuple, isi_none_int, isi_none_bool, isi_none_str, isi_none_tuple, Int.cast_ofNat_Int, decide_true, decide_false, decide_eq_true_eq, not_true_eq_false, not_false_eq_true, Int.reduceEq, Int.reduceNe, Int.reduceLE, Int.reduceLT, Int.reduceAdd, Int.reduceSub, Int.reduceMul, Int.reduceNeg, ite_self, dMax2_int, dInR_int, gInR]
end
end Prog

set_option Elab.async false
set_option linter.all false
set_option maxRecDepth 100000
set_option maxHeartbeats 4000000
set_option autoImplicit false
set_option exponentiation.threshold 4000
namespace Prog
open PySem PySem.Spec L2 DL
def rowOk (ns : List Int) (d : Int) (ms qs : List Int) : Bool := decide (0 ≤ d) && (decide (dotI ns ms = d) && (List.zip ns qs).all fun p => decide (p.2 * d = p.1))
section
variable {cu : Cu} {ns ms qs : List Int} {d : Int}
theorem zip_mem {xs ys : List Int} {p : Int × Int} (h : p ∈ List.zip xs ys) : p.1 ∈ xs ∧ p.2 ∈ ys := by
  obtain ⟨a, b⟩ := p
  exact ⟨(List.of_mem_zip h).1, (List.of_mem_zip h).2⟩
theorem zip_len {xs ys : List Int} (h : xs.length ≤ 6) : (List.zip xs ys).length < 16777216 := by
  rw [List.length_zip]; omega
theorem e_prog_sum {a b c d5 d6 : Sl} (R : RowR ns) (hm : ∀ m ∈ ms, Sm m) :
    gLc (giArg dZip (gaCons (gVar 0) (gaCons (gVar 3) gaNil))) [5, 6] (ggTup 2 (ggCons (ggName 5) (ggCons (ggName 6) ggNil))) gYes le_shows_gcd_row_0 [.dat (tupI ns), a, b, .dat (tupI ms), c, d5, d6] cu = .ok (((List.zip ns ms).map fun p => p.1 * p.2).map PyData.int) cu := by
  have zz := gLcL_map (gg := ggTup 2 (ggCons (ggName 5) (ggCons (ggName 6) ggNil))) (ge := le_shows_gcd_row_0) (cu := cu) (ρ := [.dat (tupI ns), a, b, .dat (tupI ms), c, .un, .un]) (ds := (List.zip ns ms).map fun p => .tuple [.int p.1, .int p.2])
    (fun d => match d with | .tuple [.int i, .int j] => .int (i * j) | d => d) fun d hd => by
    obtain ⟨p, hp, rfl⟩ := List.mem_map.mp hd
    obtain ⟨h1, h2⟩ := zip_mem hp
    have o := mulOk_sm (R.rg _ h1).sm (hm _ h2)
    refine ⟨_, rfl, ?_⟩
    simp only [o, gFn, gSeq, gIf, gSet, gSetO, gfCat, gfDisp, gBin, gCall, gApp, gaNil, gaCons, gaCup, gC_eq, gVar_un, gDisp, gSlice, gPart, gNoPart, gTru, gBool, gChain, gAnd, gOr, gNot, gAndV, gOrV, gNotV, gIfE, gUn, gCupF_un, gCupT_un, gCupSet, gRet, gAsg, gPar, gPar3, gDrop, gRaise, gSkip, gIsi, gFor, giTup, giLst, giArg, gLc, gL, gFrz, gApd, gYes, gAll, ggName, ggTup, ggCons, ggNil, wipeE, dLst, dTup, gForL_nil, gForL_cons, gLcL_nil, gLcL_cons, dZip_tup, dZip_lst, zipD_cc, zipD_nil, cutD_1, dCut_tup, dCut_lst, dAbs_ab, dAdd_tup, dAdd_lst, Rs.bind_ok, Rs.bind_exc, Rs.bind_stuck, Rs.ofO_some, Rs.nox_ok, List.getElem?_cons_zero, List.getElem?_cons_succ, List.set_cons_zero, List.set_cons_succ, List.length_cons, List.length_nil, List.length_append, List.length_map, List.replicate_succ, List.replicate_zero, List.cons_append, List.nil_append, List.append_nil, Nat.reduceAdd, Nat.reduceSub, Nat.reduceLT, Nat.reduceLeDiff, Nat.reduceEqDiff, Nat.zero_add, dAdd_int, dMul_int, fI0_int, fB0_int, fI_int, dEq_int, dNe_int, dEq_str, dNe_str, dEq_bl, dBool_bl, dTru_bl, dNeg_int, dToInt_int, dToInt_bl, dLen_tup, dLen_lst, dMin2_int, dMulT_int, dToTup_lst, dToTup_tup, dToLst_lst, dToLst_tup, dats_nil, dats_cons, dIx_tup, dIx_lst, atI0, atI1, atI2, atI3, atI4, atI5, dInt_int, Option.map_some, Option.map_none, Option.bind_some, if_true, if_false, ite_true, ite_false, Bool.false_eq_true, Bool.true_eq_false, reduceIte, Bool.not_true, Bool.not_false, isi_int_int, isi_int_bool, isi_int_str, isi_int_tuple, isi_bool_int, isi_bool_bool, isi_bool_str, isi_bool_tuple, isi_str_int, isi_str_bool, isi_str_str, isi_str_tuple, isi_tup_int, isi_tup_bool, isi_tup_str, isi_tup_tuple, isi_lst_int, isi_lst_bool, isi_lst_str, isi_lst_tuple, isi_none_int, isi_none_bool, isi_none_str, isi_none_tuple, Int.cast_ofNat_Int, decide_true, decide_false, decide_eq_true_eq, not_true_eq_false, not_false_eq_true, Int.reduceEq, Int.reduceNe, Int.reduceLE, Int.reduceLT, Int.reduceAdd, Int.reduceSub, Int.reduceMul, Int.reduceNeg, ite_self, dMax2_int, dInR_int, gInR, le_bezout_0, fb_need_integer_row_0, le_gcd_row_of_0, fb_gcd_row_of_0, ez_gcd_row_of_0, le_shows_gcd_row_0, le_shows_gcd_row_1, le__law_integers_0, lt__law_integers_0, fb__law_integer_0, le__law_is_row_0, le__law_is_row_1, lt__law_is_row_0, le__law_gcd_right_0, lt__law_gcd_right_0, le__law_gcd_right_1, le__law_gcd_right_2, lt__law_gcd_right_1, le__law_lcm_right_0, le__law_lcm_right_1, lt__law_lcm_right_0, le__law_lcm_right_2, lt__law_lcm_right_1, fb__law_row_right_0, le__law_row_right_0, le__law_row_right_1, lt__law_row_right_0, le__law_row_right_2, lt__law_row_right_1, le__law_written_0, lt__law_written_0, le__law_written_1, le__law_written_2]
  have hl : ((List.zip ns ms).map fun p => PyData.tuple [.int p.1, .int p.2]).length < 16777216 := by rw [List.length_map]; exact zip_len R.hi
  simp only [gLc, giArg, gaCons, gaNil, gVar_un, List.getElem?_cons_succ, List.getElem?_cons_zero, Rs.bind_ok, dats_cons, dats_nil, Option.map_some, Option.bind_some, dZip_ints, Rs.ofO_some, hl, if_true, wipeE, List.set_cons_succ, List.set_cons_zero]
  rw [zz, List.map_map, List.map_map]
  rfl
theorem e_prog_all {a b d5 d6 : Sl} (R : RowR ns) (hd : Sm d) (hq : ∀ q ∈ qs, Sm q) :
    gLc (giArg dZip (gaCons (gVar 0) (gaCons (gVar 4) gaNil))) [5, 6] (ggTup 2 (ggCons (ggName 5) (ggCons (ggName 6) ggNil))) gYes le_shows_gcd_row_1 [.dat (tupI ns), a, .dat (.int d), b, .dat (tupI qs), d5, d6] cu = .ok (((List.zip ns qs).map fun p => decide (p.2 * d = p.1)).map PyData.bool) cu := by
  have zz := gLcL_map (gg := ggTup 2 (ggCons (ggName 5) (ggCons (ggName 6) ggNil))) (ge := le_shows_gcd_row_1) (cu := cu) (ρ := [.dat (tupI ns), a, .dat (.int d), b, .dat (tupI qs), .un, .un]) (ds := (List.zip ns qs).map fun p => .tuple [.int p.1, .int p.2])
    (fun x => match x with | .tuple [.int i, .int j] => .bool (decide (j * d = i)) | x => x) fun x hx => by
    obtain ⟨p, hp, rfl⟩ := List.mem_map.mp hx
    obtain ⟨h1, h2⟩ := zip_mem hp
    have o := mulOk_sm (hq _ h2) hd
    refine ⟨_, rfl, ?_⟩
    simp only [o, gFn, gSeq, gIf, gSet, gSetO, gfCat, gfDisp, gBin, gCall, gApp, gaNil, gaCons, gaCup, gC_eq, gVar_un, gDisp, gSlice, gPart, gNoPart, gTru, gBool, gChain, gAnd, gOr, gNot, gAndV, gOrV, gNotV, gIfE, gUn, gCupF_un, gCupT_un, gCupSet, gRet, gAsg, gPar, gPar3, gDrop, gRaise, gSkip, gIsi, gFor, giTup, giLst, giArg, gLc, gL, gFrz, gApd, gYes, gAll, ggName, ggTup, ggCons, ggNil, wipeE, dLst, dTup, gForL_nil, gForL_cons, gLcL_nil, gLcL_cons, dZip_tup, dZip_lst, zipD_cc, zipD_nil, cutD_1, dCut_tup, dCut_lst, dAbs_ab, dAdd_tup, dAdd_lst, Rs.bind_ok, Rs.bind_exc, Rs.bind_stuck, Rs.ofO_some, Rs.nox_ok, List.getElem?_cons_zero, List.getElem?_cons_succ, List.set_cons_zero, List.set_cons_succ, List.length_cons, List.length_nil, List.length_append, List.length_map, List.replicate_succ, List.replicate_zero, List.cons_append, List.nil_append, List.append_nil, Nat.reduceAdd, Nat.reduceSub, Nat.reduceLT, Nat.reduceLeDiff, Nat.reduceEqDiff, Nat.zero_add, dAdd_int, dMul_int, fI0_int, fB0_int, fI_int, dEq_int, dNe_int, dEq_str, dNe_str, dEq_bl, dBool_bl, dTru_bl, dNeg_int, dToInt_int, dToInt_bl, dLen_tup, dLen_lst, dMin2_int, dMulT_int, dToTup_lst, dToTup_tup, dToLst_lst, dToLst_tup, dats_nil, dats_cons, dIx_tup, dIx_lst, atI0, atI1, atI2, atI3, atI4, atI5, dInt_int, Option.map_some, Option.map_none, Option.bind_some, if_true, if_false, ite_true, ite_false, Bool.false_eq_true, Bool.true_eq_false, reduceIte, Bool.not_true, Bool.not_false, isi_int_int, isi_int_bool, isi_int_str, isi_int_tuple, isi_bool_int, isi_bool_bool, isi_bool_str, isi_bool_tuple, isi_str_int, isi_str_bool, isi_str_str, isi_str_tuple, isi_tup_int, isi_tup_bool, isi_tup_str, isi_tup_tuple, isi_lst_int, isi_lst_bool, isi_lst_str, isi_lst_tuple, isi_none_int, isi_none_bool, isi_none_str, isi_none_tuple, Int.cast_ofNat_Int, decide_true, decide_false, decide_eq_true_eq, not_true_eq_false, not_false_eq_true, Int.reduceEq, Int.reduceNe, Int.reduceLE, Int.reduceLT, Int.reduceAdd, Int.reduceSub, Int.reduceMul, Int.reduceNeg, ite_self, dMax2_int, dInR_int, gInR, le_bezout_0, fb_need_integer_row_0, le_gcd_row_of_0, fb_gcd_row_of_0, ez_gcd_row_of_0, le_shows_gcd_row_0, le_shows_gcd_row_1, le__law_integers_0, lt__law_integers_0, fb__law_integer_0, le__law_is_row_0, le__law_is_row_1, lt__law_is_row_0, le__law_gcd_right_0, lt__law_gcd_right_0, le__law_gcd_right_1, le__law_gcd_right_2, lt__law_gcd_right_1, le__law_lcm_right_0, le__law_lcm_right_1, lt__law_lcm_right_0, le__law_lcm_right_2, lt__law_lcm_right_1, fb__law_row_right_0, le__law_row_right_0, le__law_row_right_1, lt__law_row_right_0, le__law_row_right_2, lt__law_row_right_1, le__law_written_0, lt__law_written_0, le__law_written_1, le__law_written_2]
  have hl : ((List.zip ns qs).map fun p => PyData.tuple [.int p.1, .int p.2]).length < 16777216 := by rw [List.length_map]; exact zip_len R.hi
  simp only [gLc, giArg, gaCons, gaNil, gVar_un, List.getElem?_cons_succ, List.getElem?_cons_zero, Rs.bind_ok, dats_cons, dats_nil, Option.map_some, Option.bind_some, dZip_ints, Rs.ofO_some, hl, if_true, wipeE, List.set_cons_succ, List.set_cons_zero]
  rw [zz, List.map_map, List.map_map]
  rfl
theorem e_are_n {n : Nat} {zs : List Int} (h : zs.length = n) : G_are_integers [.dat (tupI zs), .dat (.int n)] cu = .ok (.bool true) cu := by
  rw [e_are, decide_eq_true (by omega)]
theorem e_are_ne {n : Nat} {zs : List Int} (h : zs.length ≠ n) : G_are_integers [.dat (tupI zs), .dat (.int n)] cu = .ok (.bool false) cu := by
  rw [e_are, decide_eq_false (by omega)]
theorem e_are1 : G_are_integers [.dat (.tuple [.int d]), .dat (.int 1)] cu = .ok (.bool true) cu := e_are_n (zs := [d]) (n := 1) rfl
theorem e_lint1 : G__law_integers [.dat (.tuple [.int d]), .dat (.int 1)] cu = .ok (.bool true) cu := e_law_integers (zs := [d]) (n := 1) (show 1 < 1000 by decide)
theorem cut3_a1 {x y z : PyData} : cutD [x, y, z] none (some 1) = [x] := rfl
theorem cut3_a2 {x y z : PyData} : cutD [x, y, z] none (some 2) = [x, y] := rfl
theorem cut3_b1 {x y z : PyData} : cutD [x, y, z] (some 1) none = [y, z] := rfl
theorem e_takes_row (R : RowR ns) (hd : Sm d) (l1 : ms.length = ns.length) (l2 : qs.length = ns.length) (hm : ∀ m ∈ ms, Sm m) (hq : ∀ q ∈ qs, Sm q) :
    G_takes_gcd_row [.dat (tupI ns), .dat (rowP d ms qs)] cu = .ok (.bool (rowOk ns d ms qs)) cu := by
  have hn := e_need_row (cu := cu) R
  have a1 := e_are1 (cu := cu) (d := d)
  have a2 : G_are_integers [.dat (tupI ms), .dat (.int ns.length)] cu = .ok (.bool true) cu := e_are_n l1
  have a3 : G_are_integers [.dat (tupI qs), .dat (.int ns.length)] cu = .ok (.bool true) cu := e_are_n l2
  have s1 := fun a b c d5 d6 => e_prog_sum (cu := cu) (a := a) (b := b) (c := c) (d5 := d5) (d6 := d6) R hm
  have s2 := fun a b d5 d6 => e_prog_all (cu := cu) (a := a) (b := b) (d5 := d5) (d6 := d6) R hd hq
  have s3 : dSum [.list (((List.zip ns ms).map fun p => p.1 * p.2).map PyData.int)] = some (.int (dotI ns ms)) := dSum_ints
  have s4 : dAllL [.list (((List.zip ns qs).map fun p => decide (p.2 * d = p.1)).map PyData.bool)] = some (.bool ((List.zip ns qs).all fun p => decide (p.2 * d = p.1))) := by
    rw [dAllL_bls, List.all_map]; rfl
  unfold rowOk
  by_cases c1 : d < 0
  · have c1' : ¬ 0 ≤ d := by omega
    simp only [G_takes_gcd_row, g_takes_gcd_row, G_shows_gcd_row, g_shows_gcd_row, hn, a1, cut3_a1, c1, c1', Bool.false_and, gFn, gSeq, gIf, gSet, gSetO, gfCat, gfDisp, gBin, gCall, gApp, gaNil, gaCons, gaCup, gC_eq, gVar_un, gDisp, gSlice, gPart, gNoPart, gTru, gBool, gChain, gAnd, gOr, gNot, gAndV, gOrV, gNotV, gIfE, gUn, gCupF_un, gCupT_un, gCupSet, gRet, gAsg, gPar, gPar3, gDrop, gRaise, gSkip, gIsi, gFor, giTup, giLst, giArg, gLc, gL, gFrz, gApd, gYes, gAll, ggName, ggTup, ggCons, ggNil, wipeE, dLst, dTup, gForL_nil, gForL_cons, gLcL_nil, gLcL_cons, dZip_tup, dZip_lst, zipD_cc, zipD_nil, cutD_1, dCut_tup, dCut_lst, dAbs_ab, dAdd_tup, dAdd_lst, Rs.bind_ok, Rs.bind_exc, Rs.bind_stuck, Rs.ofO_some, Rs.nox_ok, List.getElem?_cons_zero, List.getElem?_cons_succ, List.set_cons_zero, List.set_cons_succ, List.length_cons, List.length_nil, List.length_append, List.length_map, List.replicate_succ, List.replicate_zero, List.cons_append, List.nil_append, List.append_nil, Nat.reduceAdd, Nat.reduceSub, Nat.reduceLT, Nat.reduceLeDiff, Nat.reduceEqDiff, Nat.zero_add, dAdd_int, dMul_int, fI0_int, fB0_int, fI_int, dEq_int, dNe_int, dEq_str, dNe_str, dEq_bl, dBool_bl, dTru_bl, dNeg_int, dToInt_int, dToInt_bl, dLen_tup, dLen_lst, dMin2_int, dMulT_int, dToTup_lst, dToTup_tup, dToLst_lst, dToLst_tup, dats_nil, dats_cons, dIx_tup, dIx_lst, atI0, atI1, atI2, atI3, atI4, atI5, dInt_int, Option.map_some, Option.map_none, Option.bind_some, if_true, if_false, ite_true, ite_false, Bool.false_eq_true, Bool.true_eq_false, reduceIte, Bool.not_true, Bool.not_false, isi_int_int, isi_int_bool, isi_int_str, isi_int_tuple, isi_bool_int, isi_bool_bool, isi_bool_str, isi_bool_tuple, isi_str_int, isi_str_bool, isi_str_str, isi_str_tuple, isi_tup_int, isi_tup_bool, isi_tup_str, isi_tup_tuple, isi_lst_int, isi_lst_bool, isi_lst_str, isi_lst_tuple, isi_none_int, isi_none_bool, isi_none_str, isi_none_tuple, Int.cast_ofNat_Int, decide_true, decide_false, decide_eq_true_eq, not_true_eq_false, not_false_eq_true, Int.reduceEq, Int.reduceNe, Int.reduceLE, Int.reduceLT, Int.reduceAdd, Int.reduceSub, Int.reduceMul, Int.reduceNeg, ite_self, dMax2_int, dInR_int, gInR]
  have c1' : 0 ≤ d := by omega
  by_cases c2 : dotI ns ms = d
  case neg =>
    simp only [G_takes_gcd_row, g_takes_gcd_row, G_shows_gcd_row, hn, gFn, gSeq, gDrop, gRet, gApp, gaCons, gaNil, gVar_un, List.cons_append, List.nil_append, List.length_cons, List.length_nil, Nat.reduceAdd, Nat.reduceSub, Nat.zero_add, List.replicate_succ, List.replicate_zero, List.getElem?_cons_succ, List.getElem?_cons_zero, Rs.bind_ok, if_true,
      g_shows_gcd_row, gIf, gOr, gNot, gTru, gIsi, isi_tup_tuple, Option.map_some, Rs.ofO_some, dTru_bl, Bool.not_true, Bool.false_eq_true, if_false, gBool, gBin, gCall, dats_cons, dats_nil, Option.bind_some, dLen_tup, gC_eq, dNe_int, Int.reduceEq, Int.cast_ofNat_Int, decide_true, dBool_bl, gSlice, gNoPart, gPart, dInt_int, dCut_tup, cut3_a1, a1, dIx_tup, atI0, fB0_int, c1, decide_false, gSkip, gAsg, ggTup, ggCons, ggNil, ggName, List.set_cons_succ, List.set_cons_zero, List.length_map, a2, a3, gL, s1, s2, s3, s4, c2, Bool.not_false, Bool.false_and, Bool.and_false]
  simp only [G_takes_gcd_row, g_takes_gcd_row, G_shows_gcd_row, hn, gFn, gSeq, gDrop, gRet, gApp, gaCons, gaNil, gVar_un, List.cons_append, List.nil_append, List.length_cons, List.length_nil, Nat.reduceAdd, Nat.reduceSub, Nat.zero_add, List.replicate_succ, List.replicate_zero, List.getElem?_cons_succ, List.getElem?_cons_zero, Rs.bind_ok, if_true,
      g_shows_gcd_row, gIf, gOr, gNot, gTru, gIsi, isi_tup_tuple, Option.map_some, Rs.ofO_some, dTru_bl, Bool.not_true, Bool.false_eq_true, if_false, gBool, gBin, gCall, dats_cons, dats_nil, Option.bind_some, dLen_tup, gC_eq, dNe_int, Int.reduceEq, Int.cast_ofNat_Int, decide_true, dBool_bl, gSlice, gNoPart, gPart, dInt_int, dCut_tup, cut3_a1, a1, dIx_tup, atI0, fB0_int, c1, c1', decide_false, gSkip, gAsg, ggTup, ggCons, ggNil, ggName, List.set_cons_succ, List.set_cons_zero, List.length_map, a2, a3, gL, s1, s2, s3, s4, c2, Bool.not_false, Bool.true_and]
/-! the law's own judge -/
theorem e_law_sum {a b c d5 d6 : Sl} (R : RowR ns) (hm : ∀ m ∈ ms, Sm m) :
    gLc (giArg dZip (gaCons (gVar 3) (gaCons (gVar 0) gaNil))) [5, 6] (ggTup 2 (ggCons (ggName 5) (ggCons (ggName 6) ggNil))) gYes le__law_is_row_0 [.dat (tupI ns), a, b, .dat (tupI ms), c, d5, d6] cu = .ok (((List.zip ms ns).map fun p => p.1 * p.2).map PyData.int) cu := by
  have zz := gLcL_map (gg := ggTup 2 (ggCons (ggName 5) (ggCons (ggName 6) ggNil))) (ge := le__law_is_row_0) (cu := cu) (ρ := [.dat (tupI ns), a, b, .dat (tupI ms), c, .un, .un]) (ds := (List.zip ms ns).map fun p => .tuple [.int p.1, .int p.2])
    (fun d => match d with | .tuple [.int i, .int j] => .int (i * j) | d => d) fun d hd => by
    obtain ⟨p, hp, rfl⟩ := List.mem_map.mp hd
    obtain ⟨h1, h2⟩ := zip_mem hp
    have o := mulOk_sm (hm _ h1) (R.rg _ h2).sm
    refine ⟨_, rfl, ?_⟩
    simp only [o, gFn, gSeq, gIf, gSet, gSetO, gfCat, gfDisp, gBin, gCall, gApp, gaNil, gaCons, gaCup, gC_eq, gVar_un, gDisp, gSlice, gPart, gNoPart, gTru, gBool, gChain, gAnd, gOr, gNot, gAndV, gOrV, gNotV, gIfE, gUn, gCupF_un, gCupT_un, gCupSet, gRet, gAsg, gPar, gPar3, gDrop, gRaise, gSkip, gIsi, gFor, giTup, giLst, giArg, gLc, gL, gFrz, gApd, gYes, gAll, ggName, ggTup, ggCons, ggNil, wipeE, dLst, dTup, gForL_nil, gForL_cons, gLcL_nil, gLcL_cons, dZip_tup, dZip_lst, zipD_cc, zipD_nil, cutD_1, dCut_tup, dCut_lst, dAbs_ab, dAdd_tup, dAdd_lst, Rs.bind_ok, Rs.bind_exc, Rs.bind_stuck, Rs.ofO_some, Rs.nox_ok, List.getElem?_cons_zero, List.getElem?_cons_succ, List.set_cons_zero, List.set_cons_succ, List.length_cons, List.length_nil, List.length_append, List.length_map, List.replicate_succ, List.replicate_zero, List.cons_append, List.nil_append, List.append_nil, Nat.reduceAdd, Nat.reduceSub, Nat.reduceLT, Nat.reduceLeDiff, Nat.reduceEqDiff, Nat.zero_add, dAdd_int, dMul_int, fI0_int, fB0_int, fI_int, dEq_int, dNe_int, dEq_str, dNe_str, dEq_bl, dBool_bl, dTru_bl, dNeg_int, dToInt_int, dToInt_bl, dLen_tup, dLen_lst, dMin2_int, dMulT_int, dToTup_lst, dToTup_tup, dToLst_lst, dToLst_tup, dats_nil, dats_cons, dIx_tup, dIx_lst, atI0, atI1, atI2, atI3, atI4, atI5, dInt_int, Option.map_some, Option.map_none, Option.bind_some, if_true, if_false, ite_true, ite_false, Bool.false_eq_true, Bool.true_eq_false, reduceIte, Bool.not_true, Bool.not_false, isi_int_int, isi_int_bool, isi_int_str, isi_int_tuple, isi_bool_int, isi_bool_bool, isi_bool_str, isi_bool_tuple, isi_str_int, isi_str_bool, isi_str_str, isi_str_tuple, isi_tup_int, isi_tup_bool, isi_tup_str, isi_tup_tuple, isi_lst_int, isi_lst_bool, isi_lst_str, isi_lst_tuple, isi_none_int, isi_none_bool, isi_none_str, isi_none_tuple, Int.cast_ofNat_Int, decide_true, decide_false, decide_eq_true_eq, not_true_eq_false, not_false_eq_true, Int.reduceEq, Int.reduceNe, Int.reduceLE, Int.reduceLT, Int.reduceAdd, Int.reduceSub, Int.reduceMul, Int.reduceNeg, ite_self, dMax2_int, dInR_int, gInR, le_bezout_0, fb_need_integer_row_0, le_gcd_row_of_0, fb_gcd_row_of_0, ez_gcd_row_of_0, le_shows_gcd_row_0, le_shows_gcd_row_1, le__law_integers_0, lt__law_integers_0, fb__law_integer_0, le__law_is_row_0, le__law_is_row_1, lt__law_is_row_0, le__law_gcd_right_0, lt__law_gcd_right_0, le__law_gcd_right_1, le__law_gcd_right_2, lt__law_gcd_right_1, le__law_lcm_right_0, le__law_lcm_right_1, lt__law_lcm_right_0, le__law_lcm_right_2, lt__law_lcm_right_1, fb__law_row_right_0, le__law_row_right_0, le__law_row_right_1, lt__law_row_right_0, le__law_row_right_2, lt__law_row_right_1, le__law_written_0, lt__law_written_0, le__law_written_1, le__law_written_2]
  have hl : ((List.zip ms ns).map fun p => PyData.tuple [.int p.1, .int p.2]).length < 16777216 := by rw [List.length_map, List.length_zip]; have := R.hi; omega
  simp only [gLc, giArg, gaCons, gaNil, gVar_un, List.getElem?_cons_succ, List.getElem?_cons_zero, Rs.bind_ok, dats_cons, dats_nil, Option.map_some, Option.bind_some, dZip_ints, Rs.ofO_some, hl, if_true, wipeE, List.set_cons_succ, List.set_cons_zero]
  rw [zz, List.map_map, List.map_map]
  rfl
def badP (d : Int) : PyData → Bool
  | .tuple [.int i, .int j] => !decide (i * d = j)
  | _ => false
theorem e_law_bad {a b d5 d6 : Sl} (R : RowR ns) (hd : Sm d) (hq : ∀ q ∈ qs, Sm q) :
    gLc (giArg dZip (gaCons (gVar 4) (gaCons (gVar 0) gaNil))) [5, 6] (ggTup 2 (ggCons (ggName 5) (ggCons (ggName 6) ggNil))) lt__law_is_row_0 le__law_is_row_1 [.dat (tupI ns), a, .dat (.int d), b, .dat (tupI qs), d5, d6] cu = .ok ((((List.zip qs ns).map fun p => PyData.tuple [.int p.1, .int p.2]).filter (badP d)).map fun _ => PyData.int 1) cu := by
  have zz := gLcL_pure (gg := ggTup 2 (ggCons (ggName 5) (ggCons (ggName 6) ggNil))) (gt := lt__law_is_row_0) (ge := le__law_is_row_1) (cu := cu) (ρ := [.dat (tupI ns), a, .dat (.int d), b, .dat (tupI qs), .un, .un]) (badP d) (fun _ => .int 1) (ds := (List.zip qs ns).map fun p => .tuple [.int p.1, .int p.2])
    fun x hx => by
    obtain ⟨p, hp, rfl⟩ := List.mem_map.mp hx
    obtain ⟨h1, h2⟩ := zip_mem hp
    have o := mulOk_sm (hq _ h1) hd
    refine ⟨_, rfl, ?_, fun _ => rfl⟩
    simp only [o, badP, gFn, gSeq, gIf, gSet, gSetO, gfCat, gfDisp, gBin, gCall, gApp, gaNil, gaCons, gaCup, gC_eq, gVar_un, gDisp, gSlice, gPart, gNoPart, gTru, gBool, gChain, gAnd, gOr, gNot, gAndV, gOrV, gNotV, gIfE, gUn, gCupF_un, gCupT_un, gCupSet, gRet, gAsg, gPar, gPar3, gDrop, gRaise, gSkip, gIsi, gFor, giTup, giLst, giArg, gLc, gL, gFrz, gApd, gYes, gAll, ggName, ggTup, ggCons, ggNil, wipeE, dLst, dTup, gForL_nil, gForL_cons, gLcL_nil, gLcL_cons, dZip_tup, dZip_lst, zipD_cc, zipD_nil, cutD_1, dCut_tup, dCut_lst, dAbs_ab, dAdd_tup, dAdd_lst, Rs.bind_ok, Rs.bind_exc, Rs.bind_stuck, Rs.ofO_some, Rs.nox_ok, List.getElem?_cons_zero, List.getElem?_cons_succ, List.set_cons_zero, List.set_cons_succ, List.length_cons, List.length_nil, List.length_append, List.length_map, List.replicate_succ, List.replicate_zero, List.cons_append, List.nil_append, List.append_nil, Nat.reduceAdd, Nat.reduceSub, Nat.reduceLT, Nat.reduceLeDiff, Nat.reduceEqDiff, Nat.zero_add, dAdd_int, dMul_int, fI0_int, fB0_int, fI_int, dEq_int, dNe_int, dEq_str, dNe_str, dEq_bl, dBool_bl, dTru_bl, dNeg_int, dToInt_int, dToInt_bl, dLen_tup, dLen_lst, dMin2_int, dMulT_int, dToTup_lst, dToTup_tup, dToLst_lst, dToLst_tup, dats_nil, dats_cons, dIx_tup, dIx_lst, atI0, atI1, atI2, atI3, atI4, atI5, dInt_int, Option.map_some, Option.map_none, Option.bind_some, if_true, if_false, ite_true, ite_false, Bool.false_eq_true, Bool.true_eq_false, reduceIte, Bool.not_true, Bool.not_false, isi_int_int, isi_int_bool, isi_int_str, isi_int_tuple, isi_bool_int, isi_bool_bool, isi_bool_str, isi_bool_tuple, isi_str_int, isi_str_bool, isi_str_str, isi_str_tuple, isi_tup_int, isi_tup_bool, isi_tup_str, isi_tup_tuple, isi_lst_int, isi_lst_bool, isi_lst_str, isi_lst_tuple, isi_none_int, isi_none_bool, isi_none_str, isi_none_tuple, Int.cast_ofNat_Int, decide_true, decide_false, decide_eq_true_eq, not_true_eq_false, not_false_eq_true, Int.reduceEq, Int.reduceNe, Int.reduceLE, Int.reduceLT, Int.reduceAdd, Int.reduceSub, Int.reduceMul, Int.reduceNeg, ite_self, dMax2_int, dInR_int, gInR, le_bezout_0, fb_need_integer_row_0, le_gcd_row_of_0, fb_gcd_row_of_0, ez_gcd_row_of_0, le_shows_gcd_row_0, le_shows_gcd_row_1, le__law_integers_0, lt__law_integers_0, fb__law_integer_0, le__law_is_row_0, le__law_is_row_1, lt__law_is_row_0, le__law_gcd_right_0, lt__law_gcd_right_0, le__law_gcd_right_1, le__law_gcd_right_2, lt__law_gcd_right_1, le__law_lcm_right_0, le__law_lcm_right_1, lt__law_lcm_right_0, le__law_lcm_right_2, lt__law_lcm_right_1, fb__law_row_right_0, le__law_row_right_0, le__law_row_right_1, lt__law_row_right_0, le__law_row_right_2, lt__law_row_right_1, le__law_written_0, lt__law_written_0, le__law_written_1, le__law_written_2]
  have hl : ((List.zip qs ns).map fun p => PyData.tuple [.int p.1, .int p.2]).length < 16777216 := by rw [List.length_map, List.length_zip]; have := R.hi; omega
  simp only [gLc, giArg, gaCons, gaNil, gVar_un, List.getElem?_cons_succ, List.getElem?_cons_zero, Rs.bind_ok, dats_cons, dats_nil, Option.map_some, Option.bind_some, dZip_ints, Rs.ofO_some, hl, if_true, wipeE, List.set_cons_succ, List.set_cons_zero]
  exact zz
theorem bad_empty : ∀ {qs ns : List Int}, (((List.zip qs ns).map fun p => PyData.tuple [.int p.1, .int p.2]).filter (badP d)).isEmpty = (List.zip ns qs).all fun p => decide (p.2 * d = p.1)
  | [], ns => by rw [List.zip_nil_left, List.zip_nil_right]; rfl
  | q :: qs, [] => by rw [List.zip_nil_left, List.zip_nil_right]; rfl
  | q :: qs, n :: ns => by
    rw [List.zip_cons_cons, List.zip_cons_cons, List.map_cons, List.all_cons, ← bad_empty (qs := qs) (ns := ns)]
    by_cases h : q * d = n
    · have hb : badP d (.tuple [.int q, .int n]) = false := by show (!decide (q * d = n)) = false; rw [decide_eq_true h]; rfl
      rw [List.filter_cons_of_neg (by rw [hb]; exact Bool.false_ne_true), decide_eq_true h, Bool.true_and]
    · have hb : badP d (.tuple [.int q, .int n]) = true := by show (!decide (q * d = n)) = true; rw [decide_eq_false h]; rfl
      rw [List.filter_cons_of_pos hb, decide_eq_false h, Bool.false_and]; rfl
theorem e_law_is_row (R : RowR ns) (hd : Sm d) (hm : ∀ m ∈ ms, Sm m) (hq : ∀ q ∈ qs, Sm q) :
    G__law_is_row [.dat (tupI ns), .dat (rowP d ms qs)] cu = .ok (.bool (rowOk ns d ms qs)) cu := by
  have s1 := fun a b c d5 d6 => e_law_sum (cu := cu) (a := a) (b := b) (c := c) (d5 := d5) (d6 := d6) R hm
  have s2 := fun a b d5 d6 => e_law_bad (cu := cu) (a := a) (b := b) (d5 := d5) (d6 := d6) R hd hq
  have s3 : dSum [.list (((List.zip ms ns).map fun p => p.1 * p.2).map PyData.int)] = some (.int (dotI ns ms)) := by rw [dot_comm]; exact dSum_ints
  have s4 : dEq (.list ((((List.zip qs ns).map fun p => PyData.tuple [.int p.1, .int p.2]).filter (badP d)).map fun _ => PyData.int 1)) (.list []) = some (.bool ((List.zip ns qs).all fun p => decide (p.2 * d = p.1))) := by
    rw [dEq_nil (fun x hx => by obtain ⟨_, _, rfl⟩ := List.mem_map.mp hx; exact ⟨1, rfl⟩), List.isEmpty_map, bad_empty]
  unfold rowOk
  by_cases c1 : d < 0
  · have c1' : ¬ 0 ≤ d := by omega
    simp only [G__law_is_row, g__law_is_row, c1, c1', Bool.false_and, gFn, gSeq, gIf, gSet, gSetO, gfCat, gfDisp, gBin, gCall, gApp, gaNil, gaCons, gaCup, gC_eq, gVar_un, gDisp, gSlice, gPart, gNoPart, gTru, gBool, gChain, gAnd, gOr, gNot, gAndV, gOrV, gNotV, gIfE, gUn, gCupF_un, gCupT_un, gCupSet, gRet, gAsg, gPar, gPar3, gDrop, gRaise, gSkip, gIsi, gFor, giTup, giLst, giArg, gLc, gL, gFrz, gApd, gYes, gAll, ggName, ggTup, ggCons, ggNil, wipeE, dLst, dTup, gForL_nil, gForL_cons, gLcL_nil, gLcL_cons, dZip_tup, dZip_lst, zipD_cc, zipD_nil, cutD_1, dCut_tup, dCut_lst, dAbs_ab, dAdd_tup, dAdd_lst, Rs.bind_ok, Rs.bind_exc, Rs.bind_stuck, Rs.ofO_some, Rs.nox_ok, List.getElem?_cons_zero, List.getElem?_cons_succ, List.set_cons_zero, List.set_cons_succ, List.length_cons, List.length_nil, List.length_append, List.length_map, List.replicate_succ, List.replicate_zero, List.cons_append, List.nil_append, List.append_nil, Nat.reduceAdd, Nat.reduceSub, Nat.reduceLT, Nat.reduceLeDiff, Nat.reduceEqDiff, Nat.zero_add, dAdd_int, dMul_int, fI0_int, fB0_int, fI_int, dEq_int, dNe_int, dEq_str, dNe_str, dEq_bl, dBool_bl, dTru_bl, dNeg_int, dToInt_int, dToInt_bl, dLen_tup, dLen_lst, dMin2_int, dMulT_int, dToTup_lst, dToTup_tup, dToLst_lst, dToLst_tup, dats_nil, dats_cons, dIx_tup, dIx_lst, atI0, atI1, atI2, atI3, atI4, atI5, dInt_int, Option.map_some, Option.map_none, Option.bind_some, if_true, if_false, ite_true, ite_false, Bool.false_eq_true, Bool.true_eq_false, reduceIte, Bool.not_true, Bool.not_false, isi_int_int, isi_int_bool, isi_int_str, isi_int_tuple, isi_bool_int, isi_bool_bool, isi_bool_str, isi_bool_tuple, isi_str_int, isi_str_bool, isi_str_str, isi_str_tuple, isi_tup_int, isi_tup_bool, isi_tup_str, isi_tup_tuple, isi_lst_int, isi_lst_bool, isi_lst_str, isi_lst_tuple, isi_none_int, isi_none_bool, isi_none_str, isi_none_tuple, Int.cast_ofNat_Int, decide_true, decide_false, decide_eq_true_eq, not_true_eq_false, not_false_eq_true, Int.reduceEq, Int.reduceNe, Int.reduceLE, Int.reduceLT, Int.reduceAdd, Int.reduceSub, Int.reduceMul, Int.reduceNeg, ite_self, dMax2_int, dInR_int, gInR]
  have c1' : 0 ≤ d := by omega
  by_cases c2 : dotI ns ms = d
  case neg =>
    simp only [G__law_is_row, g__law_is_row, gFn, gSeq, gAsg, gRet, gaNil, gVar_un, List.cons_append, List.nil_append, List.length_cons, List.length_nil, Nat.reduceAdd, Nat.reduceSub, Nat.zero_add, List.replicate_succ, List.replicate_zero, List.getElem?_cons_succ, List.getElem?_cons_zero, Rs.bind_ok, if_true,
      gIf, gOr, Rs.ofO_some, Bool.false_eq_true, if_false, gBool, gBin, gCall, gaCons, dats_cons, dats_nil, Option.map_some, Option.bind_some, gC_eq, dNe_int, dBool_bl, fB0_int, c1, decide_false, gSkip, ggTup, ggCons, ggNil, ggName, List.set_cons_succ, List.set_cons_zero, gL, s1, s2, s3, s4, c2, Bool.not_false, Bool.false_and, Bool.and_false]
  simp only [G__law_is_row, g__law_is_row, gFn, gSeq, gAsg, gRet, gaNil, gVar_un, List.cons_append, List.nil_append, List.length_cons, List.length_nil, Nat.reduceAdd, Nat.reduceSub, Nat.zero_add, List.replicate_succ, List.replicate_zero, List.getElem?_cons_succ, List.getElem?_cons_zero, Rs.bind_ok, if_true,
      gIf, gOr, Rs.ofO_some, Bool.false_eq_true, if_false, gBool, gBin, gCall, gaCons, dats_cons, dats_nil, Option.map_some, Option.bind_some, gC_eq, dNe_int, dBool_bl, fB0_int, c1, c1', decide_false, decide_true, gSkip, ggTup, ggCons, ggNil, ggName, List.set_cons_succ, List.set_cons_zero, gL, s1, s2, s3, s4, c2, Bool.not_true, Bool.true_and, gDisp, Nat.zero_le]
end
end Prog

set_option Elab.async false
set_option linter.all false
set_option maxRecDepth 100000
set_option maxHeartbeats 4000000
set_option autoImplicit false
set_option exponentiation.threshold 4000
namespace Prog
open PySem PySem.Spec L2 DL
def RowS (n : Nat) (P : PyData) : Prop := ∃ d ms qs, P = rowP d ms qs ∧ ms.length = n ∧ qs.length = n ∧ Sm d ∧ (∀ m ∈ ms, Sm m) ∧ (∀ q ∈ qs, Sm q)
abbrev wE (ns : List Int) (d : Int) (P : PyData) (x3 x5 x6 : Sl) : En := [.cup, .dat (tupI ns), .dat (.int d), x3, .dat P, x5, x6, .un, .un]
section
variable {cu : Cu} {ns ms qs : List Int} {d : Int}
theorem RowS.same {P : PyData} (R : RowR ns) (h : RowS ns.length P) : ∃ k : Bool, ∀ cu, G_takes_gcd_row [.dat (tupI ns), .dat P] cu = .ok (.bool k) cu ∧ G__law_is_row [.dat (tupI ns), .dat P] cu = .ok (.bool k) cu := by
  obtain ⟨d, ms, qs, rfl, l1, l2, hd, hm, hq⟩ := h
  exact ⟨_, fun cu => ⟨e_takes_row R hd l1 l2 hm hq, e_law_is_row R hd hm hq⟩⟩
theorem w_told (R : RowR ns) {ds : List PyData} {P : PyData} {x3 x6 : Sl} (h : ∀ x ∈ ds, RowS ns.length x) (hl : ds.length < 16777216) :
    gLc (giLst (gVar 5)) [7] (ggName 7) lt__law_row_right_0 le__law_row_right_1 (wE ns d P x3 (.dat (.list ds)) x6) cu = .ok [] cu := by
  have z := gLcL_pure (gg := ggName 7) (gt := lt__law_row_right_0) (ge := le__law_row_right_1) (cu := cu) (ρ := wE ns d P x3 (.dat (.list ds)) x6) (fun _ => false) id (ds := ds) fun x hx => by
    obtain ⟨k, hk⟩ := (h x hx).same R
    have k1 := (hk cu).1
    have k2 := (hk cu).2
    refine ⟨_, rfl, ?_, fun z => nomatch z⟩
    simp only [wE, k1, k2, e_same, gFn, gSeq, gIf, gSet, gSetO, gfCat, gfDisp, gBin, gCall, gApp, gaNil, gaCons, gaCup, gC_eq, gVar_un, gDisp, gSlice, gPart, gNoPart, gTru, gBool, gChain, gAnd, gOr, gNot, gAndV, gOrV, gNotV, gIfE, gUn, gCupF_un, gCupT_un, gCupSet, gRet, gAsg, gPar, gPar3, gDrop, gRaise, gSkip, gIsi, gFor, giTup, giLst, giArg, gLc, gL, gFrz, gApd, gYes, gAll, ggName, ggTup, ggCons, ggNil, wipeE, dLst, dTup, gForL_nil, gForL_cons, gLcL_nil, gLcL_cons, dZip_tup, dZip_lst, zipD_cc, zipD_nil, cutD_1, dCut_tup, dCut_lst, dAbs_ab, dAdd_tup, dAdd_lst, Rs.bind_ok, Rs.bind_exc, Rs.bind_stuck, Rs.ofO_some, Rs.nox_ok, List.getElem?_cons_zero, List.getElem?_cons_succ, List.set_cons_zero, List.set_cons_succ, List.length_cons, List.length_nil, List.length_append, List.length_map, List.replicate_succ, List.replicate_zero, List.cons_append, List.nil_append, List.append_nil, Nat.reduceAdd, Nat.reduceSub, Nat.reduceLT, Nat.reduceLeDiff, Nat.reduceEqDiff, Nat.zero_add, dAdd_int, dMul_int, fI0_int, fB0_int, fI_int, dEq_int, dNe_int, dEq_str, dNe_str, dEq_bl, dBool_bl, dTru_bl, dNeg_int, dToInt_int, dToInt_bl, dLen_tup, dLen_lst, dMin2_int, dMulT_int, dToTup_lst, dToTup_tup, dToLst_lst, dToLst_tup, dats_nil, dats_cons, dIx_tup, dIx_lst, atI0, atI1, atI2, atI3, atI4, atI5, dInt_int, Option.map_some, Option.map_none, Option.bind_some, if_true, if_false, ite_true, ite_false, Bool.false_eq_true, Bool.true_eq_false, reduceIte, Bool.not_true, Bool.not_false, isi_int_int, isi_int_bool, isi_int_str, isi_int_tuple, isi_bool_int, isi_bool_bool, isi_bool_str, isi_bool_tuple, isi_str_int, isi_str_bool, isi_str_str, isi_str_tuple, isi_tup_int, isi_tup_bool, isi_tup_str, isi_tup_tuple, isi_lst_int, isi_lst_bool, isi_lst_str, isi_lst_tuple, isi_none_int, isi_none_bool, isi_none_str, isi_none_tuple, Int.cast_ofNat_Int, decide_true, decide_false, decide_eq_true_eq, not_true_eq_false, not_false_eq_true, Int.reduceEq, Int.reduceNe, Int.reduceLE, Int.reduceLT, Int.reduceAdd, Int.reduceSub, Int.reduceMul, Int.reduceNeg, ite_self, dMax2_int, dInR_int, gInR, le_bezout_0, fb_need_integer_row_0, le_gcd_row_of_0, fb_gcd_row_of_0, ez_gcd_row_of_0, le_shows_gcd_row_0, le_shows_gcd_row_1, le__law_integers_0, lt__law_integers_0, fb__law_integer_0, le__law_is_row_0, le__law_is_row_1, lt__law_is_row_0, le__law_gcd_right_0, lt__law_gcd_right_0, le__law_gcd_right_1, le__law_gcd_right_2, lt__law_gcd_right_1, le__law_lcm_right_0, le__law_lcm_right_1, lt__law_lcm_right_0, le__law_lcm_right_2, lt__law_lcm_right_1, fb__law_row_right_0, le__law_row_right_0, le__law_row_right_1, lt__law_row_right_0, le__law_row_right_2, lt__law_row_right_1, le__law_written_0, lt__law_written_0, le__law_written_1, le__law_written_2]
  simp only [gLc, giLst, gVar_un, wE, List.getElem?_cons_succ, List.getElem?_cons_zero, Rs.bind_ok, dLst, Rs.ofO_some, hl, if_true, wipeE, List.set_cons_succ, List.set_cons_zero]
  simp only [wE] at z
  rw [z, List.filter_eq_nil_iff.mpr (fun a _ => Bool.false_ne_true)]
  rfl
theorem w_odd {ds : List PyData} {P : PyData} {x3 x5 : Sl} (h : ∀ x ∈ ds, ∀ cu, G_takes_gcd_row [.dat (tupI ns), .dat x] cu = .ok (.bool false) cu) (hl : ds.length < 16777216) :
    gLc (giLst (gVar 6)) [7] (ggName 7) lt__law_row_right_1 le__law_row_right_2 (wE ns d P x3 x5 (.dat (.list ds))) cu = .ok [] cu := by
  have z := gLcL_pure (gg := ggName 7) (gt := lt__law_row_right_1) (ge := le__law_row_right_2) (cu := cu) (ρ := wE ns d P x3 x5 (.dat (.list ds))) (fun _ => false) id (ds := ds) fun x hx => by
    have k1 := h x hx cu
    refine ⟨_, rfl, ?_, fun z => nomatch z⟩
    simp only [wE, k1, e_same, gFn, gSeq, gIf, gSet, gSetO, gfCat, gfDisp, gBin, gCall, gApp, gaNil, gaCons, gaCup, gC_eq, gVar_un, gDisp, gSlice, gPart, gNoPart, gTru, gBool, gChain, gAnd, gOr, gNot, gAndV, gOrV, gNotV, gIfE, gUn, gCupF_un, gCupT_un, gCupSet, gRet, gAsg, gPar, gPar3, gDrop, gRaise, gSkip, gIsi, gFor, giTup, giLst, giArg, gLc, gL, gFrz, gApd, gYes, gAll, ggName, ggTup, ggCons, ggNil, wipeE, dLst, dTup, gForL_nil, gForL_cons, gLcL_nil, gLcL_cons, dZip_tup, dZip_lst, zipD_cc, zipD_nil, cutD_1, dCut_tup, dCut_lst, dAbs_ab, dAdd_tup, dAdd_lst, Rs.bind_ok, Rs.bind_exc, Rs.bind_stuck, Rs.ofO_some, Rs.nox_ok, List.getElem?_cons_zero, List.getElem?_cons_succ, List.set_cons_zero, List.set_cons_succ, List.length_cons, List.length_nil, List.length_append, List.length_map, List.replicate_succ, List.replicate_zero, List.cons_append, List.nil_append, List.append_nil, Nat.reduceAdd, Nat.reduceSub, Nat.reduceLT, Nat.reduceLeDiff, Nat.reduceEqDiff, Nat.zero_add, dAdd_int, dMul_int, fI0_int, fB0_int, fI_int, dEq_int, dNe_int, dEq_str, dNe_str, dEq_bl, dBool_bl, dTru_bl, dNeg_int, dToInt_int, dToInt_bl, dLen_tup, dLen_lst, dMin2_int, dMulT_int, dToTup_lst, dToTup_tup, dToLst_lst, dToLst_tup, dats_nil, dats_cons, dIx_tup, dIx_lst, atI0, atI1, atI2, atI3, atI4, atI5, dInt_int, Option.map_some, Option.map_none, Option.bind_some, if_true, if_false, ite_true, ite_false, Bool.false_eq_true, Bool.true_eq_false, reduceIte, Bool.not_true, Bool.not_false, isi_int_int, isi_int_bool, isi_int_str, isi_int_tuple, isi_bool_int, isi_bool_bool, isi_bool_str, isi_bool_tuple, isi_str_int, isi_str_bool, isi_str_str, isi_str_tuple, isi_tup_int, isi_tup_bool, isi_tup_str, isi_tup_tuple, isi_lst_int, isi_lst_bool, isi_lst_str, isi_lst_tuple, isi_none_int, isi_none_bool, isi_none_str, isi_none_tuple, Int.cast_ofNat_Int, decide_true, decide_false, decide_eq_true_eq, not_true_eq_false, not_false_eq_true, Int.reduceEq, Int.reduceNe, Int.reduceLE, Int.reduceLT, Int.reduceAdd, Int.reduceSub, Int.reduceMul, Int.reduceNeg, ite_self, dMax2_int, dInR_int, gInR, le_bezout_0, fb_need_integer_row_0, le_gcd_row_of_0, fb_gcd_row_of_0, ez_gcd_row_of_0, le_shows_gcd_row_0, le_shows_gcd_row_1, le__law_integers_0, lt__law_integers_0, fb__law_integer_0, le__law_is_row_0, le__law_is_row_1, lt__law_is_row_0, le__law_gcd_right_0, lt__law_gcd_right_0, le__law_gcd_right_1, le__law_gcd_right_2, lt__law_gcd_right_1, le__law_lcm_right_0, le__law_lcm_right_1, lt__law_lcm_right_0, le__law_lcm_right_2, lt__law_lcm_right_1, fb__law_row_right_0, le__law_row_right_0, le__law_row_right_1, lt__law_row_right_0, le__law_row_right_2, lt__law_row_right_1, le__law_written_0, lt__law_written_0, le__law_written_1, le__law_written_2]
  simp only [gLc, giLst, gVar_un, wE, List.getElem?_cons_succ, List.getElem?_cons_zero, Rs.bind_ok, dLst, Rs.ofO_some, hl, if_true, wipeE, List.set_cons_succ, List.set_cons_zero]
  simp only [wE] at z
  rw [z, List.filter_eq_nil_iff.mpr (fun a _ => Bool.false_ne_true)]
  rfl
theorem bad_ms (R : RowR ns) (hd : 0 ≤ d) {x : PyData} (h : ∀ cu, G_are_integers [.dat x, .dat (.int ns.length)] cu = .ok (.bool false) cu) {y : PyData} (cu : Cu) : G_takes_gcd_row [.dat (tupI ns), .dat (.tuple [.int d, x, y])] cu = .ok (.bool false) cu := by
  have hn := e_need_row (cu := cu) R
  have a1 := e_are1 (cu := cu) (d := d)
  have c1 : ¬ d < 0 := by omega
  simp only [G_takes_gcd_row, g_takes_gcd_row, G_shows_gcd_row, g_shows_gcd_row, hn, a1, cut3_a1, c1, List.length_map, h, gFn, gSeq, gIf, gSet, gSetO, gfCat, gfDisp, gBin, gCall, gApp, gaNil, gaCons, gaCup, gC_eq, gVar_un, gDisp, gSlice, gPart, gNoPart, gTru, gBool, gChain, gAnd, gOr, gNot, gAndV, gOrV, gNotV, gIfE, gUn, gCupF_un, gCupT_un, gCupSet, gRet, gAsg, gPar, gPar3, gDrop, gRaise, gSkip, gIsi, gFor, giTup, giLst, giArg, gLc, gL, gFrz, gApd, gYes, gAll, ggName, ggTup, ggCons, ggNil, wipeE, dLst, dTup, gForL_nil, gForL_cons, gLcL_nil, gLcL_cons, dZip_tup, dZip_lst, zipD_cc, zipD_nil, cutD_1, dCut_tup, dCut_lst, dAbs_ab, dAdd_tup, dAdd_lst, Rs.bind_ok, Rs.bind_exc, Rs.bind_stuck, Rs.ofO_some, Rs.nox_ok, List.getElem?_cons_zero, List.getElem?_cons_succ, List.set_cons_zero, List.set_cons_succ, List.length_cons, List.length_nil, List.length_append, List.length_map, List.replicate_succ, List.replicate_zero, List.cons_append, List.nil_append, List.append_nil, Nat.reduceAdd, Nat.reduceSub, Nat.reduceLT, Nat.reduceLeDiff, Nat.reduceEqDiff, Nat.zero_add, dAdd_int, dMul_int, fI0_int, fB0_int, fI_int, dEq_int, dNe_int, dEq_str, dNe_str, dEq_bl, dBool_bl, dTru_bl, dNeg_int, dToInt_int, dToInt_bl, dLen_tup, dLen_lst, dMin2_int, dMulT_int, dToTup_lst, dToTup_tup, dToLst_lst, dToLst_tup, dats_nil, dats_cons, dIx_tup, dIx_lst, atI0, atI1, atI2, atI3, atI4, atI5, dInt_int, Option.map_some, Option.map_none, Option.bind_some, if_true, if_false, ite_true, ite_false, Bool.false_eq_true, Bool.true_eq_false, reduceIte, Bool.not_true, Bool.not_false, isi_int_int, isi_int_bool, isi_int_str, isi_int_tuple, isi_bool_int, isi_bool_bool, isi_bool_str, isi_bool_tuple, isi_str_int, isi_str_bool, isi_str_str, isi_str_tuple, isi_tup_int, isi_tup_bool, isi_tup_str, isi_tup_tuple, isi_lst_int, isi_lst_bool, isi_lst_str, isi_lst_tuple, isi_none_int, isi_none_bool, isi_none_str, isi_none_tuple, Int.cast_ofNat_Int, decide_true, decide_false, decide_eq_true_eq, not_true_eq_false, not_false_eq_true, Int.reduceEq, Int.reduceNe, Int.reduceLE, Int.reduceLT, Int.reduceAdd, Int.reduceSub, Int.reduceMul, Int.reduceNeg, ite_self, dMax2_int, dInR_int, gInR]
theorem bad_qs (R : RowR ns) (hd : 0 ≤ d) {x y : PyData} (h1 : ∀ cu, G_are_integers [.dat x, .dat (.int ns.length)] cu = .ok (.bool true) cu) (h2 : ∀ cu, G_are_integers [.dat y, .dat (.int ns.length)] cu = .ok (.bool false) cu) (cu : Cu) : G_takes_gcd_row [.dat (tupI ns), .dat (.tuple [.int d, x, y])] cu = .ok (.bool false) cu := by
  have hn := e_need_row (cu := cu) R
  have a1 := e_are1 (cu := cu) (d := d)
  have c1 : ¬ d < 0 := by omega
  simp only [G_takes_gcd_row, g_takes_gcd_row, G_shows_gcd_row, g_shows_gcd_row, hn, a1, cut3_a1, c1, List.length_map, h1, h2, gFn, gSeq, gIf, gSet, gSetO, gfCat, gfDisp, gBin, gCall, gApp, gaNil, gaCons, gaCup, gC_eq, gVar_un, gDisp, gSlice, gPart, gNoPart, gTru, gBool, gChain, gAnd, gOr, gNot, gAndV, gOrV, gNotV, gIfE, gUn, gCupF_un, gCupT_un, gCupSet, gRet, gAsg, gPar, gPar3, gDrop, gRaise, gSkip, gIsi, gFor, giTup, giLst, giArg, gLc, gL, gFrz, gApd, gYes, gAll, ggName, ggTup, ggCons, ggNil, wipeE, dLst, dTup, gForL_nil, gForL_cons, gLcL_nil, gLcL_cons, dZip_tup, dZip_lst, zipD_cc, zipD_nil, cutD_1, dCut_tup, dCut_lst, dAbs_ab, dAdd_tup, dAdd_lst, Rs.bind_ok, Rs.bind_exc, Rs.bind_stuck, Rs.ofO_some, Rs.nox_ok, List.getElem?_cons_zero, List.getElem?_cons_succ, List.set_cons_zero, List.set_cons_succ, List.length_cons, List.length_nil, List.length_append, List.length_map, List.replicate_succ, List.replicate_zero, List.cons_append, List.nil_append, List.append_nil, Nat.reduceAdd, Nat.reduceSub, Nat.reduceLT, Nat.reduceLeDiff, Nat.reduceEqDiff, Nat.zero_add, dAdd_int, dMul_int, fI0_int, fB0_int, fI_int, dEq_int, dNe_int, dEq_str, dNe_str, dEq_bl, dBool_bl, dTru_bl, dNeg_int, dToInt_int, dToInt_bl, dLen_tup, dLen_lst, dMin2_int, dMulT_int, dToTup_lst, dToTup_tup, dToLst_lst, dToLst_tup, dats_nil, dats_cons, dIx_tup, dIx_lst, atI0, atI1, atI2, atI3, atI4, atI5, dInt_int, Option.map_some, Option.map_none, Option.bind_some, if_true, if_false, ite_true, ite_false, Bool.false_eq_true, Bool.true_eq_false, reduceIte, Bool.not_true, Bool.not_false, isi_int_int, isi_int_bool, isi_int_str, isi_int_tuple, isi_bool_int, isi_bool_bool, isi_bool_str, isi_bool_tuple, isi_str_int, isi_str_bool, isi_str_str, isi_str_tuple, isi_tup_int, isi_tup_bool, isi_tup_str, isi_tup_tuple, isi_lst_int, isi_lst_bool, isi_lst_str, isi_lst_tuple, isi_none_int, isi_none_bool, isi_none_str, isi_none_tuple, Int.cast_ofNat_Int, decide_true, decide_false, decide_eq_true_eq, not_true_eq_false, not_false_eq_true, Int.reduceEq, Int.reduceNe, Int.reduceLE, Int.reduceLT, Int.reduceAdd, Int.reduceSub, Int.reduceMul, Int.reduceNeg, ite_self, dMax2_int, dInR_int, gInR]
theorem bad_two (R : RowR ns) {x y : PyData} (cu : Cu) : G_takes_gcd_row [.dat (tupI ns), .dat (.tuple [x, y])] cu = .ok (.bool false) cu := by
  have hn := e_need_row (cu := cu) R
  simp only [G_takes_gcd_row, g_takes_gcd_row, G_shows_gcd_row, g_shows_gcd_row, hn, gFn, gSeq, gIf, gSet, gSetO, gfCat, gfDisp, gBin, gCall, gApp, gaNil, gaCons, gaCup, gC_eq, gVar_un, gDisp, gSlice, gPart, gNoPart, gTru, gBool, gChain, gAnd, gOr, gNot, gAndV, gOrV, gNotV, gIfE, gUn, gCupF_un, gCupT_un, gCupSet, gRet, gAsg, gPar, gPar3, gDrop, gRaise, gSkip, gIsi, gFor, giTup, giLst, giArg, gLc, gL, gFrz, gApd, gYes, gAll, ggName, ggTup, ggCons, ggNil, wipeE, dLst, dTup, gForL_nil, gForL_cons, gLcL_nil, gLcL_cons, dZip_tup, dZip_lst, zipD_cc, zipD_nil, cutD_1, dCut_tup, dCut_lst, dAbs_ab, dAdd_tup, dAdd_lst, Rs.bind_ok, Rs.bind_exc, Rs.bind_stuck, Rs.ofO_some, Rs.nox_ok, List.getElem?_cons_zero, List.getElem?_cons_succ, List.set_cons_zero, List.set_cons_succ, List.length_cons, List.length_nil, List.length_append, List.length_map, List.replicate_succ, List.replicate_zero, List.cons_append, List.nil_append, List.append_nil, Nat.reduceAdd, Nat.reduceSub, Nat.reduceLT, Nat.reduceLeDiff, Nat.reduceEqDiff, Nat.zero_add, dAdd_int, dMul_int, fI0_int, fB0_int, fI_int, dEq_int, dNe_int, dEq_str, dNe_str, dEq_bl, dBool_bl, dTru_bl, dNeg_int, dToInt_int, dToInt_bl, dLen_tup, dLen_lst, dMin2_int, dMulT_int, dToTup_lst, dToTup_tup, dToLst_lst, dToLst_tup, dats_nil, dats_cons, dIx_tup, dIx_lst, atI0, atI1, atI2, atI3, atI4, atI5, dInt_int, Option.map_some, Option.map_none, Option.bind_some, if_true, if_false, ite_true, ite_false, Bool.false_eq_true, Bool.true_eq_false, reduceIte, Bool.not_true, Bool.not_false, isi_int_int, isi_int_bool, isi_int_str, isi_int_tuple, isi_bool_int, isi_bool_bool, isi_bool_str, isi_bool_tuple, isi_str_int, isi_str_bool, isi_str_str, isi_str_tuple, isi_tup_int, isi_tup_bool, isi_tup_str, isi_tup_tuple, isi_lst_int, isi_lst_bool, isi_lst_str, isi_lst_tuple, isi_none_int, isi_none_bool, isi_none_str, isi_none_tuple, Int.cast_ofNat_Int, decide_true, decide_false, decide_eq_true_eq, not_true_eq_false, not_false_eq_true, Int.reduceEq, Int.reduceNe, Int.reduceLE, Int.reduceLT, Int.reduceAdd, Int.reduceSub, Int.reduceMul, Int.reduceNeg, ite_self, dMax2_int, dInR_int, gInR]
theorem bad_none (R : RowR ns) (cu : Cu) : G_takes_gcd_row [.dat (tupI ns), .dat .none] cu = .ok (.bool false) cu := by
  have hn := e_need_row (cu := cu) R
  simp only [G_takes_gcd_row, g_takes_gcd_row, G_shows_gcd_row, g_shows_gcd_row, hn, gFn, gSeq, gIf, gSet, gSetO, gfCat, gfDisp, gBin, gCall, gApp, gaNil, gaCons, gaCup, gC_eq, gVar_un, gDisp, gSlice, gPart, gNoPart, gTru, gBool, gChain, gAnd, gOr, gNot, gAndV, gOrV, gNotV, gIfE, gUn, gCupF_un, gCupT_un, gCupSet, gRet, gAsg, gPar, gPar3, gDrop, gRaise, gSkip, gIsi, gFor, giTup, giLst, giArg, gLc, gL, gFrz, gApd, gYes, gAll, ggName, ggTup, ggCons, ggNil, wipeE, dLst, dTup, gForL_nil, gForL_cons, gLcL_nil, gLcL_cons, dZip_tup, dZip_lst, zipD_cc, zipD_nil, cutD_1, dCut_tup, dCut_lst, dAbs_ab, dAdd_tup, dAdd_lst, Rs.bind_ok, Rs.bind_exc, Rs.bind_stuck, Rs.ofO_some, Rs.nox_ok, List.getElem?_cons_zero, List.getElem?_cons_succ, List.set_cons_zero, List.set_cons_succ, List.length_cons, List.length_nil, List.length_append, List.length_map, List.replicate_succ, List.replicate_zero, List.cons_append, List.nil_append, List.append_nil, Nat.reduceAdd, Nat.reduceSub, Nat.reduceLT, Nat.reduceLeDiff, Nat.reduceEqDiff, Nat.zero_add, dAdd_int, dMul_int, fI0_int, fB0_int, fI_int, dEq_int, dNe_int, dEq_str, dNe_str, dEq_bl, dBool_bl, dTru_bl, dNeg_int, dToInt_int, dToInt_bl, dLen_tup, dLen_lst, dMin2_int, dMulT_int, dToTup_lst, dToTup_tup, dToLst_lst, dToLst_tup, dats_nil, dats_cons, dIx_tup, dIx_lst, atI0, atI1, atI2, atI3, atI4, atI5, dInt_int, Option.map_some, Option.map_none, Option.bind_some, if_true, if_false, ite_true, ite_false, Bool.false_eq_true, Bool.true_eq_false, reduceIte, Bool.not_true, Bool.not_false, isi_int_int, isi_int_bool, isi_int_str, isi_int_tuple, isi_bool_int, isi_bool_bool, isi_bool_str, isi_bool_tuple, isi_str_int, isi_str_bool, isi_str_str, isi_str_tuple, isi_tup_int, isi_tup_bool, isi_tup_str, isi_tup_tuple, isi_lst_int, isi_lst_bool, isi_lst_str, isi_lst_tuple, isi_none_int, isi_none_bool, isi_none_str, isi_none_tuple, Int.cast_ofNat_Int, decide_true, decide_false, decide_eq_true_eq, not_true_eq_false, not_false_eq_true, Int.reduceEq, Int.reduceNe, Int.reduceLE, Int.reduceLT, Int.reduceAdd, Int.reduceSub, Int.reduceMul, Int.reduceNeg, ite_self, dMax2_int, dInR_int, gInR]
theorem w_due : ∀ (l : List Int) (c : Int) (y : Sl) (cu : Cu), ∃ y', gForL (ggName 3) fb__law_row_right_0 (l.map .int) [.cup, .dat (tupI ns), .dat (.int c), y, .un, .un, .un, .un, .un] cu = .ok (.nx [.cup, .dat (tupI ns), .dat (.int (gfold c l)), y', .un, .un, .un, .un, .un]) cu
  | [], c, y, cu => ⟨y, rfl⟩
  | n :: r, c, y, cu => by
    obtain ⟨y', e⟩ := w_due r ((Int.gcd c n : Nat) : Int) (.dat (.int n)) cu
    refine ⟨y', ?_⟩
    have ec := e_common (cu := cu) (a := c) (b := n)
    have ef : fb__law_row_right_0 [.cup, .dat (tupI ns), .dat (.int c), .dat (.int n), .un, .un, .un, .un, .un] cu = .ok (.nx [.cup, .dat (tupI ns), .dat (.int ((Int.gcd c n : Nat) : Int)), .dat (.int n), .un, .un, .un, .un, .un]) cu := by
      simp only [fb__law_row_right_0, ec, gFn, gSeq, gIf, gSet, gSetO, gfCat, gfDisp, gBin, gCall, gApp, gaNil, gaCons, gaCup, gC_eq, gVar_un, gDisp, gSlice, gPart, gNoPart, gTru, gBool, gChain, gAnd, gOr, gNot, gAndV, gOrV, gNotV, gIfE, gUn, gCupF_un, gCupT_un, gCupSet, gRet, gAsg, gPar, gPar3, gDrop, gRaise, gSkip, gIsi, gFor, giTup, giLst, giArg, gLc, gL, gFrz, gApd, gYes, gAll, ggName, ggTup, ggCons, ggNil, wipeE, dLst, dTup, gForL_nil, gForL_cons, gLcL_nil, gLcL_cons, dZip_tup, dZip_lst, zipD_cc, zipD_nil, cutD_1, dCut_tup, dCut_lst, dAbs_ab, dAdd_tup, dAdd_lst, Rs.bind_ok, Rs.bind_exc, Rs.bind_stuck, Rs.ofO_some, Rs.nox_ok, List.getElem?_cons_zero, List.getElem?_cons_succ, List.set_cons_zero, List.set_cons_succ, List.length_cons, List.length_nil, List.length_append, List.length_map, List.replicate_succ, List.replicate_zero, List.cons_append, List.nil_append, List.append_nil, Nat.reduceAdd, Nat.reduceSub, Nat.reduceLT, Nat.reduceLeDiff, Nat.reduceEqDiff, Nat.zero_add, dAdd_int, dMul_int, fI0_int, fB0_int, fI_int, dEq_int, dNe_int, dEq_str, dNe_str, dEq_bl, dBool_bl, dTru_bl, dNeg_int, dToInt_int, dToInt_bl, dLen_tup, dLen_lst, dMin2_int, dMulT_int, dToTup_lst, dToTup_tup, dToLst_lst, dToLst_tup, dats_nil, dats_cons, dIx_tup, dIx_lst, atI0, atI1, atI2, atI3, atI4, atI5, dInt_int, Option.map_some, Option.map_none, Option.bind_some, if_true, if_false, ite_true, ite_false, Bool.false_eq_true, Bool.true_eq_false, reduceIte, Bool.not_true, Bool.not_false, isi_int_int, isi_int_bool, isi_int_str, isi_int_tuple, isi_bool_int, isi_bool_bool, isi_bool_str, isi_bool_tuple, isi_str_int, isi_str_bool, isi_str_str, isi_str_tuple, isi_tup_int, isi_tup_bool, isi_tup_str, isi_tup_tuple, isi_lst_int, isi_lst_bool, isi_lst_str, isi_lst_tuple, isi_none_int, isi_none_bool, isi_none_str, isi_none_tuple, Int.cast_ofNat_Int, decide_true, decide_false, decide_eq_true_eq, not_true_eq_false, not_false_eq_true, Int.reduceEq, Int.reduceNe, Int.reduceLE, Int.reduceLT, Int.reduceAdd, Int.reduceSub, Int.reduceMul, Int.reduceNeg, ite_self, dMax2_int, dInR_int, gInR]
    rw [List.map_cons, gForL_cons]
    show ((Rs.ok ([.cup, .dat (tupI ns), .dat (.int c), .dat (.int n), .un, .un, .un, .un, .un] : En) cu).bind _) = _
    rw [Rs.bind_ok, ef, Rs.bind_ok]
    exact e
theorem w_twice {P : PyData} {x3 x5 x6 : Sl} (hm : ms.length < 1000) {q : PyData} : gLc (giTup (gBin dIx (gVar 4) (gC (.int 1)))) [8] (ggName 8) gYes le__law_row_right_0 (wE ns d (.tuple [.int d, tupI ms, q]) x3 x5 x6) cu = .ok ((ms.map (· * 2)).map PyData.int) cu := by
  have zz := gLcL_map (gg := ggName 8) (ge := le__law_row_right_0) (cu := cu) (ρ := wE ns d (.tuple [.int d, tupI ms, q]) x3 x5 x6) (ds := ms.map .int) (fun d => match d with | .int i => .int (i * 2) | d => d) fun d hd => by
    obtain ⟨m, hm', rfl⟩ := List.mem_map.mp hd
    have o : mulOk m 2 = true := mulOk_r (by decide)
    refine ⟨_, rfl, ?_⟩
    simp only [wE, o, gFn, gSeq, gIf, gSet, gSetO, gfCat, gfDisp, gBin, gCall, gApp, gaNil, gaCons, gaCup, gC_eq, gVar_un, gDisp, gSlice, gPart, gNoPart, gTru, gBool, gChain, gAnd, gOr, gNot, gAndV, gOrV, gNotV, gIfE, gUn, gCupF_un, gCupT_un, gCupSet, gRet, gAsg, gPar, gPar3, gDrop, gRaise, gSkip, gIsi, gFor, giTup, giLst, giArg, gLc, gL, gFrz, gApd, gYes, gAll, ggName, ggTup, ggCons, ggNil, wipeE, dLst, dTup, gForL_nil, gForL_cons, gLcL_nil, gLcL_cons, dZip_tup, dZip_lst, zipD_cc, zipD_nil, cutD_1, dCut_tup, dCut_lst, dAbs_ab, dAdd_tup, dAdd_lst, Rs.bind_ok, Rs.bind_exc, Rs.bind_stuck, Rs.ofO_some, Rs.nox_ok, List.getElem?_cons_zero, List.getElem?_cons_succ, List.set_cons_zero, List.set_cons_succ, List.length_cons, List.length_nil, List.length_append, List.length_map, List.replicate_succ, List.replicate_zero, List.cons_append, List.nil_append, List.append_nil, Nat.reduceAdd, Nat.reduceSub, Nat.reduceLT, Nat.reduceLeDiff, Nat.reduceEqDiff, Nat.zero_add, dAdd_int, dMul_int, fI0_int, fB0_int, fI_int, dEq_int, dNe_int, dEq_str, dNe_str, dEq_bl, dBool_bl, dTru_bl, dNeg_int, dToInt_int, dToInt_bl, dLen_tup, dLen_lst, dMin2_int, dMulT_int, dToTup_lst, dToTup_tup, dToLst_lst, dToLst_tup, dats_nil, dats_cons, dIx_tup, dIx_lst, atI0, atI1, atI2, atI3, atI4, atI5, dInt_int, Option.map_some, Option.map_none, Option.bind_some, if_true, if_false, ite_true, ite_false, Bool.false_eq_true, Bool.true_eq_false, reduceIte, Bool.not_true, Bool.not_false, isi_int_int, isi_int_bool, isi_int_str, isi_int_tuple, isi_bool_int, isi_bool_bool, isi_bool_str, isi_bool_tuple, isi_str_int, isi_str_bool, isi_str_str, isi_str_tuple, isi_tup_int, isi_tup_bool, isi_tup_str, isi_tup_tuple, isi_lst_int, isi_lst_bool, isi_lst_str, isi_lst_tuple, isi_none_int, isi_none_bool, isi_none_str, isi_none_tuple, Int.cast_ofNat_Int, decide_true, decide_false, decide_eq_true_eq, not_true_eq_false, not_false_eq_true, Int.reduceEq, Int.reduceNe, Int.reduceLE, Int.reduceLT, Int.reduceAdd, Int.reduceSub, Int.reduceMul, Int.reduceNeg, ite_self, dMax2_int, dInR_int, gInR, le_bezout_0, fb_need_integer_row_0, le_gcd_row_of_0, fb_gcd_row_of_0, ez_gcd_row_of_0, le_shows_gcd_row_0, le_shows_gcd_row_1, le__law_integers_0, lt__law_integers_0, fb__law_integer_0, le__law_is_row_0, le__law_is_row_1, lt__law_is_row_0, le__law_gcd_right_0, lt__law_gcd_right_0, le__law_gcd_right_1, le__law_gcd_right_2, lt__law_gcd_right_1, le__law_lcm_right_0, le__law_lcm_right_1, lt__law_lcm_right_0, le__law_lcm_right_2, lt__law_lcm_right_1, fb__law_row_right_0, le__law_row_right_0, le__law_row_right_1, lt__law_row_right_0, le__law_row_right_2, lt__law_row_right_1, le__law_written_0, lt__law_written_0, le__law_written_1, le__law_written_2]
  have hl' : (ms.map PyData.int).length < 16777216 := by rw [List.length_map]; omega
  simp only [gLc, giTup, gBin, gC_eq, gVar_un, wE, List.getElem?_cons_succ, List.getElem?_cons_zero, Rs.bind_ok, dIx_tup, atI1, dTup, Rs.ofO_some, hl', if_true, wipeE, List.set_cons_succ, List.set_cons_zero]
  simp only [wE] at zz
  rw [zz, List.map_map, List.map_map]
  rfl
theorem e_row_right (R : RowR ns) (cu : Cu) : ∃ c, G__law_row_right [.cup, .dat (tupI ns)] cu = .ok (.bool true) c := by
  obtain ⟨d, ms, qs, Q, e⟩ := e_row_paper R
  obtain ⟨y', ed⟩ := w_due (ns := ns) ns 0 .un cu
  rw [← Q.gd] at ed
  have hlo := R.lo
  have hhi := R.hi
  have lm := Q.lm
  have lq := Q.lq
  have hi1 := e_lint1 (cu := cu) (d := d)
  have hi2 : G__law_integers [.dat (tupI ms), .dat (.int ns.length)] cu = .ok (.bool true) cu := by rw [e_law_integers (by omega), decide_eq_true (by omega)]
  have hi3 : G__law_integers [.dat (tupI qs), .dat (.int ns.length)] cu = .ok (.bool true) cu := by rw [e_law_integers (by omega), decide_eq_true (by omega)]
  have sd : Sm d := Q.rg.sm
  have sm : ∀ m ∈ ms, Sm m := fun m h => (Q.hm m h).sm
  have sq : ∀ q ∈ qs, Sm q := fun q h => (Q.hq q h).sm
  have hok : rowOk ns d ms qs = true := by
    unfold rowOk
    rw [decide_eq_true Q.nn, decide_eq_true (by rw [dot_comm]; exact Q.dot), Bool.true_and, Bool.true_and, List.all_eq_true]
    intro p hp
    rw [Q.quo] at hp
    have hdv := (gfold_dvd (ns := ns) (c := 0)).2
    rw [← Q.gd] at hdv
    have : ∀ (l : List Int), (∀ n ∈ l, d ∣ n) → ∀ p ∈ List.zip l (l.map (Prog.quo d)), p.2 * d = p.1 := by
      intro l
      induction l with
      | nil => exact fun _ p hp => nomatch hp
      | cons n r ih =>
        intro h p hp
        rw [List.map_cons, List.zip_cons_cons] at hp
        rcases List.mem_cons.mp hp with rfl | hp
        · exact quo_mul (h n (List.mem_cons_self ..))
        · exact ih (fun m hm => h m (List.mem_cons_of_mem _ hm)) p hp
    exact decide_eq_true (this ns hdv p hp)
  have hj : G__law_is_row [.dat (tupI ns), .dat (rowP d ms qs)] cu = .ok (.bool true) cu := by rw [e_law_is_row R sd sm sq, hok]
  obtain ⟨m2, c1, lm2, hm2, es1⟩ := e_spoilt (cu := cu) (zs := ms) (by omega) (by omega) Q.hm
  obtain ⟨q2, c2, lq2, hq2, es2⟩ := e_spoilt (cu := c1) (zs := qs) (by omega) (by omega) Q.hq
  have k1 : mulOk d 2 = true := mulOk_r (by decide)
  have hb : (2 : Nat) ^ 340 * 4 < 2 ^ 2000 := by decide
  have bd := Q.rg.b
  have sd1 : Sm (d + 1) := by unfold Sm; omega
  have sd2 : Sm (d * 2) := by unfold Sm; omega
  have sm2 : ∀ m ∈ ms.map (· * 2), Sm m := fun m h => by
    obtain ⟨m0, h0, rfl⟩ := List.mem_map.mp h
    have := Q.hm m0 h0
    have hb : (2 : Nat) ^ 1998 * 2 < 2 ^ 2000 := by decide
    unfold Hf at this
    unfold Sm
    show (m0 * 2).natAbs < _
    omega
  let P := rowP d ms qs
  let O : List PyData := [rowP d ms qs, rowP d m2 qs, rowP d ms q2, rowP (d + 1) ms qs, rowP (d * 2) (ms.map (· * 2)) qs]
  have ht := w_told (cu := c2) (d := d) (P := P) (x3 := y') (x6 := .un) (ds := O) R (by
    intro x hx
    simp only [O, List.mem_cons, List.not_mem_nil, or_false] at hx
    rcases hx with rfl | rfl | rfl | rfl | rfl
    · exact ⟨_, _, _, rfl, lm, lq, sd, sm, sq⟩
    · exact ⟨_, _, _, rfl, by omega, lq, sd, hm2, sq⟩
    · exact ⟨_, _, _, rfl, lm, by omega, sd, sm, hq2⟩
    · exact ⟨_, _, _, rfl, lm, lq, sd1, sm, sq⟩
    · exact ⟨_, _, _, rfl, by rw [List.length_map]; exact lm, lq, sd2, sm2, sq⟩) (show 5 < 16777216 by decide)
  let Od : List PyData := [rowP d (ms.drop 1) qs, rowP d ms (qs ++ [0]), .tuple [.int d, lstI ms, tupI qs], .tuple [.int d, tupI ms], .none]
  have ho := w_odd (cu := c2) (d := d) (P := P) (x3 := y') (x5 := .dat (.list O)) (ds := Od) (ns := ns) (by
    intro x hx
    simp only [Od, List.mem_cons, List.not_mem_nil, or_false] at hx
    rcases hx with rfl | rfl | rfl | rfl | rfl
    · exact bad_ms R Q.nn fun cu => e_are_ne (by rw [List.length_drop]; omega)
    · exact bad_qs R Q.nn (fun cu => e_are_n lm) fun cu => e_are_ne (by rw [List.length_append, List.length_cons, List.length_nil]; omega)
    · exact bad_ms R Q.nn fun cu => e_are_lst
    · exact bad_two R
    · exact bad_none R) (show 5 < 16777216 by decide)
  have e0 : ta__law_row_right_0 (wE ns d P y' (.dat (.list O)) (.dat (.list Od))) c2 = .ok (.ret (.bool true)) c2 := by
    simp only [ta__law_row_right_0, gRet, gBin, gL, ho, gDisp, gaNil, Rs.bind_ok, Rs.ofO_some, dats_nil, Option.bind_some, List.length_nil, Nat.zero_le, if_true, eqL_nil2]
  have e1 : ta__law_row_right_1 (wE ns d P y' (.dat (.list O)) .un) c2 = .ok (.ret (.bool true)) c2 := by
    have cd := cutI_drop (zs := ms) (i := 1) (by decide) (by omega)
    have g1 : (1 : Int).toNat = 1 := rfl
    rw [g1] at cd
    have ap : qs.map PyData.int ++ [PyData.int 0] = (qs ++ [0]).map PyData.int := by rw [List.map_append]; rfl
    have l1 : qs.length + 1 ≤ 16777216 := by omega
    simp only [wE, P, rowP, Od] at e0 ⊢
    simp only [ta__law_row_right_1, cd, cut3_a2, List.length_map, l1, ap, e0, gFn, gSeq, gIf, gSet, gSetO, gfCat, gfDisp, gBin, gCall, gApp, gaNil, gaCons, gaCup, gC_eq, gVar_un, gDisp, gSlice, gPart, gNoPart, gTru, gBool, gChain, gAnd, gOr, gNot, gAndV, gOrV, gNotV, gIfE, gUn, gCupF_un, gCupT_un, gCupSet, gRet, gAsg, gPar, gPar3, gDrop, gRaise, gSkip, gIsi, gFor, giTup, giLst, giArg, gLc, gL, gFrz, gApd, gYes, gAll, ggName, ggTup, ggCons, ggNil, wipeE, dLst, dTup, gForL_nil, gForL_cons, gLcL_nil, gLcL_cons, dZip_tup, dZip_lst, zipD_cc, zipD_nil, cutD_1, dCut_tup, dCut_lst, dAbs_ab, dAdd_tup, dAdd_lst, Rs.bind_ok, Rs.bind_exc, Rs.bind_stuck, Rs.ofO_some, Rs.nox_ok, List.getElem?_cons_zero, List.getElem?_cons_succ, List.set_cons_zero, List.set_cons_succ, List.length_cons, List.length_nil, List.length_append, List.length_map, List.replicate_succ, List.replicate_zero, List.cons_append, List.nil_append, List.append_nil, Nat.reduceAdd, Nat.reduceSub, Nat.reduceLT, Nat.reduceLeDiff, Nat.reduceEqDiff, Nat.zero_add, dAdd_int, dMul_int, fI0_int, fB0_int, fI_int, dEq_int, dNe_int, dEq_str, dNe_str, dEq_bl, dBool_bl, dTru_bl, dNeg_int, dToInt_int, dToInt_bl, dLen_tup, dLen_lst, dMin2_int, dMulT_int, dToTup_lst, dToTup_tup, dToLst_lst, dToLst_tup, dats_nil, dats_cons, dIx_tup, dIx_lst, atI0, atI1, atI2, atI3, atI4, atI5, dInt_int, Option.map_some, Option.map_none, Option.bind_some, if_true, if_false, ite_true, ite_false, Bool.false_eq_true, Bool.true_eq_false, reduceIte, Bool.not_true, Bool.not_false, isi_int_int, isi_int_bool, isi_int_str, isi_int_tuple, isi_bool_int, isi_bool_bool, isi_bool_str, isi_bool_tuple, isi_str_int, isi_str_bool, isi_str_str, isi_str_tuple, isi_tup_int, isi_tup_bool, isi_tup_str, isi_tup_tuple, isi_lst_int, isi_lst_bool, isi_lst_str, isi_lst_tuple, isi_none_int, isi_none_bool, isi_none_str, isi_none_tuple, Int.cast_ofNat_Int, decide_true, decide_false, decide_eq_true_eq, not_true_eq_false, not_false_eq_true, Int.reduceEq, Int.reduceNe, Int.reduceLE, Int.reduceLT, Int.reduceAdd, Int.reduceSub, Int.reduceMul, Int.reduceNeg, ite_self, dMax2_int, dInR_int, gInR]
  have e2 : ta__law_row_right_2 (wE ns d P y' (.dat (.list O)) .un) c2 = .ok (.ret (.bool true)) c2 := by
    simp only [ta__law_row_right_2, gSeq, gIf, gBool, gBin, gL, ht, gDisp, gaNil, eqL_nil', Rs.bind_ok, Rs.ofO_some, dats_nil, Option.bind_some, List.length_nil, Nat.zero_le, if_true, dBool_bl, Bool.false_eq_true, if_false, gSkip, e1]
  have e4 : ta__law_row_right_4 (wE ns d P y' (.own [rowP d ms qs, rowP d m2 qs, rowP d ms q2, rowP (d + 1) ms qs]) .un) c2 = .ok (.ret (.bool true)) c2 := by
    have et := w_twice (cu := c2) (ns := ns) (d := d) (ms := ms) (P := P) (x3 := y') (x5 := .own [rowP d ms qs, rowP d m2 qs, rowP d ms q2, rowP (d + 1) ms qs]) (x6 := .un) (by omega) (q := tupI qs)
    simp only [wE, P, rowP, O] at et e2 ⊢
    simp only [ta__law_row_right_4, ta__law_row_right_3, gSeq, gApd, gDisp, gaCons, gaNil, gBin, gCall, gL, et, gC_eq, gVar_un, k1, List.getElem?_cons_succ, List.getElem?_cons_zero, Rs.bind_ok, Rs.ofO_some, dMul_int, dIx_tup, atI2, dToTup_lst, dats_cons, dats_nil, Option.map_some, Option.bind_some, List.length_cons, List.length_nil, Nat.reduceAdd, Nat.reduceLeDiff, Nat.reduceLT, if_true, List.set_cons_succ, List.set_cons_zero, List.cons_append, List.nil_append, gFrz, e2]
  have e8 : ta__law_row_right_8 [.cup, .dat (tupI ns), .dat (.int d), y', .un, .un, .un, .un, .un] cu = .ok (.ret (.bool true)) c2 := by
    have l2 : (0 : Nat) + 1 + 2 ≤ 16777216 := by decide
    simp only [wE, P, rowP] at e4 e hj ⊢
    simp only [ta__law_row_right_8, ta__law_row_right_7, ta__law_row_right_6, ta__law_row_right_5, e, cut3_a1, cut3_b1, hi1, hi2, hi3, hj, es1, es2, List.length_map, e4, gFn, gSeq, gIf, gSet, gSetO, gfCat, gfDisp, gBin, gCall, gApp, gaNil, gaCons, gaCup, gC_eq, gVar_un, gDisp, gSlice, gPart, gNoPart, gTru, gBool, gChain, gAnd, gOr, gNot, gAndV, gOrV, gNotV, gIfE, gUn, gCupF_un, gCupT_un, gCupSet, gRet, gAsg, gPar, gPar3, gDrop, gRaise, gSkip, gIsi, gFor, giTup, giLst, giArg, gLc, gL, gFrz, gApd, gYes, gAll, ggName, ggTup, ggCons, ggNil, wipeE, dLst, dTup, gForL_nil, gForL_cons, gLcL_nil, gLcL_cons, dZip_tup, dZip_lst, zipD_cc, zipD_nil, cutD_1, dCut_tup, dCut_lst, dAbs_ab, dAdd_tup, dAdd_lst, Rs.bind_ok, Rs.bind_exc, Rs.bind_stuck, Rs.ofO_some, Rs.nox_ok, List.getElem?_cons_zero, List.getElem?_cons_succ, List.set_cons_zero, List.set_cons_succ, List.length_cons, List.length_nil, List.length_append, List.length_map, List.replicate_succ, List.replicate_zero, List.cons_append, List.nil_append, List.append_nil, Nat.reduceAdd, Nat.reduceSub, Nat.reduceLT, Nat.reduceLeDiff, Nat.reduceEqDiff, Nat.zero_add, dAdd_int, dMul_int, fI0_int, fB0_int, fI_int, dEq_int, dNe_int, dEq_str, dNe_str, dEq_bl, dBool_bl, dTru_bl, dNeg_int, dToInt_int, dToInt_bl, dLen_tup, dLen_lst, dMin2_int, dMulT_int, dToTup_lst, dToTup_tup, dToLst_lst, dToLst_tup, dats_nil, dats_cons, dIx_tup, dIx_lst, atI0, atI1, atI2, atI3, atI4, atI5, dInt_int, Option.map_some, Option.map_none, Option.bind_some, if_true, if_false, ite_true, ite_false, Bool.false_eq_true, Bool.true_eq_false, reduceIte, Bool.not_true, Bool.not_false, isi_int_int, isi_int_bool, isi_int_str, isi_int_tuple, isi_bool_int, isi_bool_bool, isi_bool_str, isi_bool_tuple, isi_str_int, isi_str_bool, isi_str_str, isi_str_tuple, isi_tup_int, isi_tup_bool, isi_tup_str, isi_tup_tuple, isi_lst_int, isi_lst_bool, isi_lst_str, isi_lst_tuple, isi_none_int, isi_none_bool, isi_none_str, isi_none_tuple, Int.cast_ofNat_Int, decide_true, decide_false, decide_eq_true_eq, not_true_eq_false, not_false_eq_true, Int.reduceEq, Int.reduceNe, Int.reduceLE, Int.reduceLT, Int.reduceAdd, Int.reduceSub, Int.reduceMul, Int.reduceNeg, ite_self, dMax2_int, dInR_int, gInR]
  refine ⟨c2, ?_⟩
  simp only [G__law_row_right, g__law_row_right, gFn, gSeq, gSet, gC_eq, gFor, giTup, gVar_un, List.cons_append, List.nil_append, List.length_cons, List.length_nil, Nat.reduceAdd, Nat.reduceSub, Nat.zero_add, List.replicate_succ, List.replicate_zero, List.getElem?_cons_succ, List.getElem?_cons_zero, List.set_cons_succ, List.set_cons_zero, Rs.bind_ok, dTup, Rs.ofO_some, ed, e8]
end
end Prog

set_option Elab.async false
set_option linter.all false
set_option maxRecDepth 100000
set_option maxHeartbeats 4000000
set_option autoImplicit false
set_option exponentiation.threshold 4000
namespace Prog
open PySem PySem.Spec L2 DL
section
variable {cu : Cu}
theorem rg_of {x : Int} (h : x.natAbs ≤ Big.natAbs) : Rg x := by
  have h0 : (0 : Int) ≤ Big := by decide
  exact ⟨by omega, by omega⟩
abbrev tens : List Int := [1, 2, 2, 3, 3, 5, 7, 10]
theorem i_loop : ∀ (l : List PyData) (f : Int) (b : Nat) (y : Sl) (cu : Cu), f.natAbs ≤ b → ∃ f' c y', f'.natAbs ≤ b * 10 ^ l.length ∧ gForL (ggName 3) fb__law_integer_0 l [.cup, .dat (.int 2), .dat (.int f), y] cu = .ok (.nx [.cup, .dat (.int 2), .dat (.int f'), y']) c
  | [], f, b, y, cu, h => ⟨f, cu, y, by simpa using h, rfl⟩
  | d :: r, f, b, y, cu, h => by
    obtain ⟨z, hz, c1, e1⟩ := some_ex tens (by decide) (by decide) cu
    have bz : z.natAbs ≤ 10 := by
      simp only [tens, List.mem_cons, List.not_mem_nil, or_false] at hz
      rcases hz with rfl | rfl | rfl | rfl | rfl | rfl | rfl | rfl <;> decide
    have hb : (f * z).natAbs ≤ b * 10 := by rw [Int.natAbs_mul]; exact Nat.mul_le_mul h bz
    obtain ⟨f', c, y', h', e⟩ := i_loop r (f * z) (b * 10) (.dat d) c1 hb
    refine ⟨f', c, y', by rw [List.length_cons, Nat.pow_succ]; rw [Nat.mul_assoc, Nat.mul_comm 10] at h'; exact h', ?_⟩
    have o : mulOk f z = true := mulOk_r (by omega)
    simp only [lstI, tens, List.map_cons, List.map_nil] at e1
    have ef : fb__law_integer_0 [.cup, .dat (.int 2), .dat (.int f), .dat d] cu = .ok (.nx [.cup, .dat (.int 2), .dat (.int (f * z)), .dat d]) c1 := by
      simp only [fb__law_integer_0, e1, o, gFn, gSeq, gIf, gSet, gSetO, gfCat, gfDisp, gBin, gCall, gApp, gaNil, gaCons, gaCup, gC_eq, gVar_un, gDisp, gSlice, gPart, gNoPart, gTru, gBool, gChain, gAnd, gOr, gNot, gAndV, gOrV, gNotV, gIfE, gUn, gCupF_un, gCupT_un, gCupSet, gRet, gAsg, gPar, gPar3, gDrop, gRaise, gSkip, gIsi, gFor, giTup, giLst, giArg, gLc, gL, gFrz, gApd, gYes, gAll, ggName, ggTup, ggCons, ggNil, wipeE, dLst, dTup, gForL_nil, gForL_cons, gLcL_nil, gLcL_cons, dZip_tup, dZip_lst, zipD_cc, zipD_nil, cutD_1, dCut_tup, dCut_lst, dAbs_ab, dAdd_tup, dAdd_lst, Rs.bind_ok, Rs.bind_exc, Rs.bind_stuck, Rs.ofO_some, Rs.nox_ok, List.getElem?_cons_zero, List.getElem?_cons_succ, List.set_cons_zero, List.set_cons_succ, List.length_cons, List.length_nil, List.length_append, List.length_map, List.replicate_succ, List.replicate_zero, List.cons_append, List.nil_append, List.append_nil, Nat.reduceAdd, Nat.reduceSub, Nat.reduceLT, Nat.reduceLeDiff, Nat.reduceEqDiff, Nat.zero_add, dAdd_int, dMul_int, fI0_int, fB0_int, fI_int, dEq_int, dNe_int, dEq_str, dNe_str, dEq_bl, dBool_bl, dTru_bl, dNeg_int, dToInt_int, dToInt_bl, dLen_tup, dLen_lst, dMin2_int, dMulT_int, dToTup_lst, dToTup_tup, dToLst_lst, dToLst_tup, dats_nil, dats_cons, dIx_tup, dIx_lst, atI0, atI1, atI2, atI3, atI4, atI5, dInt_int, Option.map_some, Option.map_none, Option.bind_some, if_true, if_false, ite_true, ite_false, Bool.false_eq_true, Bool.true_eq_false, reduceIte, Bool.not_true, Bool.not_false, isi_int_int, isi_int_bool, isi_int_str, isi_int_tuple, isi_bool_int, isi_bool_bool, isi_bool_str, isi_bool_tuple, isi_str_int, isi_str_bool, isi_str_str, isi_str_tuple, isi_tup_int, isi_tup_bool, isi_tup_str, isi_tup_tuple, isi_lst_int, isi_lst_bool, isi_lst_str, isi_lst_tuple, isi_none_int, isi_none_bool, isi_none_str, isi_none_tuple, Int.cast_ofNat_Int, decide_true, decide_false, decide_eq_true_eq, not_true_eq_false, not_false_eq_true, Int.reduceEq, Int.reduceNe, Int.reduceLE, Int.reduceLT, Int.reduceAdd, Int.reduceSub, Int.reduceMul, Int.reduceNeg, ite_self, dMax2_int, dInR_int, gInR]
    rw [gForL_cons]
    show ((Rs.ok ([.cup, .dat (.int 2), .dat (.int f), .dat d] : En) cu).bind _) = _
    rw [Rs.bind_ok, ef, Rs.bind_ok]
    exact e
theorem e_law_integer (cu : Cu) : ∃ z c, Rg z ∧ G__law_integer [.cup] cu = .ok (.int z) c := by
  obtain ⟨s, c1, s0, s1, e1⟩ := roll_ex 6 (by decide) (by decide) cu
  have hB : (10 : Nat) ^ 60 ≤ Big.natAbs := by decide
  by_cases h1 : s < 2
  · obtain ⟨v, c2, v0, v1, e2⟩ := roll_ex 25 (by decide) (by decide) c1
    refine ⟨v - 12, c2, rg_of (by omega), ?_⟩
    simp only [G__law_integer, g__law_integer, e1, e2, h1, gFn, gSeq, gIf, gSet, gSetO, gfCat, gfDisp, gBin, gCall, gApp, gaNil, gaCons, gaCup, gC_eq, gVar_un, gDisp, gSlice, gPart, gNoPart, gTru, gBool, gChain, gAnd, gOr, gNot, gAndV, gOrV, gNotV, gIfE, gUn, gCupF_un, gCupT_un, gCupSet, gRet, gAsg, gPar, gPar3, gDrop, gRaise, gSkip, gIsi, gFor, giTup, giLst, giArg, gLc, gL, gFrz, gApd, gYes, gAll, ggName, ggTup, ggCons, ggNil, wipeE, dLst, dTup, gForL_nil, gForL_cons, gLcL_nil, gLcL_cons, dZip_tup, dZip_lst, zipD_cc, zipD_nil, cutD_1, dCut_tup, dCut_lst, dAbs_ab, dAdd_tup, dAdd_lst, Rs.bind_ok, Rs.bind_exc, Rs.bind_stuck, Rs.ofO_some, Rs.nox_ok, List.getElem?_cons_zero, List.getElem?_cons_succ, List.set_cons_zero, List.set_cons_succ, List.length_cons, List.length_nil, List.length_append, List.length_map, List.replicate_succ, List.replicate_zero, List.cons_append, List.nil_append, List.append_nil, Nat.reduceAdd, Nat.reduceSub, Nat.reduceLT, Nat.reduceLeDiff, Nat.reduceEqDiff, Nat.zero_add, dAdd_int, dMul_int, fI0_int, fB0_int, fI_int, dEq_int, dNe_int, dEq_str, dNe_str, dEq_bl, dBool_bl, dTru_bl, dNeg_int, dToInt_int, dToInt_bl, dLen_tup, dLen_lst, dMin2_int, dMulT_int, dToTup_lst, dToTup_tup, dToLst_lst, dToLst_tup, dats_nil, dats_cons, dIx_tup, dIx_lst, atI0, atI1, atI2, atI3, atI4, atI5, dInt_int, Option.map_some, Option.map_none, Option.bind_some, if_true, if_false, ite_true, ite_false, Bool.false_eq_true, Bool.true_eq_false, reduceIte, Bool.not_true, Bool.not_false, isi_int_int, isi_int_bool, isi_int_str, isi_int_tuple, isi_bool_int, isi_bool_bool, isi_bool_str, isi_bool_tuple, isi_str_int, isi_str_bool, isi_str_str, isi_str_tuple, isi_tup_int, isi_tup_bool, isi_tup_str, isi_tup_tuple, isi_lst_int, isi_lst_bool, isi_lst_str, isi_lst_tuple, isi_none_int, isi_none_bool, isi_none_str, isi_none_tuple, Int.cast_ofNat_Int, decide_true, decide_false, decide_eq_true_eq, not_true_eq_false, not_false_eq_true, Int.reduceEq, Int.reduceNe, Int.reduceLE, Int.reduceLT, Int.reduceAdd, Int.reduceSub, Int.reduceMul, Int.reduceNeg, ite_self, dMax2_int, dInR_int, gInR]
  by_cases h2 : s = 2
  · subst h2
    obtain ⟨f, hf, c2, e2⟩ := some_ex [1, -1] (by decide) (by decide) c1
    have bf : f.natAbs ≤ 1 := by
      simp only [List.mem_cons, List.not_mem_nil, or_false] at hf
      rcases hf with rfl | rfl <;> decide
    obtain ⟨f', c3, y', b', e3⟩ := i_loop [.int 0, .int 1, .int 2, .int 3, .int 4, .int 5] f 1 .un c2 bf
    have r6 : dRng1 [.int 6] = some [.int 0, .int 1, .int 2, .int 3, .int 4, .int 5] := rfl
    have b'' : f'.natAbs ≤ 1 * 10 ^ 6 := b'
    refine ⟨f', c3, rg_of (by omega), ?_⟩
    simp only [lstI, List.map_cons, List.map_nil] at e2
    simp only [G__law_integer, g__law_integer, gFn, gSeq, gSet, gApp, gaCup, gaCons, gaNil, gC_eq, gVar_un, List.cons_append, List.nil_append, List.length_cons, List.length_nil, Nat.reduceAdd, Nat.reduceSub, Nat.zero_add, List.replicate_succ, List.replicate_zero, List.getElem?_cons_succ, List.getElem?_cons_zero, List.set_cons_succ, List.set_cons_zero, Rs.bind_ok, if_true, e1, gIf, gBool, gBin, fB0_int, Int.reduceLT, decide_false, Rs.ofO_some, dBool_bl, Bool.false_eq_true, if_false, gSkip, dEq_int, decide_true, gDisp, gUn, dNeg_int, dats_cons, dats_nil, Option.map_some, Option.bind_some, Nat.reduceLeDiff, Int.reduceNeg, e2, gFor, giArg, r6, e3, gRet]
  by_cases h3 : s = 3
  · subst h3
    obtain ⟨v, c2, v0, v1, e2⟩ := roll_ex ((10 : Int) ^ (6 : Int).toNat) (by decide) (by decide) c1
    obtain ⟨w, c3, w0, w1, e3⟩ := roll_ex ((10 : Int) ^ (6 : Int).toNat) (by decide) (by decide) c2
    obtain ⟨f, hf, c4, e4⟩ := some_ex [1, -1, 30, (10 : Int) ^ (30 : Int).toNat] (by decide) (by decide) c3
    have bf : f.natAbs ≤ 10 ^ 30 := by
      simp only [List.mem_cons, List.not_mem_nil, or_false] at hf
      rcases hf with rfl | rfl | rfl | rfl <;> decide
    have t6 : (10 : Int) ^ (6 : Int).toNat = 1000000 := rfl
    rw [t6] at v1 w1
    have bvw : (v * 1000000 + w).natAbs ≤ 10 ^ 13 := by omega
    have o1 : powOk 10 6 = true := by decide
    have o2 : powOk 10 30 = true := by decide
    have o3 : mulOk v ((10 : Int) ^ (6 : Int).toNat) = true := mulOk_r (by decide)
    have o4 : mulOk (v * (10 : Int) ^ (6 : Int).toNat + w) f = true := mulOk_l (by rw [t6]; omega)
    refine ⟨(v * (10 : Int) ^ (6 : Int).toNat + w) * f, c4, rg_of ?_, ?_⟩
    · rw [Int.natAbs_mul, t6]
      calc (v * 1000000 + w).natAbs * f.natAbs ≤ 10 ^ 13 * 10 ^ 30 := Nat.mul_le_mul bvw bf
        _ ≤ Big.natAbs := by decide
    · simp only [lstI, List.map_cons, List.map_nil] at e4
      simp only [G__law_integer, g__law_integer, e1, e2, e3, e4, o1, o2, o3, o4, gFn, gSeq, gIf, gSet, gSetO, gfCat, gfDisp, gBin, gCall, gApp, gaNil, gaCons, gaCup, gC_eq, gVar_un, gDisp, gSlice, gPart, gNoPart, gTru, gBool, gChain, gAnd, gOr, gNot, gAndV, gOrV, gNotV, gIfE, gUn, gCupF_un, gCupT_un, gCupSet, gRet, gAsg, gPar, gPar3, gDrop, gRaise, gSkip, gIsi, gFor, giTup, giLst, giArg, gLc, gL, gFrz, gApd, gYes, gAll, ggName, ggTup, ggCons, ggNil, wipeE, dLst, dTup, gForL_nil, gForL_cons, gLcL_nil, gLcL_cons, dZip_tup, dZip_lst, zipD_cc, zipD_nil, cutD_1, dCut_tup, dCut_lst, dAbs_ab, dAdd_tup, dAdd_lst, Rs.bind_ok, Rs.bind_exc, Rs.bind_stuck, Rs.ofO_some, Rs.nox_ok, List.getElem?_cons_zero, List.getElem?_cons_succ, List.set_cons_zero, List.set_cons_succ, List.length_cons, List.length_nil, List.length_append, List.length_map, List.replicate_succ, List.replicate_zero, List.cons_append, List.nil_append, List.append_nil, Nat.reduceAdd, Nat.reduceSub, Nat.reduceLT, Nat.reduceLeDiff, Nat.reduceEqDiff, Nat.zero_add, dAdd_int, dMul_int, fI0_int, fB0_int, fI_int, dEq_int, dNe_int, dEq_str, dNe_str, dEq_bl, dBool_bl, dTru_bl, dNeg_int, dToInt_int, dToInt_bl, dLen_tup, dLen_lst, dMin2_int, dMulT_int, dToTup_lst, dToTup_tup, dToLst_lst, dToLst_tup, dats_nil, dats_cons, dIx_tup, dIx_lst, atI0, atI1, atI2, atI3, atI4, atI5, dInt_int, Option.map_some, Option.map_none, Option.bind_some, if_true, if_false, ite_true, ite_false, Bool.false_eq_true, Bool.true_eq_false, reduceIte, Bool.not_true, Bool.not_false, isi_int_int, isi_int_bool, isi_int_str, isi_int_tuple, isi_bool_int, isi_bool_bool, isi_bool_str, isi_bool_tuple, isi_str_int, isi_str_bool, isi_str_str, isi_str_tuple, isi_tup_int, isi_tup_bool, isi_tup_str, isi_tup_tuple, isi_lst_int, isi_lst_bool, isi_lst_str, isi_lst_tuple, isi_none_int, isi_none_bool, isi_none_str, isi_none_tuple, Int.cast_ofNat_Int, decide_true, decide_false, decide_eq_true_eq, not_true_eq_false, not_false_eq_true, Int.reduceEq, Int.reduceNe, Int.reduceLE, Int.reduceLT, Int.reduceAdd, Int.reduceSub, Int.reduceMul, Int.reduceNeg, ite_self, dMax2_int, dInR_int, gInR]
  by_cases h4 : s = 4
  · subst h4
    have p1 : powOk 10 50 = true := by decide
    have p2 : mulOk ((10 : Int) ^ (50 : Int).toNat) ((10 : Int) ^ (50 : Int).toNat) = true := by decide
    obtain ⟨f, hf, c4, e4⟩ := some_ex [0, 1, -1, (10 : Int) ^ (50 : Int).toNat * (10 : Int) ^ (50 : Int).toNat, 0 - (10 : Int) ^ (50 : Int).toNat * (10 : Int) ^ (50 : Int).toNat, (10 : Int) ^ (50 : Int).toNat * (10 : Int) ^ (50 : Int).toNat - 1] (by decide) (by decide) c1
    refine ⟨f, c4, ?_, ?_⟩
    · simp only [List.mem_cons, List.not_mem_nil, or_false] at hf
      rcases hf with rfl | rfl | rfl | rfl | rfl | rfl <;> exact ⟨by decide, by decide⟩
    · simp only [lstI, List.map_cons, List.map_nil] at e4
      simp only [G__law_integer, g__law_integer, e1, e4, p1, p2, gFn, gSeq, gIf, gSet, gSetO, gfCat, gfDisp, gBin, gCall, gApp, gaNil, gaCons, gaCup, gC_eq, gVar_un, gDisp, gSlice, gPart, gNoPart, gTru, gBool, gChain, gAnd, gOr, gNot, gAndV, gOrV, gNotV, gIfE, gUn, gCupF_un, gCupT_un, gCupSet, gRet, gAsg, gPar, gPar3, gDrop, gRaise, gSkip, gIsi, gFor, giTup, giLst, giArg, gLc, gL, gFrz, gApd, gYes, gAll, ggName, ggTup, ggCons, ggNil, wipeE, dLst, dTup, gForL_nil, gForL_cons, gLcL_nil, gLcL_cons, dZip_tup, dZip_lst, zipD_cc, zipD_nil, cutD_1, dCut_tup, dCut_lst, dAbs_ab, dAdd_tup, dAdd_lst, Rs.bind_ok, Rs.bind_exc, Rs.bind_stuck, Rs.ofO_some, Rs.nox_ok, List.getElem?_cons_zero, List.getElem?_cons_succ, List.set_cons_zero, List.set_cons_succ, List.length_cons, List.length_nil, List.length_append, List.length_map, List.replicate_succ, List.replicate_zero, List.cons_append, List.nil_append, List.append_nil, Nat.reduceAdd, Nat.reduceSub, Nat.reduceLT, Nat.reduceLeDiff, Nat.reduceEqDiff, Nat.zero_add, dAdd_int, dMul_int, fI0_int, fB0_int, fI_int, dEq_int, dNe_int, dEq_str, dNe_str, dEq_bl, dBool_bl, dTru_bl, dNeg_int, dToInt_int, dToInt_bl, dLen_tup, dLen_lst, dMin2_int, dMulT_int, dToTup_lst, dToTup_tup, dToLst_lst, dToLst_tup, dats_nil, dats_cons, dIx_tup, dIx_lst, atI0, atI1, atI2, atI3, atI4, atI5, dInt_int, Option.map_some, Option.map_none, Option.bind_some, if_true, if_false, ite_true, ite_false, Bool.false_eq_true, Bool.true_eq_false, reduceIte, Bool.not_true, Bool.not_false, isi_int_int, isi_int_bool, isi_int_str, isi_int_tuple, isi_bool_int, isi_bool_bool, isi_bool_str, isi_bool_tuple, isi_str_int, isi_str_bool, isi_str_str, isi_str_tuple, isi_tup_int, isi_tup_bool, isi_tup_str, isi_tup_tuple, isi_lst_int, isi_lst_bool, isi_lst_str, isi_lst_tuple, isi_none_int, isi_none_bool, isi_none_str, isi_none_tuple, Int.cast_ofNat_Int, decide_true, decide_false, decide_eq_true_eq, not_true_eq_false, not_false_eq_true, Int.reduceEq, Int.reduceNe, Int.reduceLE, Int.reduceLT, Int.reduceAdd, Int.reduceSub, Int.reduceMul, Int.reduceNeg, ite_self, dMax2_int, dInR_int, gInR]
  · obtain ⟨v, c2, v0, v1, e2⟩ := roll_ex 2001 (by decide) (by decide) c1
    refine ⟨v - 1000, c2, rg_of (by omega), ?_⟩
    simp only [G__law_integer, g__law_integer, e1, e2, h1, h2, h3, h4, gFn, gSeq, gIf, gSet, gSetO, gfCat, gfDisp, gBin, gCall, gApp, gaNil, gaCons, gaCup, gC_eq, gVar_un, gDisp, gSlice, gPart, gNoPart, gTru, gBool, gChain, gAnd, gOr, gNot, gAndV, gOrV, gNotV, gIfE, gUn, gCupF_un, gCupT_un, gCupSet, gRet, gAsg, gPar, gPar3, gDrop, gRaise, gSkip, gIsi, gFor, giTup, giLst, giArg, gLc, gL, gFrz, gApd, gYes, gAll, ggName, ggTup, ggCons, ggNil, wipeE, dLst, dTup, gForL_nil, gForL_cons, gLcL_nil, gLcL_cons, dZip_tup, dZip_lst, zipD_cc, zipD_nil, cutD_1, dCut_tup, dCut_lst, dAbs_ab, dAdd_tup, dAdd_lst, Rs.bind_ok, Rs.bind_exc, Rs.bind_stuck, Rs.ofO_some, Rs.nox_ok, List.getElem?_cons_zero, List.getElem?_cons_succ, List.set_cons_zero, List.set_cons_succ, List.length_cons, List.length_nil, List.length_append, List.length_map, List.replicate_succ, List.replicate_zero, List.cons_append, List.nil_append, List.append_nil, Nat.reduceAdd, Nat.reduceSub, Nat.reduceLT, Nat.reduceLeDiff, Nat.reduceEqDiff, Nat.zero_add, dAdd_int, dMul_int, fI0_int, fB0_int, fI_int, dEq_int, dNe_int, dEq_str, dNe_str, dEq_bl, dBool_bl, dTru_bl, dNeg_int, dToInt_int, dToInt_bl, dLen_tup, dLen_lst, dMin2_int, dMulT_int, dToTup_lst, dToTup_tup, dToLst_lst, dToLst_tup, dats_nil, dats_cons, dIx_tup, dIx_lst, atI0, atI1, atI2, atI3, atI4, atI5, dInt_int, Option.map_some, Option.map_none, Option.bind_some, if_true, if_false, ite_true, ite_false, Bool.false_eq_true, Bool.true_eq_false, reduceIte, Bool.not_true, Bool.not_false, isi_int_int, isi_int_bool, isi_int_str, isi_int_tuple, isi_bool_int, isi_bool_bool, isi_bool_str, isi_bool_tuple, isi_str_int, isi_str_bool, isi_str_str, isi_str_tuple, isi_tup_int, isi_tup_bool, isi_tup_str, isi_tup_tuple, isi_lst_int, isi_lst_bool, isi_lst_str, isi_lst_tuple, isi_none_int, isi_none_bool, isi_none_str, isi_none_tuple, Int.cast_ofNat_Int, decide_true, decide_false, decide_eq_true_eq, not_true_eq_false, not_false_eq_true, Int.reduceEq, Int.reduceNe, Int.reduceLE, Int.reduceLT, Int.reduceAdd, Int.reduceSub, Int.reduceMul, Int.reduceNeg, ite_self, dMax2_int, dInR_int, gInR]
/-- a row of drawn numbers -/
theorem e_draw_row : ∀ (l : List PyData) (ρ : En) (cu : Cu), (∀ d : PyData, (ρ.set 9 (.dat d))[1]? = some .cup) → ∃ (ns : List Int) (c : Cu), ns.length = l.length ∧ (∀ n ∈ ns, Rg n) ∧ gLcL (ggName 9) gYes le_law_0 l ρ cu = .ok (ns.map PyData.int) c
  | [], ρ, cu, h => ⟨[], cu, rfl, (fun n h => nomatch h), rfl⟩
  | d :: r, ρ, cu, h => by
    obtain ⟨z, c1, hz, e1⟩ := e_law_integer cu
    obtain ⟨ns, c2, hl, hn, e2⟩ := e_draw_row r ρ c1 h
    refine ⟨z :: ns, c2, by simp [hl], fun n hn' => ?_, ?_⟩
    · rcases List.mem_cons.mp hn' with rfl | hn'
      · exact hz
      · exact hn n hn'
    · have el : le_law_0 (ρ.set 9 (.dat d)) cu = .ok (.int z) c1 := by
        simp only [le_law_0, gApp, gaCup, gaNil, h d, Rs.bind_ok, List.length_cons, List.length_nil, Nat.reduceAdd, Nat.zero_add, if_true, e1]
      rw [gLcL_cons]
      show (Rs.ofO (some (ρ.set 9 (.dat d))) cu).bind _ = _
      rw [Rs.ofO_some, Rs.bind_ok]
      show (Rs.ok true cu).nox.bind _ = _
      rw [Rs.nox_ok, Rs.bind_ok, if_pos rfl, el, Rs.nox_ok, Rs.bind_ok, e2, Rs.bind_ok]
      rfl
abbrev lwE (x2 x5 x6 x7 : Sl) : En := [.un, .cup, x2, .un, .un, x5, x6, x7, .un, .un]
theorem e_fb (x2 x5 x6 x7 : Sl) (cu : Cu) : ∃ y5 y6 y7 c, fb_law_0 (lwE x2 x5 x6 x7) cu = .ok (.nx (lwE x2 y5 y6 y7)) c := by
  obtain ⟨a, c1, ha, e1⟩ := e_law_integer cu
  obtain ⟨b0, c2, hb0, e2⟩ := e_law_integer c1
  obtain ⟨v, c3, v0, v1, e3⟩ := roll_ex 3 (by decide) (by decide) c2
  -- the second one
  have hsnd : ∃ b c4, Rg b ∧ (∀ r : GS, (gSeq (gIf (gBool (gBin dEq (gApp 2 G__law_roll (gaCup 1 (gaCons (gC (.int 3)) gaNil))) (gC (.int 0)))) (gSet 7 (gIfE (gBool (gBin (fB0 fun i j => decide (i < j)) (gCall dAbs (gaCons (gVar 6) gaNil)) (gBin (fI powOk fun i j => i ^ j.toNat) (gC (.int 10)) (gC (.int 40))))) (gBin dMul (gVar 6) (gApp 2 G__law_some (gaCup 1 (gaCons (gDisp .list (gaCons (gC (.int 1)) (gaCons (gUn dNeg (gC (.int 1))) (gaCons (gC (.int 2)) (gaCons (gC (.int 0)) gaNil))))) gaNil)))) (gVar 6))) gSkip) r) (lwE x2 x5 (.dat (.int a)) (.dat (.int b0))) c2 = r (lwE x2 x5 (.dat (.int a)) (.dat (.int b))) c4) := by
    have p1 : powOk 10 40 = true := by decide
    by_cases h0 : v = 0
    · subst h0
      by_cases h1 : ab a < (10 : Int) ^ (40 : Int).toNat
      · obtain ⟨f, hf, c4, e4⟩ := some_ex [1, -1, 2, 0] (by decide) (by decide) c3
        have bf : f.natAbs ≤ 2 := by
          simp only [List.mem_cons, List.not_mem_nil, or_false] at hf
          rcases hf with rfl | rfl | rfl | rfl <;> decide
        have o : mulOk a f = true := mulOk_r (by omega)
        have t40 : (10 : Int) ^ (40 : Int).toNat = 10 ^ 40 := rfl
        refine ⟨a * f, c4, rg_of ?_, fun r => ?_⟩
        · rw [Int.natAbs_mul]
          have := ab_natAbs (a := a)
          have := ab_nn (x := a)
          rw [t40] at h1
          have h2 : a.natAbs ≤ 10 ^ 40 := by omega
          calc a.natAbs * f.natAbs ≤ 10 ^ 40 * 2 := Nat.mul_le_mul h2 bf
            _ ≤ Big.natAbs := by decide
        · simp only [lstI, List.map_cons, List.map_nil] at e4
          simp only [lwE, e3, p1, h1, e4, o, gFn, gSeq, gIf, gSet, gSetO, gfCat, gfDisp, gBin, gCall, gApp, gaNil, gaCons, gaCup, gC_eq, gVar_un, gDisp, gSlice, gPart, gNoPart, gTru, gBool, gChain, gAnd, gOr, gNot, gAndV, gOrV, gNotV, gIfE, gUn, gCupF_un, gCupT_un, gCupSet, gRet, gAsg, gPar, gPar3, gDrop, gRaise, gSkip, gIsi, gFor, giTup, giLst, giArg, gLc, gL, gFrz, gApd, gYes, gAll, ggName, ggTup, ggCons, ggNil, wipeE, dLst, dTup, gForL_nil, gForL_cons, gLcL_nil, gLcL_cons, dZip_tup, dZip_lst, zipD_cc, zipD_nil, cutD_1, dCut_tup, dCut_lst, dAbs_ab, dAdd_tup, dAdd_lst, Rs.bind_ok, Rs.bind_exc, Rs.bind_stuck, Rs.ofO_some, Rs.nox_ok, List.getElem?_cons_zero, List.getElem?_cons_succ, List.set_cons_zero, List.set_cons_succ, List.length_cons, List.length_nil, List.length_append, List.length_map, List.replicate_succ, List.replicate_zero, List.cons_append, List.nil_append, List.append_nil, Nat.reduceAdd, Nat.reduceSub, Nat.reduceLT, Nat.reduceLeDiff, Nat.reduceEqDiff, Nat.zero_add, dAdd_int, dMul_int, fI0_int, fB0_int, fI_int, dEq_int, dNe_int, dEq_str, dNe_str, dEq_bl, dBool_bl, dTru_bl, dNeg_int, dToInt_int, dToInt_bl, dLen_tup, dLen_lst, dMin2_int, dMulT_int, dToTup_lst, dToTup_tup, dToLst_lst, dToLst_tup, dats_nil, dats_cons, dIx_tup, dIx_lst, atI0, atI1, atI2, atI3, atI4, atI5, dInt_int, Option.map_some, Option.map_none, Option.bind_some, if_true, if_false, ite_true, ite_false, Bool.false_eq_true, Bool.true_eq_false, reduceIte, Bool.not_true, Bool.not_false, isi_int_int, isi_int_bool, isi_int_str, isi_int_tuple, isi_bool_int, isi_bool_bool, isi_bool_str, isi_bool_tuple, isi_str_int, isi_str_bool, isi_str_str, isi_str_tuple, isi_tup_int, isi_tup_bool, isi_tup_str, isi_tup_tuple, isi_lst_int, isi_lst_bool, isi_lst_str, isi_lst_tuple, isi_none_int, isi_none_bool, isi_none_str, isi_none_tuple, Int.cast_ofNat_Int, decide_true, decide_false, decide_eq_true_eq, not_true_eq_false, not_false_eq_true, Int.reduceEq, Int.reduceNe, Int.reduceLE, Int.reduceLT, Int.reduceAdd, Int.reduceSub, Int.reduceMul, Int.reduceNeg, ite_self, dMax2_int, dInR_int, gInR]
      · exact ⟨a, c3, ha, fun r => by simp only [lwE, e3, p1, h1, gFn, gSeq, gIf, gSet, gSetO, gfCat, gfDisp, gBin, gCall, gApp, gaNil, gaCons, gaCup, gC_eq, gVar_un, gDisp, gSlice, gPart, gNoPart, gTru, gBool, gChain, gAnd, gOr, gNot, gAndV, gOrV, gNotV, gIfE, gUn, gCupF_un, gCupT_un, gCupSet, gRet, gAsg, gPar, gPar3, gDrop, gRaise, gSkip, gIsi, gFor, giTup, giLst, giArg, gLc, gL, gFrz, gApd, gYes, gAll, ggName, ggTup, ggCons, ggNil, wipeE, dLst, dTup, gForL_nil, gForL_cons, gLcL_nil, gLcL_cons, dZip_tup, dZip_lst, zipD_cc, zipD_nil, cutD_1, dCut_tup, dCut_lst, dAbs_ab, dAdd_tup, dAdd_lst, Rs.bind_ok, Rs.bind_exc, Rs.bind_stuck, Rs.ofO_some, Rs.nox_ok, List.getElem?_cons_zero, List.getElem?_cons_succ, List.set_cons_zero, List.set_cons_succ, List.length_cons, List.length_nil, List.length_append, List.length_map, List.replicate_succ, List.replicate_zero, List.cons_append, List.nil_append, List.append_nil, Nat.reduceAdd, Nat.reduceSub, Nat.reduceLT, Nat.reduceLeDiff, Nat.reduceEqDiff, Nat.zero_add, dAdd_int, dMul_int, fI0_int, fB0_int, fI_int, dEq_int, dNe_int, dEq_str, dNe_str, dEq_bl, dBool_bl, dTru_bl, dNeg_int, dToInt_int, dToInt_bl, dLen_tup, dLen_lst, dMin2_int, dMulT_int, dToTup_lst, dToTup_tup, dToLst_lst, dToLst_tup, dats_nil, dats_cons, dIx_tup, dIx_lst, atI0, atI1, atI2, atI3, atI4, atI5, dInt_int, Option.map_some, Option.map_none, Option.bind_some, if_true, if_false, ite_true, ite_false, Bool.false_eq_true, Bool.true_eq_false, reduceIte, Bool.not_true, Bool.not_false, isi_int_int, isi_int_bool, isi_int_str, isi_int_tuple, isi_bool_int, isi_bool_bool, isi_bool_str, isi_bool_tuple, isi_str_int, isi_str_bool, isi_str_str, isi_str_tuple, isi_tup_int, isi_tup_bool, isi_tup_str, isi_tup_tuple, isi_lst_int, isi_lst_bool, isi_lst_str, isi_lst_tuple, isi_none_int, isi_none_bool, isi_none_str, isi_none_tuple, Int.cast_ofNat_Int, decide_true, decide_false, decide_eq_true_eq, not_true_eq_false, not_false_eq_true, Int.reduceEq, Int.reduceNe, Int.reduceLE, Int.reduceLT, Int.reduceAdd, Int.reduceSub, Int.reduceMul, Int.reduceNeg, ite_self, dMax2_int, dInR_int, gInR]⟩
    · exact ⟨b0, c3, hb0, fun r => by simp only [lwE, e3, h0, gFn, gSeq, gIf, gSet, gSetO, gfCat, gfDisp, gBin, gCall, gApp, gaNil, gaCons, gaCup, gC_eq, gVar_un, gDisp, gSlice, gPart, gNoPart, gTru, gBool, gChain, gAnd, gOr, gNot, gAndV, gOrV, gNotV, gIfE, gUn, gCupF_un, gCupT_un, gCupSet, gRet, gAsg, gPar, gPar3, gDrop, gRaise, gSkip, gIsi, gFor, giTup, giLst, giArg, gLc, gL, gFrz, gApd, gYes, gAll, ggName, ggTup, ggCons, ggNil, wipeE, dLst, dTup, gForL_nil, gForL_cons, gLcL_nil, gLcL_cons, dZip_tup, dZip_lst, zipD_cc, zipD_nil, cutD_1, dCut_tup, dCut_lst, dAbs_ab, dAdd_tup, dAdd_lst, Rs.bind_ok, Rs.bind_exc, Rs.bind_stuck, Rs.ofO_some, Rs.nox_ok, List.getElem?_cons_zero, List.getElem?_cons_succ, List.set_cons_zero, List.set_cons_succ, List.length_cons, List.length_nil, List.length_append, List.length_map, List.replicate_succ, List.replicate_zero, List.cons_append, List.nil_append, List.append_nil, Nat.reduceAdd, Nat.reduceSub, Nat.reduceLT, Nat.reduceLeDiff, Nat.reduceEqDiff, Nat.zero_add, dAdd_int, dMul_int, fI0_int, fB0_int, fI_int, dEq_int, dNe_int, dEq_str, dNe_str, dEq_bl, dBool_bl, dTru_bl, dNeg_int, dToInt_int, dToInt_bl, dLen_tup, dLen_lst, dMin2_int, dMulT_int, dToTup_lst, dToTup_tup, dToLst_lst, dToLst_tup, dats_nil, dats_cons, dIx_tup, dIx_lst, atI0, atI1, atI2, atI3, atI4, atI5, dInt_int, Option.map_some, Option.map_none, Option.bind_some, if_true, if_false, ite_true, ite_false, Bool.false_eq_true, Bool.true_eq_false, reduceIte, Bool.not_true, Bool.not_false, isi_int_int, isi_int_bool, isi_int_str, isi_int_tuple, isi_bool_int, isi_bool_bool, isi_bool_str, isi_bool_tuple, isi_str_int, isi_str_bool, isi_str_str, isi_str_tuple, isi_tup_int, isi_tup_bool, isi_tup_str, isi_tup_tuple, isi_lst_int, isi_lst_bool, isi_lst_str, isi_lst_tuple, isi_none_int, isi_none_bool, isi_none_str, isi_none_tuple, Int.cast_ofNat_Int, decide_true, decide_false, decide_eq_true_eq, not_true_eq_false, not_false_eq_true, Int.reduceEq, Int.reduceNe, Int.reduceLE, Int.reduceLT, Int.reduceAdd, Int.reduceSub, Int.reduceMul, Int.reduceNeg, ite_self, dMax2_int, dInR_int, gInR]⟩
  obtain ⟨b, c4, hb, e4⟩ := hsnd
  obtain ⟨c5, e5⟩ := e_gcd_right ha hb c4
  obtain ⟨c6, e6⟩ := e_lcm_right ha hb c5
  obtain ⟨k, c7, k0, k1, e7⟩ := roll_ex 6 (by decide) (by decide) c6
  have hr : dRng1 [.int (1 + k)] = some (rngD 0 (1 + k).toNat) := dRng1_ok (by omega)
  obtain ⟨ns, c8, hl, hn, e8⟩ := e_draw_row (rngD 0 (1 + k).toNat) (lwE x2 x5 (.dat (.int a)) (.dat (.int b))) c7 (fun d => rfl)
  rw [rng_len] at hl
  have R : RowR ns := ⟨by omega, by omega, hn⟩
  obtain ⟨c9, e9⟩ := e_row_right R c8
  have hlt : (rngD 0 (1 + k).toNat).length < 16777216 := by rw [rng_len]; omega
  refine ⟨.dat (tupI ns), .dat (.int a), .dat (.int b), c9, ?_⟩
  have ep : ∀ r : GS, (gSeq (gPar 6 7 (gaCons (gApp 1 G__law_integer (gaCup 1 gaNil)) (gaCons (gApp 1 G__law_integer (gaCup 1 gaNil)) gaNil))) r) (lwE x2 x5 x6 x7) cu = r (lwE x2 x5 (.dat (.int a)) (.dat (.int b0))) c2 := fun r => by
    simp only [lwE, e1, e2, gFn, gSeq, gIf, gSet, gSetO, gfCat, gfDisp, gBin, gCall, gApp, gaNil, gaCons, gaCup, gC_eq, gVar_un, gDisp, gSlice, gPart, gNoPart, gTru, gBool, gChain, gAnd, gOr, gNot, gAndV, gOrV, gNotV, gIfE, gUn, gCupF_un, gCupT_un, gCupSet, gRet, gAsg, gPar, gPar3, gDrop, gRaise, gSkip, gIsi, gFor, giTup, giLst, giArg, gLc, gL, gFrz, gApd, gYes, gAll, ggName, ggTup, ggCons, ggNil, wipeE, dLst, dTup, gForL_nil, gForL_cons, gLcL_nil, gLcL_cons, dZip_tup, dZip_lst, zipD_cc, zipD_nil, cutD_1, dCut_tup, dCut_lst, dAbs_ab, dAdd_tup, dAdd_lst, Rs.bind_ok, Rs.bind_exc, Rs.bind_stuck, Rs.ofO_some, Rs.nox_ok, List.getElem?_cons_zero, List.getElem?_cons_succ, List.set_cons_zero, List.set_cons_succ, List.length_cons, List.length_nil, List.length_append, List.length_map, List.replicate_succ, List.replicate_zero, List.cons_append, List.nil_append, List.append_nil, Nat.reduceAdd, Nat.reduceSub, Nat.reduceLT, Nat.reduceLeDiff, Nat.reduceEqDiff, Nat.zero_add, dAdd_int, dMul_int, fI0_int, fB0_int, fI_int, dEq_int, dNe_int, dEq_str, dNe_str, dEq_bl, dBool_bl, dTru_bl, dNeg_int, dToInt_int, dToInt_bl, dLen_tup, dLen_lst, dMin2_int, dMulT_int, dToTup_lst, dToTup_tup, dToLst_lst, dToLst_tup, dats_nil, dats_cons, dIx_tup, dIx_lst, atI0, atI1, atI2, atI3, atI4, atI5, dInt_int, Option.map_some, Option.map_none, Option.bind_some, if_true, if_false, ite_true, ite_false, Bool.false_eq_true, Bool.true_eq_false, reduceIte, Bool.not_true, Bool.not_false, isi_int_int, isi_int_bool, isi_int_str, isi_int_tuple, isi_bool_int, isi_bool_bool, isi_bool_str, isi_bool_tuple, isi_str_int, isi_str_bool, isi_str_str, isi_str_tuple, isi_tup_int, isi_tup_bool, isi_tup_str, isi_tup_tuple, isi_lst_int, isi_lst_bool, isi_lst_str, isi_lst_tuple, isi_none_int, isi_none_bool, isi_none_str, isi_none_tuple, Int.cast_ofNat_Int, decide_true, decide_false, decide_eq_true_eq, not_true_eq_false, not_false_eq_true, Int.reduceEq, Int.reduceNe, Int.reduceLE, Int.reduceLT, Int.reduceAdd, Int.reduceSub, Int.reduceMul, Int.reduceNeg, ite_self, dMax2_int, dInR_int, gInR]
  unfold fb_law_0
  rw [ep, e4]
  simp only [lwE] at e8 ⊢
  simp only [gSeq, gIf, gOr, gNot, gTru, gApp, gaCup, gaCons, gaNil, gC_eq, gVar_un, List.length_cons, List.length_nil, Nat.reduceAdd, Nat.zero_add, List.getElem?_cons_succ, List.getElem?_cons_zero, List.set_cons_succ, List.set_cons_zero, Rs.bind_ok, if_true, e5, e6, Rs.ofO_some, dTru_bl, Bool.not_true, Bool.false_eq_true, if_false, gSkip, gSet, gCall, gL, gLc, giArg, gBin, e7, dAdd_int, dats_cons, dats_nil, Option.map_some, Option.bind_some, hr, hlt, wipeE, e8, dToTup_lst, e9]
theorem e_turns : ∀ (is : List PyData) (x2 x5 x6 x7 : Sl) (cu : Cu), ∃ y2 y5 y6 y7 c, gForL (ggName 2) fb_law_0 is (lwE x2 x5 x6 x7) cu = .ok (.nx (lwE y2 y5 y6 y7)) c
  | [], x2, x5, x6, x7, cu => ⟨x2, x5, x6, x7, cu, rfl⟩
  | d :: r, x2, x5, x6, x7, cu => by
    obtain ⟨y5, y6, y7, c1, e1⟩ := e_fb (.dat d) x5 x6 x7 cu
    obtain ⟨z2, z5, z6, z7, c2, e2⟩ := e_turns r (.dat d) y5 y6 y7 c1
    refine ⟨z2, z5, z6, z7, c2, ?_⟩
    rw [gForL_cons]
    show ((Rs.ok (lwE (.dat d) x5 x6 x7) cu).bind _) = _
    rw [Rs.bind_ok, e1, Rs.bind_ok]
    exact e2
end
end Prog

set_option Elab.async false
set_option linter.all false
set_option maxRecDepth 100000
set_option maxHeartbeats 4000000
set_option autoImplicit false
set_option exponentiation.threshold 4000
namespace Prog
open PySem PySem.Spec L2 DL
theorem e_written (cu : Cu) : G__law_written [] cu = .ok (.bool true) cu := by kernel_rfl
theorem e_rest (x2 x5 x6 x7 : Sl) (cu : Cu) : ta_law_10 (lwE x2 x5 x6 x7) cu = .ok (.ret (.bool true)) cu := by kernel_rfl
theorem e_law (cu : Cu) : ∃ cu', g_law [.un, .cup, .un, .un, .un, .un, .un, .un, .un, .un] cu = .ok (.ret (.bool true)) cu' := by
  obtain ⟨y2, y5, y6, y7, c1, e1⟩ := e_turns (rngD 0 4) .un .un .un .un cu
  have e3 := e_rest y2 y5 y6 y7 c1
  have r4 : dRng1 [.int 4] = some (rngD 0 4) := rfl
  refine ⟨c1, ?_⟩
  simp only [lwE] at e1 e3
  simp only [g_law, gSeq, gFor, giArg, gaCons, gaNil, gC_eq, Rs.bind_ok, dats_cons, dats_nil, Option.map_some, Option.bind_some, r4, Rs.ofO_some, e1, e3]
theorem law_holds_g : ∀ ns : List Int, ns.length ≤ 63 → ∃ cu, g_law (.un :: .cup :: List.replicate 8 .un) (DL.cup0 (DL.cell0 ns)) = .ok (.ret (.bool true)) cu := fun ns _ => e_law _
end Prog

set_option Elab.async false
set_option linter.all false
set_option maxRecDepth 100000
set_option maxHeartbeats 0
set_option autoImplicit false
namespace Prog
open PySem PySem.Spec PyProof.Rows L2 DL
def fnH : List He.DefD := [⟨("is_integer", none), "is_integer", "is_integer", defArgs s_is_integer, defBody s_is_integer, defScope s_is_integer, [], []⟩, ⟨("is_integer_in", none), "is_integer_in", "is_integer_in", defArgs s_is_integer_in, defBody s_is_integer_in, defScope s_is_integer_in, [], []⟩, ⟨("are_integers", none), "are_integers", "are_integers", defArgs s_are_integers, defBody s_are_integers, defScope s_are_integers, [], []⟩, ⟨("bezout", none), "bezout", "bezout", defArgs s_bezout, defBody s_bezout, defScope s_bezout, [], []⟩, ⟨("need_integer", none), "need_integer", "need_integer", defArgs s_need_integer, defBody s_need_integer, defScope s_need_integer, [], []⟩, ⟨("need_two_integers", none), "need_two_integers", "need_two_integers", defArgs s_need_two_integers, defBody s_need_two_integers, defScope s_need_two_integers, [], []⟩, ⟨("need_integer_row", none), "need_integer_row", "need_integer_row", defArgs s_need_integer_row, defBody s_need_integer_row, defScope s_need_integer_row, [], []⟩, ⟨("gcd_paper", none), "gcd_paper", "gcd_paper", defArgs s_gcd_paper, defBody s_gcd_paper, defScope s_gcd_paper, [], []⟩, ⟨("takes_gcd", none), "takes_gcd", "takes_gcd", defArgs s_takes_gcd, defBody s_takes_gcd, defScope s_takes_gcd, [], []⟩, ⟨("lcm_of", none), "lcm_of", "lcm_of", defArgs s_lcm_of, defBody s_lcm_of, defScope s_lcm_of, [], []⟩, ⟨("lcm_paper", none), "lcm_paper", "lcm_paper", defArgs s_lcm_paper, defBody s_lcm_paper, defScope s_lcm_paper, [], []⟩, ⟨("shows_lcm", none), "shows_lcm", "shows_lcm", defArgs s_shows_lcm, defBody s_shows_lcm, defScope s_shows_lcm, [], []⟩, ⟨("takes_lcm", none), "takes_lcm", "takes_lcm", defArgs s_takes_lcm, defBody s_takes_lcm, defScope s_takes_lcm, [], []⟩, ⟨("gcd_row_of", none), "gcd_row_of", "gcd_row_of", defArgs s_gcd_row_of, defBody s_gcd_row_of, defScope s_gcd_row_of, [], []⟩, ⟨("gcd_row_paper", none), "gcd_row_paper", "gcd_row_paper", defArgs s_gcd_row_paper, defBody s_gcd_row_paper, defScope s_gcd_row_paper, [], []⟩, ⟨("shows_gcd_row", none), "shows_gcd_row", "shows_gcd_row", defArgs s_shows_gcd_row, defBody s_shows_gcd_row, defScope s_shows_gcd_row, [], []⟩, ⟨("takes_gcd_row", none), "takes_gcd_row", "takes_gcd_row", defArgs s_takes_gcd_row, defBody s_takes_gcd_row, defScope s_takes_gcd_row, [], []⟩, ⟨("_law_cup", none), "_law_cup", "_law_cup", defArgs s__law_cup, defBody s__law_cup, defScope s__law_cup, [], []⟩, ⟨("_law_roll", none), "_law_roll", "_law_roll", defArgs s__law_roll, defBody s__law_roll, defScope s__law_roll, [], []⟩, ⟨("_law_some", none), "_law_some", "_law_some", defArgs s__law_some, defBody s__law_some, defScope s__law_some, [], []⟩, ⟨("_law_integers", none), "_law_integers", "_law_integers", defArgs s__law_integers, defBody s__law_integers, defScope s__law_integers, [], []⟩, ⟨("_law_common", none), "_law_common", "_law_common", defArgs s__law_common, defBody s__law_common, defScope s__law_common, [], []⟩, ⟨("_law_same", none), "_law_same", "_law_same", defArgs s__law_same, defBody s__law_same, defScope s__law_same, [], []⟩, ⟨("_law_error", none), "_law_error", "_law_error", defArgs s__law_error, defBody s__law_error, defScope s__law_error, [], []⟩, ⟨("_law_integer", none), "_law_integer", "_law_integer", defArgs s__law_integer, defBody s__law_integer, defScope s__law_integer, [], []⟩, ⟨("_law_is_gcd", none), "_law_is_gcd", "_law_is_gcd", defArgs s__law_is_gcd, defBody s__law_is_gcd, defScope s__law_is_gcd, [], []⟩, ⟨("_law_is_lcm", none), "_law_is_lcm", "_law_is_lcm", defArgs s__law_is_lcm, defBody s__law_is_lcm, defScope s__law_is_lcm, [], []⟩, ⟨("_law_is_row", none), "_law_is_row", "_law_is_row", defArgs s__law_is_row, defBody s__law_is_row, defScope s__law_is_row, [], []⟩, ⟨("_law_spoilt", none), "_law_spoilt", "_law_spoilt", defArgs s__law_spoilt, defBody s__law_spoilt, defScope s__law_spoilt, [], []⟩, ⟨("_law_gcd_right", none), "_law_gcd_right", "_law_gcd_right", defArgs s__law_gcd_right, defBody s__law_gcd_right, defScope s__law_gcd_right, [], []⟩, ⟨("_law_lcm_right", none), "_law_lcm_right", "_law_lcm_right", defArgs s__law_lcm_right, defBody s__law_lcm_right, defScope s__law_lcm_right, [], []⟩, ⟨("_law_row_right", none), "_law_row_right", "_law_row_right", defArgs s__law_row_right, defBody s__law_row_right, defScope s__law_row_right, [], []⟩, ⟨("_law_written", none), "_law_written", "_law_written", defArgs s__law_written, defBody s__law_written, defScope s__law_written, [], []⟩, ⟨("law", none), "law", "law", defArgs s_law, defBody s_law, defScope s_law, [], []⟩]
def faH : List He.Fa := [.free "abs", .free "len", .free "min", .free "max", .free "sum", .free "isinstance", .free "range", .free "zip", .free "all", .free "int", .free "bool", .free "str", .free "tuple", .free "list", .int "GREATEST" (10 ^ 50 * 10 ^ 50), .int "LONGEST_ROW" 6, .glo "InvalidField", .glo "InvalidNumber", .glo "InvalidRow", .glo "InvalidTable", .glo "PaperError", .exc "InvalidNumber", .exm "InvalidNumber" "InvalidField" false, .exm "InvalidNumber" "InvalidNumber" true, .exc "InvalidRow", .exm "InvalidRow" "InvalidField" false, .exm "InvalidRow" "InvalidNumber" false, .exm "InvalidRow" "InvalidRow" true, .glo "is_integer", .glo "is_integer_in", .glo "are_integers", .glo "bezout", .glo "need_integer", .glo "need_two_integers", .glo "need_integer_row", .glo "gcd_paper", .glo "takes_gcd", .glo "lcm_of", .glo "lcm_paper", .glo "shows_lcm", .glo "takes_lcm", .glo "gcd_row_of", .glo "gcd_row_paper", .glo "shows_gcd_row", .glo "takes_gcd_row", .glo "_law_cup", .glo "_law_roll", .glo "_law_some", .glo "_law_integers", .glo "_law_common", .glo "_law_same", .glo "_law_error", .glo "_law_integer", .glo "_law_is_gcd", .glo "_law_is_lcm", .glo "_law_is_row", .glo "_law_spoilt", .glo "_law_gcd_right", .glo "_law_lcm_right", .glo "_law_row_right", .glo "_law_written", .glo "law"]
def xsH : List Str := ["law", "are_integers", "gcd_row_of"]
abbrev RH : PySem.W.OpenRow := PySem.W.OpenLaw.row PySem.Challenge.rw_towerback_k10_whole_common_divisors
abbrev hkH : PySem.W.Hook := hookT 2 faH fnH xsH
def obH (s : PySem.W.SharedT) : AlT := obsT 2 faH fnH xsH (HandSHeadRun.getT s)
theorem obH_eq (s : PySem.W.SharedT) : obH s = hkH.obs s.abs := obsT_eq (HandSHeadRun.getT_eq s)
def looseH : List Str := (["is_integer", "is_integer_in", "are_integers", "bezout", "need_integer", "need_two_integers", "need_integer_row", "gcd_paper", "takes_gcd", "lcm_of", "lcm_paper", "shows_lcm", "takes_lcm", "gcd_row_of", "gcd_row_paper", "shows_gcd_row", "takes_gcd_row", "_law_cup", "_law_roll", "_law_some", "_law_integers", "_law_common", "_law_same", "_law_error"] : List Str) ++ (["_law_integer", "_law_is_gcd", "_law_is_lcm", "_law_is_row", "_law_spoilt", "_law_gcd_right", "_law_lcm_right", "_law_row_right", "_law_written", "GREATEST", "LONGEST_ROW", "PaperError", "InvalidField", "InvalidNumber", "InvalidRow", "InvalidTable"] : List Str)
theorem runH (w : World) : HandSHeadRun.RunEq RH (PySem.W.view RH.prog [45]) hkH obH 6000 looseH w := by
  intro os
  kernel_rfl
def CLs : List Str := ["InvalidField", "InvalidNumber", "InvalidRow", "InvalidTable", "PaperError"]
def kxOf (K : PySem.W.Frag) : Kx := ⟨[((tabP K "law").2, ("law" : Str) ++ ".<locals>." ++ "<lambda>"), ((tabP K "are_integers").2, ("are_integers" : Str) ++ ".<locals>." ++ "<genexpr>"), ((tabP K "gcd_row_of").2, ("gcd_row_of" : Str) ++ ".<locals>." ++ "<genexpr>")], fun i => He.ga K (CLs.getD i "")⟩
theorem txtH {P : Program} {w : World} {F : PySem.W.Frag} {mg : Str → Option Value} {h base : Heap} (S : SaysT faH fnH xsH F h) (G : h.Ns mainGlobals mg) (TB : ∀ x ∈ xsH, LamX.TabB base mg (tabP F x).1 (tabP F x).2) : Txt P w F mg base (kxOf F) where
  b_abs := He.free_ok S.kin G (S.facts.fact 0 rfl)
  b_len := He.free_ok S.kin G (S.facts.fact 1 rfl)
  b_min := He.free_ok S.kin G (S.facts.fact 2 rfl)
  b_max := He.free_ok S.kin G (S.facts.fact 3 rfl)
  b_sum := He.free_ok S.kin G (S.facts.fact 4 rfl)
  b_isinstance := He.free_ok S.kin G (S.facts.fact 5 rfl)
  b_range := He.free_ok S.kin G (S.facts.fact 6 rfl)
  b_zip := He.free_ok S.kin G (S.facts.fact 7 rfl)
  b_all := He.free_ok S.kin G (S.facts.fact 8 rfl)
  b_int := He.free_ok S.kin G (S.facts.fact 9 rfl)
  b_bool := He.free_ok S.kin G (S.facts.fact 10 rfl)
  b_str := He.free_ok S.kin G (S.facts.fact 11 rfl)
  b_tuple := He.free_ok S.kin G (S.facts.fact 12 rfl)
  b_list := He.free_ok S.kin G (S.facts.fact 13 rfl)
  c_GREATEST := He.int_ok S.kin G (S.facts.fact 14 rfl)
  c_LONGEST_ROW := He.int_ok S.kin G (S.facts.fact 15 rfl)
  g_InvalidField := He.glo_ok S.kin G (S.facts.fact 16 rfl)
  g_InvalidNumber := He.glo_ok S.kin G (S.facts.fact 17 rfl)
  g_InvalidRow := He.glo_ok S.kin G (S.facts.fact 18 rfl)
  g_InvalidTable := He.glo_ok S.kin G (S.facts.fact 19 rfl)
  g_PaperError := He.glo_ok S.kin G (S.facts.fact 20 rfl)
  x_InvalidNumber := (He.exc_ok (S.facts.fact 21 rfl)).1
  k_InvalidNumber := (He.exc_ok (S.facts.fact 21 rfl)).2.1
  s_InvalidNumber := (He.exc_ok (S.facts.fact 21 rfl)).2.2.1
  t_InvalidNumber := (He.exc_ok (S.facts.fact 21 rfl)).2.2.2
  m_InvalidNumber_InvalidField := He.exm_ok (S.facts.fact 22 rfl)
  m_InvalidNumber_InvalidNumber := He.exm_ok (S.facts.fact 23 rfl)
  x_InvalidRow := (He.exc_ok (S.facts.fact 24 rfl)).1
  k_InvalidRow := (He.exc_ok (S.facts.fact 24 rfl)).2.1
  s_InvalidRow := (He.exc_ok (S.facts.fact 24 rfl)).2.2.1
  t_InvalidRow := (He.exc_ok (S.facts.fact 24 rfl)).2.2.2
  m_InvalidRow_InvalidField := He.exm_ok (S.facts.fact 25 rfl)
  m_InvalidRow_InvalidNumber := He.exm_ok (S.facts.fact 26 rfl)
  m_InvalidRow_InvalidRow := He.exm_ok (S.facts.fact 27 rfl)
  f_is_integer := fun_of S.facts S.kin G 0 rfl 28 rfl (fun _ _ _ _ _ _ us hl => match us, hl with | [_], _ => rfl)
  f_is_integer_in := fun_of S.facts S.kin G 1 rfl 29 rfl (fun _ _ _ _ _ _ us hl => match us, hl with | [_, _, _], _ => rfl)
  f_are_integers := fun_of S.facts S.kin G 2 rfl 30 rfl (fun _ _ _ _ _ _ us hl => match us, hl with | [_, _], _ => rfl)
  f_bezout := fun_of S.facts S.kin G 3 rfl 31 rfl (fun _ _ _ _ _ _ us hl => match us, hl with | [_, _], _ => rfl)
  f_need_integer := fun_of S.facts S.kin G 4 rfl 32 rfl (fun _ _ _ _ _ _ us hl => match us, hl with | [_, _, _], _ => rfl)
  f_need_two_integers := fun_of S.facts S.kin G 5 rfl 33 rfl (fun _ _ _ _ _ _ us hl => match us, hl with | [_, _], _ => rfl)
  f_need_integer_row := fun_of S.facts S.kin G 6 rfl 34 rfl (fun _ _ _ _ _ _ us hl => match us, hl with | [_], _ => rfl)
  f_gcd_paper := fun_of S.facts S.kin G 7 rfl 35 rfl (fun _ _ _ _ _ _ us hl => match us, hl with | [_, _], _ => rfl)
  f_takes_gcd := fun_of S.facts S.kin G 8 rfl 36 rfl (fun _ _ _ _ _ _ us hl => match us, hl with | [_, _, _], _ => rfl)
  f_lcm_of := fun_of S.facts S.kin G 9 rfl 37 rfl (fun _ _ _ _ _ _ us hl => match us, hl with | [_, _], _ => rfl)
  f_lcm_paper := fun_of S.facts S.kin G 10 rfl 38 rfl (fun _ _ _ _ _ _ us hl => match us, hl with | [_, _], _ => rfl)
  f_shows_lcm := fun_of S.facts S.kin G 11 rfl 39 rfl (fun _ _ _ _ _ _ us hl => match us, hl with | [_, _, _], _ => rfl)
  f_takes_lcm := fun_of S.facts S.kin G 12 rfl 40 rfl (fun _ _ _ _ _ _ us hl => match us, hl with | [_, _, _], _ => rfl)
  f_gcd_row_of := fun_of S.facts S.kin G 13 rfl 41 rfl (fun _ _ _ _ _ _ us hl => match us, hl with | [_], _ => rfl)
  f_gcd_row_paper := fun_of S.facts S.kin G 14 rfl 42 rfl (fun _ _ _ _ _ _ us hl => match us, hl with | [_], _ => rfl)
  f_shows_gcd_row := fun_of S.facts S.kin G 15 rfl 43 rfl (fun _ _ _ _ _ _ us hl => match us, hl with | [_, _], _ => rfl)
  f_takes_gcd_row := fun_of S.facts S.kin G 16 rfl 44 rfl (fun _ _ _ _ _ _ us hl => match us, hl with | [_, _], _ => rfl)
  f__law_cup := fun_of S.facts S.kin G 17 rfl 45 rfl (fun _ _ _ _ _ _ us hl => match us, hl with | [_], _ => rfl)
  f__law_roll := fun_of S.facts S.kin G 18 rfl 46 rfl (fun _ _ _ _ _ _ us hl => match us, hl with | [_, _], _ => rfl)
  f__law_some := fun_of S.facts S.kin G 19 rfl 47 rfl (fun _ _ _ _ _ _ us hl => match us, hl with | [_, _], _ => rfl)
  f__law_integers := fun_of S.facts S.kin G 20 rfl 48 rfl (fun _ _ _ _ _ _ us hl => match us, hl with | [_, _], _ => rfl)
  f__law_common := fun_of S.facts S.kin G 21 rfl 49 rfl (fun _ _ _ _ _ _ us hl => match us, hl with | [_, _], _ => rfl)
  f__law_same := fun_of S.facts S.kin G 22 rfl 50 rfl (fun _ _ _ _ _ _ us hl => match us, hl with | [_, _], _ => rfl)
  f__law_error := fun_of S.facts S.kin G 23 rfl 51 rfl (fun _ _ _ _ _ _ us hl => match us, hl with | [_], _ => rfl)
  f__law_integer := fun_of S.facts S.kin G 24 rfl 52 rfl (fun _ _ _ _ _ _ us hl => match us, hl with | [_], _ => rfl)
  f__law_is_gcd := fun_of S.facts S.kin G 25 rfl 53 rfl (fun _ _ _ _ _ _ us hl => match us, hl with | [_, _, _], _ => rfl)
  f__law_is_lcm := fun_of S.facts S.kin G 26 rfl 54 rfl (fun _ _ _ _ _ _ us hl => match us, hl with | [_, _, _], _ => rfl)
  f__law_is_row := fun_of S.facts S.kin G 27 rfl 55 rfl (fun _ _ _ _ _ _ us hl => match us, hl with | [_, _], _ => rfl)
  f__law_spoilt := fun_of S.facts S.kin G 28 rfl 56 rfl (fun _ _ _ _ _ _ us hl => match us, hl with | [_, _], _ => rfl)
  f__law_gcd_right := fun_of S.facts S.kin G 29 rfl 57 rfl (fun _ _ _ _ _ _ us hl => match us, hl with | [_, _, _], _ => rfl)
  f__law_lcm_right := fun_of S.facts S.kin G 30 rfl 58 rfl (fun _ _ _ _ _ _ us hl => match us, hl with | [_, _, _], _ => rfl)
  f__law_row_right := fun_of S.facts S.kin G 31 rfl 59 rfl (fun _ _ _ _ _ _ us hl => match us, hl with | [_, _], _ => rfl)
  f__law_written := fun_of S.facts S.kin G 32 rfl 60 rfl (fun _ _ _ _ _ _ us hl => match us, hl with | [], _ => rfl)
  f_law := fun_of S.facts S.kin G 33 rfl 61 rfl (fun _ _ _ _ _ _ us hl => match us, hl with | [_], _ => rfl)
  k_law := by
    obtain ⟨f, fd, a, b, c⟩ := funK_of (ps := ["_law_script"]) S.facts S.kin G (S.tab "law" (List.mem_of_getElem? (i := 0) rfl)).1 33 rfl 61 rfl (fun _ _ _ _ _ _ us hl => match us, hl with | [_], _ => rfl)
    refine ⟨f, fd, _, _, a, b, c, TB "law" (List.mem_of_getElem? (i := 0) rfl), List.mem_of_getElem? (i := 0) rfl, fun p hp e => ?_⟩
    have nd := S.nd
    simp only [xsH, List.map_cons, List.map_nil, List.nodup_cons, List.mem_cons, List.not_mem_nil, or_false, not_or, not_false_eq_true, List.nodup_nil, and_true] at nd
    simp only [kxOf, List.mem_cons, List.not_mem_nil, or_false] at hp
    rcases hp with rfl | rfl | rfl
    · rfl
    · first | exact (nd e).elim | exact (nd e.symm).elim | (simp_all)
    · first | exact (nd e).elim | exact (nd e.symm).elim | (simp_all)
  k_are_integers := by
    obtain ⟨f, fd, a, b, c⟩ := funK_of (ps := ["value", "many"]) S.facts S.kin G (S.tab "are_integers" (List.mem_of_getElem? (i := 1) rfl)).1 2 rfl 30 rfl (fun _ _ _ _ _ _ us hl => match us, hl with | [_, _], _ => rfl)
    refine ⟨f, fd, _, _, a, b, c, TB "are_integers" (List.mem_of_getElem? (i := 1) rfl), List.mem_of_getElem? (i := 1) rfl, fun p hp e => ?_⟩
    have nd := S.nd
    simp only [xsH, List.map_cons, List.map_nil, List.nodup_cons, List.mem_cons, List.not_mem_nil, or_false, not_or, not_false_eq_true, List.nodup_nil, and_true] at nd
    simp only [kxOf, List.mem_cons, List.not_mem_nil, or_false] at hp
    rcases hp with rfl | rfl | rfl
    · first | exact (nd e).elim | exact (nd e.symm).elim | (simp_all)
    · rfl
    · first | exact (nd e).elim | exact (nd e.symm).elim | (simp_all)
  k_gcd_row_of := by
    obtain ⟨f, fd, a, b, c⟩ := funK_of (ps := ["row"]) S.facts S.kin G (S.tab "gcd_row_of" (List.mem_of_getElem? (i := 2) rfl)).1 13 rfl 41 rfl (fun _ _ _ _ _ _ us hl => match us, hl with | [_], _ => rfl)
    refine ⟨f, fd, _, _, a, b, c, TB "gcd_row_of" (List.mem_of_getElem? (i := 2) rfl), List.mem_of_getElem? (i := 2) rfl, fun p hp e => ?_⟩
    have nd := S.nd
    simp only [xsH, List.map_cons, List.map_nil, List.nodup_cons, List.mem_cons, List.not_mem_nil, or_false, not_or, not_false_eq_true, List.nodup_nil, and_true] at nd
    simp only [kxOf, List.mem_cons, List.not_mem_nil, or_false] at hp
    rcases hp with rfl | rfl | rfl
    · first | exact (nd e).elim | exact (nd e.symm).elim | (simp_all)
    · first | exact (nd e).elim | exact (nd e.symm).elim | (simp_all)
    · rfl
end Prog
open PySem PySem.W PySem.Calls PyProof.Rows
theorem end_holds (hg : ∀ ns : List Int, ns.length ≤ 63 → ∃ cu, Prog.g_law (.un :: .cup :: List.replicate 8 .un) (DL.cup0 (DL.cell0 ns)) = .ok (.ret (.bool true)) cu) : PySem.Challenge.rw_towerback_k10_whole_common_divisors.Holds := by
  w_on; o_law
  refine HandSHeadRun.head_any (r := OpenLaw.row PySem.Challenge.rw_towerback_k10_whole_common_divisors) (q := view (OpenLaw.row PySem.Challenge.rw_towerback_k10_whole_common_divisors).prog [45]) (H := Prog.hkH) (ob := Prog.obH) (M := 6000) (loose := Prog.looseH) (d := HandSHeadRun.topDef (OpenLaw.row PySem.Challenge.rw_towerback_k10_whole_common_divisors).prog 45) (kwd := []) Prog.obH_eq
    (by kernel_rfl) (fun s => by kernel_rfl) Prog.runH (by kernel_rfl) (by kernel_rfl) (by kernel_rfl) (by rfl) (by first | assumption | decide +kernel) (by decide +kernel) ⟨rfl, rfl, rfl, rfl, rfl, by decide +kernel⟩ ?hw ?hc
  case hw => w_witness2
  case hc =>
    refine DL.walk_ofX (l := PySem.Challenge.rw_towerback_k10_whole_common_divisors) (n := 63) (k := 9) (x := "_law_script") (CX := fun w => L2.CX (PySem.Challenge.rw_towerback_k10_whole_common_divisors).prog w) rfl (by decide) (by kernel_rfl) ⟨by decide, by decide, by decide⟩ ?F (fun w H s e s' h => DL.cx_no _ w H s e s' h)
    intro w mg fa h Y G hmg0
    obtain ⟨K, S⟩ := Y
    have hmg : mg ("law" : PySem.Str) = some (.ref fa) := by
      have e : (HandSHeadRun.topDef (OpenLaw.row PySem.Challenge.rw_towerback_k10_whole_common_divisors).prog 45).name = ("law" : PySem.Str) := by kernel_rfl
      rw [← e]
      exact hmg0
    refine ⟨K, S.kin, ?_⟩
    obtain ⟨fd, F⟩ := S.facts.def_ 33 rfl
    have e := hmg.symm.trans (He.glo_ok S.kin G (S.facts.fact 61 rfl))
    cases e
    have b := L2.FunD.bindsA (ps := ["_law_script"]) F fun _ _ _ _ _ _ us hl => match us, hl with | [_], _ => rfl
    refine ⟨fd, Prog.xsH.map (fun x => DL.tabP K x), DL.spLaw (Prog.kxOf K) K, fun p hp => ?_, fun p hp => ?_, fun p hp => ?_, fun s u => b s [u] rfl, fun H a ns hl hbits hT hS => ⟨a, ns, rfl, hS, hl, ?_, fun _ => rfl⟩, fun base KB GB TB => ?_⟩
    · obtain ⟨x, hx, rfl⟩ := List.mem_map.mp hp; exact (S.tab x hx).2
    · obtain ⟨x, hx, rfl⟩ := List.mem_map.mp hp; exact (S.code hx).2
    · obtain ⟨x, hx, rfl⟩ := List.mem_map.mp hp; exact (S.code hx).1
    · intro p hp
      simp only [Prog.kxOf, List.mem_cons, List.not_mem_nil, or_false] at hp
      rcases hp with rfl | rfl | rfl
      · exact LamX.TabS.nil (hT (DL.tabP K "law") (List.mem_map.mpr ⟨"law", List.mem_of_getElem? (i := 0) rfl, rfl⟩))
      · exact LamX.TabS.nil (hT (DL.tabP K "are_integers") (List.mem_map.mpr ⟨"are_integers", List.mem_of_getElem? (i := 1) rfl, rfl⟩))
      · exact LamX.TabS.nil (hT (DL.tabP K "gcd_row_of") (List.mem_map.mpr ⟨"gcd_row_of", List.mem_of_getElem? (i := 2) rfl, rfl⟩))
    · have T : Prog.Txt (PySem.Challenge.rw_towerback_k10_whole_common_divisors).prog w K mg base (Prog.kxOf K) := Prog.txtH S G (fun x hx => TB _ (List.mem_map.mpr ⟨x, hx, rfl⟩))
      obtain ⟨f, fd', F', hm', hb', hlk⟩ := Prog.ok__law T hg
      have hm2 := hm'.symm.trans hmg
      cases hm2
      obtain ⟨oc, od, osl, lk'⟩ := hlk
      obtain ⟨oc2, od2, _, _, _, _, _, _, _, osl2, _, lk2, _⟩ := F.ex
      have lk2' : K.lookup (He.ga K "law") = some ⟨oc2, od2, .func fd, osl2⟩ := lk2
      have z := lk'.symm.trans lk2'
      have ef : fd' = fd := by
        have z1 := congrArg Obj.data (Option.some.inj z)
        cases z1; rfl
      subst ef
      exact F'

theorem PySem.Challenge.cw_towerback_k10_whole_common_divisors_holds : PySem.Challenge.rw_towerback_k10_whole_common_divisors.Holds := by
  exact end_holds Prog.law_holds_g

import PyProof.Rows.All
import Wide.All
import OpenK.AllK
import Wide.FinOn
import HandS.ForExc
import HandS.Comp
import HandS.Wide
import HandS.Style
import HandS.IsInst
import HandS.Zip
import HandS.TryMany
import HandS.Lambda
import HandS.Dict
import KE.DataEq
import HandS.TupAny
import HandS.AnyAll
import PyProof.GenCompD
import HandS.TupMul
import HandS.Sort
import PyProof.TupleOfGen
import PyProof.Rows.TupleGenD
import HandS.Iter
import KE.GoesMore
import PyProof.Draws
import HandS.List
import HandS.Gcd
import HandS.Rev
import HandS.WideBits
import HandS.Deep
import KE.KNestM
import HandS.Defaults
import HandS.Head0
import HandS.Head1
import HandS.Head2
import HandS.HeadEnd
import HandS.HeadHook1
import HandS.HeadHook2
import HandS.EndBits
import HandS.EndTab
import HandS.GenList
import PyProof.ConsumeWalk
import PyProof.AutoSeq1
import HandS.RevRange
import HandS.TupLe
import KE.GoesZip
import KE.GoesEnum
import KE.KMathG
import PyProof.Rows.SetFrom
import PyProof.PureInt
import KE.SortData
import KE.SortKeyHeap
import HandS.Keys
import HandS.SortKw
import KE.DatumOrd
import HandS.Flow
import PyProof.ReprRoads
import PyProof.CallFns
import HandS.ExcInit
import HandS.ExcField
import OpenK.KCls
import HandS.HeadHook3
import HandS.More
import PySem.Challenge.RW_towerback_k65_whole_terms
import HandS.Head3
set_option Elab.async false
set_option linter.all false
set_option maxRecDepth 100000
/-! A layer over HandS: values as data, states as lists of data, each rule a total function on them. -/
namespace DL
open PySem PySem.Spec PyProof.Rows L2

structure Kx where
  T : List (Addr × Str)
  CL : Nat → Addr
  F : PySem.W.Frag
  /-- what an error of this kind bears -/
  LM : Nat → Option Int := fun _ => none
/-! ### data in a heap -/
/-- a tuple of the modules -/
def CT (F : PySem.W.Frag) (a : Addr) (xs : List V) : Prop := ∃ (o : Obj) (its : Array Value) (n : Nat), F.lookup a = some o ∧ o.cls = .type "tuple" ∧ o.data = .seq its n ∧ its.size ≤ sizeLine ∧ Vals xs its.toList
def TupAt (F : PySem.W.Frag) (G : Hp) (a : Addr) (xs : List V) : Prop := G a = some (.tup xs) ∨ CT F a xs
theorem TupAt.mono {F : PySem.W.Frag} {G G' : Hp} {a : Addr} {xs : List V} (k : ∀ b o, G b = some o → G' b = some o) (h : TupAt F G a xs) : TupAt F G' a xs := h.imp (k _ _) id
theorem TupAt.sq {F : PySem.W.Frag} {H : Hp} {a : Addr} {xs : List V} (h : TupAt F H a xs) : SqT F H a xs := h.elim SqT.of .inr
theorem TupAt.sq' {F F' : PySem.W.Frag} {H : Hp} {a : Addr} {xs : List V} (e : F = F') (h : TupAt F H a xs) : SqT F' H a xs := e ▸ h.sq
/-- a pair of a dict of texts: its key, its value -/
def kD : PyData → Key
  | .str x => .inr x
  | .int i => .inl i
  | _ => .inl 0
def vD : PyData → V
  | .int i => .int i
  | .str x => .str x
  | .bool b => .bl b
  | _ => .non
def lfB : PyData × PyData → Bool
  | (.str _, .int _) => true
  | (.str _, .str _) => true
  | (.str _, .bool _) => true
  | (.str _, .none) => true
  | _ => false
def kvD (ps : List (PyData × PyData)) : List (Key × V) := ps.map fun q => (kD q.1, vD q.2)
mutual
inductive Rp (K : Kx) (G : Hp) : V → PyData → Prop
  | non : Rp K G .non .none
  | bl (b : Bool) : Rp K G (.bl b) (.bool b)
  | int (i : Int) : Rp K G (.int i) (.int i)
  | str (x : Str) : Rp K G (.str x) (.str x)
  | lst {a : Addr} {xs : List V} {ds : List PyData} : G a = some (.lst xs) → RpL K G xs ds → Rp K G (.ref a) (.list ds)
  | tupA {a : Addr} {xs : List V} {ds : List PyData} : TupAt K.F G a xs → RpL K G xs ds → Rp K G (.ref a) (.tuple ds)
  | dic {a : Addr} {ps : List (PyData × PyData)} : G a = some (.dK (kvD ps)) → ps.all lfB = true → Rp K G (.ref a) (.dict ps)
inductive RpL (K : Kx) (G : Hp) : List V → List PyData → Prop
  | nil : RpL K G [] []
  | cons {v : V} {vs : List V} {d : PyData} {ds : List PyData} : Rp K G v d → RpL K G vs ds → RpL K G (v :: vs) (d :: ds)
end
theorem Rp.tup {K : Kx} {G : Hp} {a : Addr} {xs : List V} {ds : List PyData} (h : G a = some (.tup xs)) (r : RpL K G xs ds) : Rp K G (.ref a) (.tuple ds) := .tupA (.inl h) r
mutual
theorem Rp.mono {K : Kx} {G G' : Hp} (k : ∀ b o, G b = some o → G' b = some o) : ∀ {v : V} {d : PyData}, Rp K G v d → Rp K G' v d
  | _, _, .non => .non
  | _, _, .bl b => .bl b
  | _, _, .int i => .int i
  | _, _, .str x => .str x
  | _, _, .lst h r => .lst (k _ _ h) (RpL.mono k r)
  | _, _, .tupA h r => .tupA (h.mono k) (RpL.mono k r)
  | _, _, .dic h l => .dic (k _ _ h) l
theorem RpL.mono {K : Kx} {G G' : Hp} (k : ∀ b o, G b = some o → G' b = some o) : ∀ {vs : List V} {ds : List PyData}, RpL K G vs ds → RpL K G' vs ds
  | _, _, .nil => .nil
  | _, _, .cons h r => .cons (Rp.mono k h) (RpL.mono k r)
end
mutual
theorem Rp.dp' {K : Kx} {F : PySem.W.Frag} {G : Hp} (hKF : K.F = F) : ∀ {v : V} {d : PyData}, Rp K G v d → d.plain = true → Dp F G v d
  | _, _, .non, _ => .non
  | _, _, .bl b, _ => .bl b
  | _, _, .int i, _ => .int i
  | _, _, .str x, _ => .str x
  | _, _, .lst h r, p => .lst (SqL.of h) (RpL.dp' hKF r (by simpa only [PyData.plain] using p))
  | _, _, .tupA h r, p => .tup (h.sq' hKF) (RpL.dp' hKF r (by simpa only [PyData.plain] using p))
  | _, _, .dic _ _, p => by simp [PyData.plain] at p
theorem RpL.dp' {K : Kx} {F : PySem.W.Frag} {G : Hp} (hKF : K.F = F) : ∀ {vs : List V} {ds : List PyData}, RpL K G vs ds → PyData.plainAll ds = true → DpAll F G vs ds
  | _, _, .nil, _ => .nil
  | _, _, .cons h r, p => by
    simp only [PyData.plainAll, Bool.and_eq_true] at p
    exact .cons (Rp.dp' hKF h p.1) (RpL.dp' hKF r p.2)
end
theorem Rp.dpS {K : Kx} {F : PySem.W.Frag} {G : Hp} (hKF : K.F = F) {v : V} {d : PyData} (r : Rp K G v d) (h : SeqAt.shaped d = true) : Dp F G v d := by
  unfold SeqAt.shaped at h
  exact r.dp' hKF (PyData.plain_of_canLay0 d (Bool.and_eq_true_iff.mp h).1)
mutual
theorem plain_noDict : ∀ d : PyData, d.hasDict = false → d.plain = true
  | .none, _ => rfl
  | .bool _, _ => rfl
  | .int _, _ => rfl
  | .str _, _ => rfl
  | .list xs, h => by
    simp only [PyData.plain]
    exact plainAll_noDict xs (by simpa [PyData.hasDict] using h)
  | .tuple xs, h => by
    simp only [PyData.plain]
    exact plainAll_noDict xs (by simpa [PyData.hasDict] using h)
  | .dict _, h => by simp [PyData.hasDict] at h
theorem plainAll_noDict : ∀ xs : List PyData, PyData.hasDictAll xs = false → PyData.plainAll xs = true
  | [], _ => rfl
  | x :: xs, h => by
    have h' : x.hasDict = false ∧ PyData.hasDictAll xs = false := by simpa [PyData.hasDictAll] using h
    simp only [PyData.plainAll, plain_noDict x h'.1, plainAll_noDict xs h'.2, Bool.and_self]
end
section
variable {K : Kx} {G : Hp} {vs ws : List V} {ds es : List PyData}
theorem RpL.length : ∀ {vs : List V} {ds : List PyData}, RpL K G vs ds → vs.length = ds.length
  | _, _, .nil => rfl
  | _, _, .cons _ r => congrArg (· + 1) (RpL.length r)
theorem RpL.get : ∀ {vs : List V} {ds : List PyData} {i : Nat} {d : PyData}, RpL K G vs ds → ds[i]? = some d → ∃ v, vs[i]? = some v ∧ Rp K G v d
  | _, _, _, _, .nil, e => by simp at e
  | _, _, 0, _, .cons h _, e => by simp at e; subst e; exact ⟨_, rfl, h⟩
  | _, _, i + 1, d, .cons _ r, e => by
    obtain ⟨v, e1, e2⟩ := RpL.get (i := i) (d := d) r (by simpa using e)
    exact ⟨v, by simpa using e1, e2⟩
theorem RpL.app : ∀ {vs : List V} {ds : List PyData}, RpL K G vs ds → RpL K G ws es → RpL K G (vs ++ ws) (ds ++ es)
  | _, _, .nil, s => s
  | _, _, .cons h r, s => .cons h (RpL.app r s)
theorem RpL.take : ∀ {vs : List V} {ds : List PyData} (n : Nat), RpL K G vs ds → RpL K G (vs.take n) (ds.take n)
  | _, _, 0, _ => .nil
  | _, _, _ + 1, .nil => .nil
  | _, _, n + 1, .cons h r => .cons h (RpL.take n r)
theorem RpL.drop : ∀ {vs : List V} {ds : List PyData} (n : Nat), RpL K G vs ds → RpL K G (vs.drop n) (ds.drop n)
  | _, _, 0, r => r
  | _, _, _ + 1, .nil => .nil
  | _, _, n + 1, .cons _ r => RpL.drop n r
end

/-! ### states -/
abbrev Cu := Int × Int
inductive Sl where
  | un | dat (d : PyData) | own (ds : List PyData) | cup
abbrev En := List Sl
inductive Rs (α : Type) where
  | stuck | exc (k : Nat) (cu : Cu) | ok (a : α) (cu : Cu)
/-- the kind of what comes out names the way on: so a reckoning does not go into it ahead of its time -/
abbrev RsT {α β : Type} (_ : α → Cu → Rs β) : Type := Rs β
@[inline] def Rs.bind {α β : Type} (r : Rs α) (f : α → Cu → Rs β) : RsT f := match r with
  | .stuck => .stuck
  | .exc k cu => .exc k cu
  | .ok a cu => f a cu
def Rs.ofO {α : Type} (o : Option α) (cu : Cu) : Rs α := match o with
  | some a => .ok a cu
  | none => .stuck
structure Wd (K : Kx) (c : Option Addr) (H G : Hp) (cu : Cu) : Prop where
  sub : ∀ b o, G b = some o → H b = some o
  tab : LamX.Tabs K.T H
  nt : ∀ b ps, G b ≠ some (.tbl ps)
  cup : ∀ a, c = some a → H a = some (.lst [.int cu.1, .int cu.2]) ∧ G a = none
/-- what lasts: not a table -/
def NT (o : HO) : Prop := ∀ ps, o ≠ .tbl ps
theorem nt_lst {xs : List V} : NT (.lst xs) := fun ps z => nomatch z
theorem nt_tup {xs : List V} : NT (.tup xs) := fun ps z => nomatch z
/-- nothing lasting stands there -/
def Fre (H : Hp) (p : Addr) : Prop := ∀ o, H p = some o → ¬ NT o
theorem Fre.of {H : Hp} {p : Addr} (h : H p = none) : Fre H p := fun o e => by rw [h] at e; cases e
theorem Fre.ne {H : Hp} {p b : Addr} {o : HO} (f : Fre H p) (e : H b = some o) (n : NT o) : b ≠ p := fun z => f o (by rw [← z]; exact e) n
structure Ext (c : Option Addr) (H G H' G' : Hp) : Prop where
  h : ∀ b o, H b = some o → NT o → c ≠ some b → H' b = some o
  hs : ∀ b o, H b = some o → NT o → ∃ o', H' b = some o' ∧ NT o'
  g : ∀ b o, G b = some o → G' b = some o
  n : ∀ b o, H b = some o → NT o → G b = none → G' b = none
theorem Ext.refl {c : Option Addr} {H G : Hp} : Ext c H G H G := ⟨fun _ _ e _ _ => e, fun _ o e n => ⟨o, e, n⟩, fun _ _ e => e, fun _ _ _ _ e => e⟩
theorem Ext.trans {c : Option Addr} {H G H1 G1 H2 G2 : Hp} (a : Ext c H G H1 G1) (b : Ext c H1 G1 H2 G2) : Ext c H G H2 G2 :=
  ⟨fun x o e n k => b.h x o (a.h x o e n k) n k, fun x o e n => let ⟨o1, e1, n1⟩ := a.hs x o e n; b.hs x o1 e1 n1, fun x o e => b.g x o (a.g x o e), fun x o e n z => let ⟨o1, e1, n1⟩ := a.hs x o e n; b.n x o1 e1 n1 (a.n x o e n z)⟩
theorem Ext.free {c : Option Addr} {H G H' G' : Hp} (a : Ext c H G H' G') {p : Addr} (f : Fre H' p) : Fre H p := fun o e n => by
  obtain ⟨o', e', n'⟩ := a.hs p o e n
  exact f o' e' n'

structure Rep (K : Kx) (c : Option Addr) (H0 : Hp) (σ : L2.St) (H G : Hp) (ρ : En) : Prop where
  len : ρ.length = σ.length
  dat : ∀ (i : Nat) (d : PyData), ρ[i]? = some (Sl.dat d) → ∃ v : V, σ[i]? = some (some v) ∧ Rp K G v d
  cup : ∀ (i : Nat), ρ[i]? = some Sl.cup → ∃ a, c = some a ∧ σ[i]? = some (some (V.ref a))
  own : ∃ A : Nat → Addr, (∀ (i : Nat) (ds : List PyData), ρ[i]? = some (Sl.own ds) → σ[i]? = some (some (V.ref (A i))) ∧ (∃ xs, H (A i) = some (.lst xs) ∧ RpL K G xs ds) ∧ G (A i) = none ∧ Fre H0 (A i) ∧ c ≠ some (A i)) ∧
    ∀ (i j : Nat) (ds es : List PyData), ρ[i]? = some (Sl.own ds) → ρ[j]? = some (Sl.own es) → i ≠ j → A i ≠ A j
structure SRep (K : Kx) (c : Option Addr) (H0 G0 : Hp) (σ : L2.St) (H G : Hp) (ρ : En) (cu : Cu) : Prop where
  wd : Wd K c H G cu
  ext : Ext c H0 G0 H G
  rep : Rep K c H0 σ H G ρ
theorem SRep.go {K : Kx} {c : Option Addr} {H0 G0 H G H' G' : Hp} {σ : L2.St} {ρ : En} {cu cu' : Cu} (s : SRep K c H0 G0 σ H G ρ cu) (x : Ext c H G H' G') (w : Wd K c H' G' cu') : SRep K c H0 G0 σ H' G' ρ cu' := by
  refine ⟨w, s.ext.trans x, s.rep.len, fun i d e => ?_, s.rep.cup, ?_⟩
  · obtain ⟨v, e1, e2⟩ := s.rep.dat i d e
    exact ⟨v, e1, e2.mono x.g⟩
  · obtain ⟨A, h1, h2⟩ := s.rep.own
    refine ⟨A, fun i ds e => ?_, h2⟩
    obtain ⟨e1, ⟨xs, e2, e3⟩, e4, e5, e6⟩ := h1 i ds e
    exact ⟨e1, ⟨xs, x.h _ _ e2 nt_lst e6, e3.mono x.g⟩, x.n _ _ e2 nt_lst e4, e5, e6⟩

/-- the own dict of an error of kind k -/
def XD (K : Kx) (k : Nat) (d : Option Addr) (H : Hp) : Prop := match K.LM k with
  | none => d = none
  | some z => ∃ a, d = some a ∧ H a = some (.xd [("limit", .int z)])
/-! ### what is left to show behind a reckoning -/
def Post (K : Kx) (E : XK) (c : Option Addr) (H G : Hp) {α : Type} (r : Rs α) (Q : α → Hp → Hp → Cu → Prop) : Prop := match r with
  | .stuck => False
  | .exc k cu' => ∀ H' G', Ext c H G H' G' → Wd K c H' G' cu' → ∀ d, XD K k d H' → E (.ref (K.CL k)) d H'
  | .ok a cu' => ∀ H' G', Ext c H G H' G' → Wd K c H' G' cu' → Q a H' G' cu'
section
variable {K : Kx} {E : XK} {c : Option Addr} {H G H1 G1 : Hp} {α β : Type}
theorem Post.go {r : Rs α} {Q : α → Hp → Hp → Cu → Prop} (x : Ext c H G H1 G1) (h : Post K E c H G r Q) : Post K E c H1 G1 r Q := by
  cases r with
  | stuck => exact h
  | exc k cu => exact fun H' G' y w => h H' G' (x.trans y) w
  | ok a cu => exact fun H' G' y w => h H' G' (x.trans y) w
theorem Post.bind {r : Rs α} {f : α → Cu → Rs β} {Q : β → Hp → Hp → Cu → Prop} (h : Post K E c H G (r.bind f) Q) :
    Post K E c H G r (fun a H1 G1 cu1 => Post K E c H1 G1 (f a cu1) Q) := by
  cases r with
  | stuck => exact h
  | exc k cu => exact h
  | ok a cu => exact fun H' G' x _ => Post.go x h
theorem Post.imp {r : Rs α} {Q Q' : α → Hp → Hp → Cu → Prop} (h : Post K E c H G r Q) (k : ∀ a H' G' cu', Ext c H G H' G' → Wd K c H' G' cu' → Q a H' G' cu' → Q' a H' G' cu') : Post K E c H G r Q' := by
  cases r with
  | stuck => exact h
  | exc k cu => exact h
  | ok a cu => exact fun H' G' x w => k _ _ _ _ x w (h H' G' x w)
theorem Post.ofO {o : Option α} {cu : Cu} {Q : α → Hp → Hp → Cu → Prop} (h : Post K E c H G (Rs.ofO o cu) Q) : ∃ a, o = some a ∧ ∀ H' G', Ext c H G H' G' → Wd K c H' G' cu → Q a H' G' cu := by
  cases o with
  | none => exact h.elim
  | some a => exact ⟨a, rfl, h⟩
end
/-- what follows a value -/
abbrev QD (K : Kx) (Q : VK) : PyData → Hp → Hp → Cu → Prop := fun d H' G' _ => ∀ v, Rp K G' v d → Q v H'
/-! ### the judgements -/
abbrev GE := En → Cu → Rs PyData
abbrev GT := En → Cu → Rs Bool
abbrev GA := En → Cu → Rs (List Sl)
inductive ArgRp (K : Kx) (c : Option Addr) (G : Hp) : List V → List Sl → Prop
  | nil : ArgRp K c G [] []
  | dat {v : V} {vs : List V} {d : PyData} {as : List Sl} : Rp K G v d → ArgRp K c G vs as → ArgRp K c G (v :: vs) (.dat d :: as)
  | cup {a : Addr} {vs : List V} {as : List Sl} : c = some a → ArgRp K c G vs as → ArgRp K c G (.ref a :: vs) (.cup :: as)
theorem ArgRp.mono {K : Kx} {c : Option Addr} {G G' : Hp} (k : ∀ b o, G b = some o → G' b = some o) : ∀ {vs : List V} {as : List Sl}, ArgRp K c G vs as → ArgRp K c G' vs as
  | _, _, .nil => .nil
  | _, _, .dat h r => .dat (h.mono k) (ArgRp.mono k r)
  | _, _, .cup h r => .cup h (ArgRp.mono k r)
theorem ArgRp.length {K : Kx} {c : Option Addr} {G : Hp} : ∀ {vs : List V} {as : List Sl}, ArgRp K c G vs as → vs.length = as.length
  | _, _, .nil => rfl
  | _, _, .dat _ r => congrArg (· + 1) r.length
  | _, _, .cup _ r => congrArg (· + 1) r.length
def SemE (K : Kx) (E : XK) (t : TE) (g : GE) : Prop := ∀ c H0 G0 σ H G ρ cu (Q : VK), SRep K c H0 G0 σ H G ρ cu → Post K E c H G (g ρ cu) (QD K Q) → t σ H Q
def SemT (K : Kx) (E : XK) (t : TT) (g : GT) : Prop := ∀ c H0 G0 σ H G ρ cu (Q : Bool → Hp → Prop), SRep K c H0 G0 σ H G ρ cu → Post K E c H G (g ρ cu) (fun b H' _ _ => Q b H') → t σ H Q
def SemA (K : Kx) (E : XK) (t : TA) (g : GA) : Prop := ∀ c H0 G0 σ H G ρ cu (Q : List V → Hp → Prop), SRep K c H0 G0 σ H G ρ cu → Post K E c H G (g ρ cu) (fun as H' G' _ => ∀ vs, ArgRp K c G' vs as → Q vs H') → t σ H Q
structure PD (X : Cx) (K : Kx) (E : XK) (e : Expr) (t : TE) (g : GE) : Prop where
  pe : PE X e t
  sem : SemE K E t g
structure PTD (X : Cx) (K : Kx) (E : XK) (e : Expr) (t : TT) (g : GT) : Prop where
  pt : PT X e t
  sem : SemT K E t g
structure PWD (X : Cx) (K : Kx) (E : XK) (e : Expr) (t : TT) (g : GT) : Prop where
  pw : PW X e t
  sem : SemT K E t g
structure PAD (X : Cx) (K : Kx) (E : XK) (es : List Expr) (t : TA) (g : GA) : Prop where
  pa : PA X es t
  sem : SemA K E t g
section
variable {X : Cx} {K : Kx} {E : XK} {a b e : Expr} {es : List Expr} {ta tb te : TE} {t : TA} {ga gb ge : GE} {g : GA} {pos : Pos}
/-! ### names, constants -/
def gVar (i : Nat) : GE := fun ρ cu => match ρ[i]? with
  | some (Sl.dat d) => .ok d cu
  | _ => .stuck
theorem pd_var {i : Nat} {x : Str} (h : PE X (.Name x pos) (tVar i)) : PD X K E (.Name x pos) (tVar i) (gVar i) := by
  refine ⟨h, fun c H0 G0 σ H G ρ cu Q s q => ?_⟩
  unfold gVar at q
  split at q
  · rename_i d e
    obtain ⟨v, e1, r⟩ := s.rep.dat i d e
    exact ⟨v, e1, q H G Ext.refl s.wd v r⟩
  · exact q.elim
def gC (d : PyData) : GE := fun _ cu => .ok d cu
theorem sem_c {v : V} {d : PyData} (r : ∀ G : Hp, Rp K G v d) : SemE K E (tC v) (gC d) := fun c H0 G0 σ H G ρ cu Q s q => q H G Ext.refl s.wd v (r G)
theorem pd_int {i : Int} {j : Nat} : PD X K E (.Constant (.int i) j pos) (tC (.int i)) (gC (.int i)) := ⟨pe_int, sem_c fun _ => .int i⟩
theorem pd_bl {i : Bool} {j : Nat} : PD X K E (.Constant (.bool i) j pos) (tC (.bl i)) (gC (.bool i)) := ⟨pe_bl, sem_c fun _ => .bl i⟩
theorem pd_non {j : Nat} : PD X K E (.Constant .none j pos) (tC .non) (gC .none) := ⟨pe_non, sem_c fun _ => .non⟩
theorem pd_str {x : Str} {j : Nat} : PD X K E (.Constant (.str x) j pos) (tC (.str x)) (gC (.str x)) := ⟨pe_str, sem_c fun _ => .str x⟩
theorem pd_globI {x : Str} {i : Int} {u : Tok} (hg : Gl X x) (hm : X.mg x = some (.int i u)) (hd : (x == ("__debug__" : Str)) = false := by decide) : PD X K E (.Name x pos) (tC (.int i)) (gC (.int i)) :=
  ⟨pe_glob hg hm ⟨u, rfl⟩ hd, sem_c fun _ => .int i⟩
/-! ### operators -/
def OpD (K : Kx) (r : R2) (f : PyData → PyData → Option PyData) : Prop := ∀ c H G cu v w d e z (Q : VK), Wd K c H G cu → Rp K G v d → Rp K G w e → f d e = some z →
  (∀ v' H' G', Ext c H G H' G' → Wd K c H' G' cu → Rp K G' v' z → Q v' H') → r v w H Q
def gBin (f : PyData → PyData → Option PyData) (ga gb : GE) : GE := fun ρ cu => (ga ρ cu).bind fun a cu1 => (gb ρ cu1).bind fun b cu2 => .ofO (f a b) cu2
theorem sem_op {r : R2} {f : PyData → PyData → Option PyData} (hf : OpD K r f) (ha : SemE K E ta ga) (hb : SemE K E tb gb) : SemE K E (tOp r ta tb) (gBin f ga gb) := by
  intro c H0 G0 σ H G ρ cu Q s q
  refine ha c H0 G0 σ H G ρ cu _ s (q.bind.imp fun a H1 G1 cu1 x1 w1 q1 v rv => ?_)
  have s1 := s.go x1 w1
  refine hb c H0 G0 σ H1 G1 ρ cu1 _ s1 (q1.bind.imp fun b H2 G2 cu2 x2 w2 q2 w rw' => ?_)
  obtain ⟨z, e, q3⟩ := q2.ofO
  exact hf c H2 G2 cu2 v w a b z Q w2 (rv.mono x2.g) rw' e fun v' H' G' x w => q3 H' G' x w v'
theorem pd_op {op : Operator} {r : R2} {f : PyData → PyData → Option PyData} (ho : OpR X (binaryOp op) r) (hf : OpD K r f) (ha : PD X K E a ta ga) (hb : PD X K E b tb gb) : PD X K E (.BinOp a op b pos) (tOp r ta tb) (gBin f ga gb) :=
  ⟨pe_op ho ha.pe hb.pe, sem_op hf ha.sem hb.sem⟩
theorem pd_cmp {op : CmpOp} {r : R2} {f : PyData → PyData → Option PyData} (ho : OpR X (compareOp op) r) (hf : OpD K r f) (ha : PD X K E a ta ga) (hb : PD X K E b tb gb) (hm : behindInMarks op b = false) : PD X K E (.Compare a [op] [b] pos) (tOp r ta tb) (gBin f ga gb) :=
  ⟨pe_cmpR ho ha.pe hb.pe hm, sem_op hf ha.sem hb.sem⟩
theorem pd_ix {r : R2} {f : PyData → PyData → Option PyData} (ho : IxR X r) (hf : OpD K r f) (ha : PD X K E a ta ga) (hb : PD X K E b tb gb) (hs : PlainIx b) : PD X K E (.Subscript a b pos) (tOp r ta tb) (gBin f ga gb) :=
  ⟨pe_ix ho ha.pe hb.pe hs, sem_op hf ha.sem hb.sem⟩
/-- two ways of one operator -/
theorem OpD.or {r r' : R2} {f f' : PyData → PyData → Option PyData} (h : OpD K r f) (h' : OpD K r' f') : OpD K (fun x y H Q => r x y H Q ∨ r' x y H Q) (fun d e => (f d e).or (f' d e)) := by
  intro c H G cu v w d e z Q wd r1 r2 hz q
  cases hf : f d e with
  | some y =>
    have hz' : (f d e).or (f' d e) = some z := hz
    rw [hf] at hz'
    exact .inl (h c H G cu v w d e z Q wd r1 r2 (by rw [hf]; exact hz') q)
  | none =>
    have hz' : (f d e).or (f' d e) = some z := hz
    rw [hf] at hz'
    exact .inr (h' c H G cu v w d e z Q wd r1 r2 hz' q)
def fI (C : Int → Int → Bool) (g : Int → Int → Int) : PyData → PyData → Option PyData
  | .int i, .int j => if C i j = true then some (.int (g i j)) else none
  | _, _ => none
def fI0 (g : Int → Int → Int) : PyData → PyData → Option PyData
  | .int i, .int j => some (.int (g i j))
  | _, _ => none
def fB0 (g : Int → Int → Bool) : PyData → PyData → Option PyData
  | .int i, .int j => some (.bool (g i j))
  | _, _ => none
theorem Rp.int_of {K : Kx} {G : Hp} {v : V} {i : Int} (r : Rp K G v (.int i)) : v = .int i := by cases r; rfl
theorem Rp.bl_of {K : Kx} {G : Hp} {v : V} {i : Bool} (r : Rp K G v (.bool i)) : v = .bl i := by cases r; rfl
theorem Rp.str_of {K : Kx} {G : Hp} {v : V} {i : Str} (r : Rp K G v (.str i)) : v = .str i := by cases r; rfl
theorem Rp.lst_of {K : Kx} {G : Hp} {v : V} {ds : List PyData} (r : Rp K G v (.list ds)) : ∃ a xs, v = .ref a ∧ G a = some (.lst xs) ∧ RpL K G xs ds := by cases r with | lst h r => exact ⟨_, _, rfl, h, r⟩
theorem Rp.tup_of {K : Kx} {G : Hp} {v : V} {ds : List PyData} (r : Rp K G v (.tuple ds)) : ∃ a xs, v = .ref a ∧ TupAt K.F G a xs ∧ RpL K G xs ds := by cases r with | tupA h r => exact ⟨_, _, rfl, h, r⟩
theorem opD_I0 {g : Int → Int → Int} : OpD K (rI0 fun i j => .int (g i j)) (fI0 g) := by
  intro c H G cu v w d e z Q wd r1 r2 hz q
  unfold fI0 at hz
  split at hz
  · cases hz
    exact ⟨_, _, r1.int_of, r2.int_of, q _ H G Ext.refl wd (.int _)⟩
  · cases hz
theorem opD_B0 {g : Int → Int → Bool} : OpD K (rI0 fun i j => .bl (g i j)) (fB0 g) := by
  intro c H G cu v w d e z Q wd r1 r2 hz q
  unfold fB0 at hz
  split at hz
  · cases hz
    exact ⟨_, _, r1.int_of, r2.int_of, q _ H G Ext.refl wd (.bl _)⟩
  · cases hz
theorem opD_I {C : Int → Int → Prop} {C' : Int → Int → Bool} {g : Int → Int → Int} (hC : ∀ i j, C' i j = true → C i j) : OpD K (rI C fun i j => .int (g i j)) (fI C' g) := by
  intro c H G cu v w d e z Q wd r1 r2 hz q
  unfold fI at hz
  split at hz
  · split at hz
    · rename_i hc
      cases hz
      exact ⟨_, _, r1.int_of, r2.int_of, hC _ _ hc, q _ H G Ext.refl wd (.int _)⟩
    · cases hz
  · cases hz
/-- a new object, not known -/
theorem Wd.newH {c : Option Addr} {H G : Hp} {cu : Cu} (w : Wd K c H G cu) {p : Addr} {o : HO} (hp : H p = none) (no : ∀ ps, o ≠ .tbl ps := by intro ps z; cases z) : Ext c H G (upd H p o) G ∧ Wd K c (upd H p o) G cu ∧ G p = none := by
  have gp : G p = none := by
    cases e : G p with
    | none => rfl
    | some u => have := w.sub _ _ e; rw [hp] at this; cases this
  have hk : ∀ b u, H b = some u → upd H p o b = some u := fun b u e => by rw [upd_ne (ne_of_none e hp)]; exact e
  refine ⟨⟨fun b u e _ _ => hk b u e, fun b u e n => ⟨u, hk b u e, n⟩, fun b u e => e, fun b u e _ n => n⟩, ⟨fun b u e => hk b u (w.sub _ _ e), w.tab.ext hk, w.nt, fun a ha => ?_⟩, gp⟩
  obtain ⟨h1, h2⟩ := w.cup a ha
  exact ⟨hk _ _ h1, h2⟩
/-- a known one -/
theorem Wd.know {c : Option Addr} {H G : Hp} {cu : Cu} (w : Wd K c H G cu) {p : Addr} {o : HO} (hp : H p = some o) (gp : G p = none) (hc : c ≠ some p) (no : ∀ ps, o ≠ .tbl ps := by intro ps z; cases z) : Wd K c H (upd G p o) cu := by
  refine ⟨fun b u e => ?_, w.tab, fun b ps e => ?_, fun a ha => ?_⟩
  · by_cases hb : b = p
    · rw [hb, upd_same] at e; rw [hb, hp]; exact e
    · rw [upd_ne hb] at e; exact w.sub _ _ e
  · by_cases hb : b = p
    · rw [hb, upd_same] at e; exact no ps (Option.some.inj e)
    · rw [upd_ne hb] at e; exact w.nt b ps e
  · obtain ⟨h1, h2⟩ := w.cup a ha
    exact ⟨h1, by rw [upd_ne (fun z => hc (by rw [← z]; exact ha))]; exact h2⟩
/-- a new object, known from now on -/
theorem Wd.new {c : Option Addr} {H G : Hp} {cu : Cu} (w : Wd K c H G cu) {p : Addr} {o : HO} (hp : H p = none) (no : ∀ ps, o ≠ .tbl ps := by intro ps z; cases z) : Ext c H G (upd H p o) (upd G p o) ∧ Wd K c (upd H p o) (upd G p o) cu := by
  obtain ⟨x, w', gp⟩ := w.newH hp no
  refine ⟨⟨x.h, x.hs, fun b u e => by rw [upd_ne (ne_of_none e gp)]; exact e, fun b u e _ n => ?_⟩, w'.know upd_same gp (fun z => ?_) no⟩
  · rw [upd_ne (ne_of_none e hp)]; exact n
  · have := (w.cup p z).1
    rw [hp] at this; cases this
theorem RpL.upd {K : Kx} {G : Hp} {xs : List V} {ds : List PyData} {p : Addr} {o : HO} (r : RpL K G xs ds) (gp : G p = none) : RpL K (upd G p o) xs ds := r.mono fun b u e => by rw [upd_ne (ne_of_none e gp)]; exact e
theorem Wd.gp {c : Option Addr} {H G : Hp} {cu : Cu} (w : Wd K c H G cu) {p : Addr} (hp : H p = none) : G p = none := by
  cases e : G p with
  | none => rfl
  | some u => have := w.sub _ _ e; rw [hp] at this; cases this
/-- a new tuple, a new list -/
theorem new_tup {c : Option Addr} {H G : Hp} {cu : Cu} {p : Addr} {xs : List V} {ds : List PyData} {Q : VK} (w : Wd K c H G cu) (r : RpL K G xs ds) (q : ∀ v' H' G', Ext c H G H' G' → Wd K c H' G' cu → Rp K G' v' (.tuple ds) → Q v' H') (hp : H p = none) : Q (.ref p) (upd H p (.tup xs)) :=
  q _ _ _ (w.new hp).1 (w.new hp).2 (.tup upd_same (r.upd (w.gp hp)))
theorem new_lst {c : Option Addr} {H G : Hp} {cu : Cu} {p : Addr} {xs : List V} {ds : List PyData} {Q : VK} (w : Wd K c H G cu) (r : RpL K G xs ds) (q : ∀ v' H' G', Ext c H G H' G' → Wd K c H' G' cu → Rp K G' v' (.list ds) → Q v' H') (hp : H p = none) : Q (.ref p) (upd H p (.lst xs)) :=
  q _ _ _ (w.new hp).1 (w.new hp).2 (.lst upd_same (r.upd (w.gp hp)))
end
end DL

set_option Elab.async false
set_option linter.all false
set_option maxRecDepth 100000
set_option autoImplicit false
namespace DL
open PySem PySem.Spec PyProof.Rows L2
section
variable {X : Cx} {K : Kx} {E : XK} {a b c e : Expr} {es : List Expr} {ta tb tc te : TE} {t : TA} {ga gb gc ge : GE} {g : GA} {pos : Pos}
/-! ### the operators -/
def dAdd : PyData → PyData → Option PyData
  | .int i, .int j => some (.int (i + j))
  | .tuple xs, .tuple ys => if xs.length + ys.length ≤ 16777216 then some (.tuple (xs ++ ys)) else none
  | .list xs, .list ys => if xs.length + ys.length ≤ 16777216 then some (.list (xs ++ ys)) else none
  | _, _ => none
def rAddD (F : PySem.W.Frag) : R2 := fun x y H Q => rI0 (fun i j => .int (i + j)) x y H Q ∨ (rCatA F x y H Q ∨ rCat x y H Q)
theorem op_addD : OpR X (binaryOp .Add) (rAddD X.K) := OpR.or op_add (OpR.or op_catA op_cat)
theorem opD_add (hKF : K.F = X.K := by assumption) : OpD K (rAddD X.K) dAdd := by
  intro c H G cu v w d e z Q wd r1 r2 hz q
  unfold dAdd at hz
  split at hz
  · cases hz
    exact .inl ⟨_, _, r1.int_of, r2.int_of, q _ H G Ext.refl wd (.int _)⟩
  · split at hz
    · rename_i hl
      cases hz
      obtain ⟨a, xs, rfl, ha, ra⟩ := r1.tup_of
      obtain ⟨b, ys, rfl, hb, rb⟩ := r2.tup_of
      refine .inr (.inl ⟨a, b, xs, ys, rfl, rfl, TupAt.sq' hKF (TupAt.mono wd.sub ha), TupAt.sq' hKF (TupAt.mono wd.sub hb), by rw [ra.length, rb.length, sizeLine_eq]; exact hl, ?_⟩)
      refine ⟨fun ex => ?_, fun hx ey => ?_, fun hx hy p hp => new_tup wd (ra.app rb) q hp⟩
      · subst ex
        cases ra
        exact q _ H G Ext.refl wd (.tupA hb rb)
      · subst ey
        cases rb
        rw [List.append_nil] at q
        exact q _ H G Ext.refl wd (.tupA ha ra)
    · cases hz
  · split at hz
    · rename_i hl
      cases hz
      obtain ⟨a, xs, rfl, ha, ra⟩ := r1.lst_of
      obtain ⟨b, ys, rfl, hb, rb⟩ := r2.lst_of
      exact .inr (.inr ⟨a, b, xs, ys, rfl, rfl, wd.sub _ _ ha, wd.sub _ _ hb, by rw [ra.length, rb.length, sizeLine_eq]; exact hl, fun p hp => new_lst wd (ra.app rb) q hp⟩)
    · cases hz
  · cases hz
theorem opD_sub : OpD K (rI0 fun i j => .int (i - j)) (fI0 fun i j => i - j) := opD_I0
def mulOk (i j : Int) : Bool := decide (i.natAbs < 2 ^ 64) || (decide (j.natAbs < 2 ^ 64) || decide (i.natAbs.log2 + j.natAbs.log2 < 1000000))
theorem RpL.rep {G : Hp} {xs : List V} {ds : List PyData} (r : RpL K G xs ds) : ∀ k : Nat, RpL K G (List.replicate k xs).flatten (List.replicate k ds).flatten
  | 0 => .nil
  | k + 1 => by rw [List.replicate_succ, List.replicate_succ, List.flatten_cons, List.flatten_cons]; exact r.app (RpL.rep r k)
def dMul : PyData → PyData → Option PyData
  | .int i, .int j => if mulOk i j = true then some (.int (i * j)) else none
  | .list xs, .int k => if k ≤ 1000 ∧ -1000 ≤ k ∧ xs.length ≤ 1000 then some (.list (List.replicate k.toNat xs).flatten) else none
  | _, _ => none
def CMulD (i j : Int) : Prop := mulOk i j = true
theorem op_mulD0 : OpR X (binaryOp .Mult) (rI CMulD fun i j => .int (i * j)) := by
  intro pins s σ H x y v u Q I rx ry h
  obtain ⟨i, j, e1, e2, hc, q⟩ := h
  unfold CMulD mulOk at hc
  rw [Bool.or_eq_true, Bool.or_eq_true, decide_eq_true_eq, decide_eq_true_eq, decide_eq_true_eq] at hc
  rcases hc with hc | hc | hc
  · exact op_mul pins s σ H x y v u Q I rx ry ⟨i, j, e1, e2, .inl (by omega), q⟩
  · exact op_mul pins s σ H x y v u Q I rx ry ⟨i, j, e1, e2, .inr (by omega), q⟩
  · exact op_mulW pins s σ H x y v u Q I rx ry ⟨i, j, e1, e2, hc, q⟩
def rMulD : R2 := fun x y H Q => rI CMulD (fun i j => .int (i * j)) x y H Q ∨ rRep x y H Q
theorem op_mulD : OpR X (binaryOp .Mult) rMulD := OpR.or op_mulD0 op_rep
theorem opD_mul : OpD K rMulD dMul := by
  intro c H G cu v w d e z Q wd r1 r2 hz q
  unfold dMul at hz
  split at hz
  · split at hz
    · rename_i hc
      cases hz
      exact .inl ⟨_, _, r1.int_of, r2.int_of, hc, q _ H G Ext.refl wd (.int _)⟩
    · cases hz
  · split at hz
    · rename_i xs k hc
      cases hz
      obtain ⟨a, vs, rfl, ha, ra⟩ := r1.lst_of
      have hl := ra.length
      refine .inr ⟨a, k, vs, rfl, r2.int_of, wd.sub _ _ ha, by omega, by omega, ?_, fun p hp => new_lst wd (ra.rep _) q hp⟩
      rw [hl, sizeLine_eq]
      have h1 : k.toNat ≤ 1000 := by omega
      calc xs.length * k.toNat ≤ 1000 * 1000 := Nat.mul_le_mul hc.2.2 h1
        _ ≤ 16777216 := by decide
    · cases hz
  · cases hz
def divOk (_ j : Int) : Bool := decide (j ≠ 0) && decide (j.natAbs.log2 < 9000)
def CDivD (i j : Int) : Prop := divOk i j = true
theorem op_divD : OpR X (binaryOp .FloorDiv) (rI CDivD fun i j => .int (i.fdiv j)) := opI fun i j _ _ _ _ _ hc q => by
  have hc : divOk i j = true := hc
  unfold divOk at hc
  rw [Bool.and_eq_true, decide_eq_true_eq, decide_eq_true_eq] at hc
  exact floordiv_int hc.1 q (.inl (PyProof.noPylong_of_log2 hc.2))
theorem opD_div : OpD K (rI CDivD fun i j => .int (i.fdiv j)) (fI divOk fun i j => i.fdiv j) := opD_I fun _ _ h => h
def modOk (_ j : Int) : Bool := decide (j ≠ 0)
theorem opD_mod : OpD K (rI (fun _ j => j ≠ 0) fun i j => .int (i.fmod j)) (fI modOk fun i j => i.fmod j) := opD_I fun _ _ h => of_decide_eq_true h
def powOk (i j : Int) : Bool := decide (0 ≤ j) && (decide (j ≤ 1000000) && decide (i.natAbs < 2 ^ 64))
theorem opD_pow : OpD K (rI CPow fun i j => .int (i ^ j.toNat)) (fI powOk fun i j => i ^ j.toNat) := opD_I fun i j h => by
  unfold powOk at h
  rw [Bool.and_eq_true, Bool.and_eq_true, decide_eq_true_eq, decide_eq_true_eq, decide_eq_true_eq] at h
  exact h
theorem opD_lt : OpD K (rI0 fun i j => .bl (decide (i < j))) (fB0 fun i j => decide (i < j)) := opD_B0
theorem opD_le : OpD K (rI0 fun i j => .bl (decide (i ≤ j))) (fB0 fun i j => decide (i ≤ j)) := opD_B0
theorem opD_gt : OpD K (rI0 fun i j => .bl (decide (j < i))) (fB0 fun i j => decide (j < i)) := opD_B0
theorem opD_ge : OpD K (rI0 fun i j => .bl (decide (j ≤ i))) (fB0 fun i j => decide (j ≤ i)) := opD_B0
/-! ==, != -/
def eqD : PyData → PyData → Option Bool
  | .int i, .int j => some (decide (i = j))
  | .str i, .str j => some (decide (i = j))
  | .bool i, .bool j => some (decide (i = j))
  | d, e => if SeqAt.shaped d = true ∧ SeqAt.shaped e = true then some (PyData.eqv d e) else none
def dEq (d e : PyData) : Option PyData := (eqD d e).map .bool
def dNe (d e : PyData) : Option PyData := (eqD d e).map fun b => .bool (!b)
def rEqX (F : PySem.W.Frag) : R2 := fun x y H Q => rEq x y H Q ∨ rEqD F x y H Q
def rNeX (F : PySem.W.Frag) : R2 := fun x y H Q => rNe x y H Q ∨ rNeD F x y H Q
theorem op_eqX (hu : X.A.units + 64 < cLine) : OpR X (compareOp .Eq) (rEqX X.K) := OpR.or op_eq (op_eqD hu)
theorem op_neX (hu : X.A.units + 64 < cLine) : OpR X (compareOp .NotEq) (rNeX X.K) := OpR.or op_ne (op_neD hu)
theorem eq_core {c : Option Addr} {H G : Hp} {cu : Cu} {v w : V} {d e : PyData} {k : Bool} {F : PySem.W.Frag} (hKF : K.F = F) (wd : Wd K c H G cu) (r1 : Rp K G v d) (r2 : Rp K G w e) (hk : eqD d e = some k) :
    (scal v w = true ∧ decide (v = w) = k) ∨ ∃ d' e', Dp F H v d' ∧ Dp F H w e' ∧ SeqAt.shaped d' = true ∧ SeqAt.shaped e' = true ∧ PyData.eqv d' e' = k := by
  unfold eqD at hk
  split at hk
  · cases hk; rw [r1.int_of, r2.int_of]; exact .inl ⟨rfl, by rw [dec_int, Bool.beq_eq_decide_eq]⟩
  · cases hk; rw [r1.str_of, r2.str_of]; exact .inl ⟨rfl, by rw [dec_str, Bool.beq_eq_decide_eq]⟩
  · cases hk; rw [r1.bl_of, r2.bl_of]; exact .inl ⟨rfl, by rw [dec_bl, Bool.beq_eq_decide_eq]⟩
  · split at hk
    · rename_i hs
      cases hk
      exact .inr ⟨_, _, (r1.mono wd.sub).dpS hKF hs.1, (r2.mono wd.sub).dpS hKF hs.2, hs.1, hs.2, rfl⟩
    · cases hk
theorem opD_eq (hKF : K.F = X.K := by assumption) : OpD K (rEqX X.K) dEq := by
  intro c H G cu v w d e z Q wd r1 r2 hz q
  unfold dEq at hz
  cases hk : eqD d e with
  | none => rw [hk] at hz; cases hz
  | some k =>
    rw [hk] at hz
    cases hz
    have q' := q (.bl k) H G Ext.refl wd (.bl _)
    rcases eq_core (F := X.K) hKF wd r1 r2 hk with ⟨h1, h2⟩ | ⟨d', e', h1, h2, h3, h4, h5⟩
    · exact .inl ⟨h1, by rw [h2]; exact q'⟩
    · exact .inr ⟨d', e', h1, h2, h3, h4, by rw [h5]; exact q'⟩
theorem opD_ne (hKF : K.F = X.K := by assumption) : OpD K (rNeX X.K) dNe := by
  intro c H G cu v w d e z Q wd r1 r2 hz q
  unfold dNe at hz
  cases hk : eqD d e with
  | none => rw [hk] at hz; cases hz
  | some k =>
    rw [hk] at hz
    cases hz
    have q' := q (.bl !k) H G Ext.refl wd (.bl _)
    rcases eq_core (F := X.K) hKF wd r1 r2 hk with ⟨h1, h2⟩ | ⟨d', e', h1, h2, h3, h4, h5⟩
    · exact .inl ⟨h1, by rw [h2]; exact q'⟩
    · exact .inr ⟨d', e', h1, h2, h3, h4, by rw [h5]; exact q'⟩
/-! is, is not of bools -/
def dIs : PyData → PyData → Option PyData
  | .bool i, .bool j => some (.bool (decide (i = j)))
  | _, _ => none
def dIsNot : PyData → PyData → Option PyData
  | .bool i, .bool j => some (.bool (!decide (i = j)))
  | _, _ => none
theorem opD_is : OpD K rIsB dIs := by
  intro c H G cu v w d e z Q wd r1 r2 hz q
  unfold dIs at hz
  split at hz
  · cases hz; exact ⟨_, _, r1.bl_of, r2.bl_of, q _ H G Ext.refl wd (.bl _)⟩
  · cases hz
theorem opD_isNot : OpD K rNotB dIsNot := by
  intro c H G cu v w d e z Q wd r1 r2 hz q
  unfold dIsNot at hz
  split at hz
  · cases hz; exact ⟨_, _, r1.bl_of, r2.bl_of, q _ H G Ext.refl wd (.bl _)⟩
  · cases hz
/-! xs[i] -/
def dIx : PyData → PyData → Option PyData
  | .tuple xs, .int i => atI xs i
  | .list xs, .int i => atI xs i
  | _, _ => none
theorem atI_rp {G : Hp} {xs : List V} {ds : List PyData} {i : Int} {d : PyData} (r : RpL K G xs ds) (h : atI ds i = some d) : ∃ v, atI xs i = some v ∧ Rp K G v d := by
  unfold atI at h ⊢
  rw [r.length]
  cases e : ixN ds.length i with
  | none => rw [e] at h; cases h
  | some j =>
    rw [e] at h
    exact r.get h
def rIxD (F : PySem.W.Frag) : R2 := fun x y H Q => rIxT F x y H Q ∨ rIxL F x y H Q
theorem ixR_D : IxR X (rIxD X.K) := IxR.or ix_tup ix_list
theorem opD_ix (hKF : K.F = X.K := by assumption) : OpD K (rIxD X.K) dIx := by
  intro c H G cu v w d e z Q wd r1 r2 hz q
  unfold dIx at hz
  split at hz
  · obtain ⟨a, xs, rfl, ha, ra⟩ := r1.tup_of
    obtain ⟨y, e1, ry⟩ := atI_rp ra hz
    exact .inl ⟨a, xs, _, y, rfl, r2.int_of, TupAt.sq' hKF (TupAt.mono wd.sub ha), e1, q _ H G Ext.refl wd ry⟩
  · obtain ⟨a, xs, rfl, ha, ra⟩ := r1.lst_of
    obtain ⟨y, e1, ry⟩ := atI_rp ra hz
    exact .inr ⟨a, xs, _, y, rfl, r2.int_of, SqL.of (wd.sub _ _ ha), e1, q _ H G Ext.refl wd ry⟩
  · cases hz
/-! slices -/
abbrev GO := En → Cu → Rs (Option Int)
def SemO (K : Kx) (E : XK) (t : TO) (g : GO) : Prop := ∀ c H0 G0 σ H G ρ cu (Q : Option Int → Hp → Prop), SRep K c H0 G0 σ H G ρ cu → Post K E c H G (g ρ cu) (fun o H' _ _ => Q o H') → t σ H Q
structure POD (X : Cx) (K : Kx) (E : XK) (e : Option Expr) (t : TO) (g : GO) : Prop where
  po : PO X e t
  sem : SemO K E t g
def gNoPart : GO := fun _ cu => .ok none cu
theorem pod_none : POD X K E none tNoPart gNoPart := ⟨po_none, fun c H0 G0 σ H G ρ cu Q s q => q H G Ext.refl s.wd⟩
def dInt : PyData → Option Int
  | .int i => some i
  | _ => none
def gPart (g : GE) : GO := fun ρ cu => (g ρ cu).bind fun d cu1 => .ofO ((dInt d).map some) cu1
theorem pod_some (h : PD X K E e te ge) : POD X K E (some e) (tPart te) (gPart ge) := by
  refine ⟨po_some h.pe, fun c H0 G0 σ H G ρ cu Q s q => ?_⟩
  refine h.sem c H0 G0 σ H G ρ cu _ s (q.bind.imp fun d H1 G1 cu1 x1 w1 q1 v rv => ?_)
  obtain ⟨o, e, q2⟩ := q1.ofO
  cases d with
  | int i =>
    cases e
    exact ⟨i, rv.int_of, q2 H1 G1 Ext.refl w1⟩
  | _ => cases e
def cutD (xs : List PyData) (lo hi : Option Int) : List PyData := (xs.drop (HT.sIx xs.length 0 lo)).take (HT.sIx xs.length xs.length hi - HT.sIx xs.length 0 lo)
theorem cut_rp {G : Hp} {xs : List V} {ds : List PyData} {lo hi : Option Int} (r : RpL K G xs ds) : RpL K G (cutV xs lo hi) (cutD ds lo hi) := by
  unfold cutV cutD
  rw [r.length]
  exact (r.drop _).take _
def dCut : PyData → Option Int → Option Int → Option PyData
  | .tuple xs, lo, hi => some (.tuple (cutD xs lo hi))
  | .list xs, lo, hi => some (.list (cutD xs lo hi))
  | _, _, _ => none
def gSlice (g : GE) (gl gh : GO) : GE := fun ρ cu => (g ρ cu).bind fun d cu1 => (gl ρ cu1).bind fun lo cu2 => (gh ρ cu2).bind fun hi cu3 => .ofO (dCut d lo hi) cu3
def rSlD (F : PySem.W.Frag) : V → Option Int → Option Int → Hp → VK → Prop := fun x lo hi H Q => rSlA F x lo hi H Q ∨ rSlL F x lo hi H Q
theorem pd_slice {lo hi : Option Expr} {tl th : TO} {gl gh : GO} {p2 : Pos} (he : PD X K E e te ge) (hl : POD X K E lo tl gl) (hh : POD X K E hi th gh) (hKF : K.F = X.K := by assumption) : PD X K E (.Subscript e (.Slice lo hi none p2) pos) (tSl (rSlD X.K) te tl th) (gSlice ge gl gh) := by
  refine ⟨pe_slice (SlR.or sl_tupA sl_list) he.pe hl.po hh.po, fun c H0 G0 σ H G ρ cu Q s q => ?_⟩
  refine he.sem c H0 G0 σ H G ρ cu _ s (q.bind.imp fun d H1 G1 cu1 x1 w1 q1 v rv => ?_)
  have s1 := s.go x1 w1
  refine hl.sem c H0 G0 σ H1 G1 ρ cu1 _ s1 (q1.bind.imp fun lo H2 G2 cu2 x2 w2 q2 => ?_)
  have s2 := s1.go x2 w2
  refine hh.sem c H0 G0 σ H2 G2 ρ cu2 _ s2 (q2.bind.imp fun hi H3 G3 cu3 x3 w3 q3 => ?_)
  obtain ⟨z, ez, q4⟩ := q3.ofO
  have rv3 := rv.mono fun b o e => x3.g _ _ (x2.g _ _ e)
  have q4 : ∀ v' H' G', Ext c H3 G3 H' G' → Wd K c H' G' cu3 → Rp K G' v' z → Q v' H' := fun v' H' G' x w r => q4 H' G' x w v' r
  cases d with
  | tuple ds =>
    cases ez
    obtain ⟨a, xs, rfl, ha, ra⟩ := rv3.tup_of
    refine .inl ⟨a, xs, rfl, TupAt.sq' hKF (TupAt.mono w3.sub ha), fun hw => ?_, fun _ p hp => new_tup w3 (cut_rp ra) q4 hp⟩
    have e : cutD ds lo hi = ds := by
      unfold cutD
      rw [← ra.length, hw.1, hw.2, List.drop_zero, Nat.sub_zero, ra.length, List.take_length]
    rw [e] at q4
    exact q4 _ H3 G3 Ext.refl w3 (.tupA ha ra)
  | list ds =>
    cases ez
    obtain ⟨a, xs, rfl, ha, ra⟩ := rv3.lst_of
    exact .inr ⟨a, xs, rfl, SqL.of (w3.sub _ _ ha), fun p hp => new_lst w3 (cut_rp ra) q4 hp⟩
  | _ => cases ez
/-! one-place operators -/
def dNeg : PyData → Option PyData
  | .int i => some (.int (-i))
  | _ => none
def gUn (f : PyData → Option PyData) (g : GE) : GE := fun ρ cu => (g ρ cu).bind fun d cu1 => .ofO (f d) cu1
theorem pd_neg (ha : PD X K E a ta ga) : PD X K E (.UnaryOp .USub a pos) (tUn (rU fun i => .int (-i)) ta) (gUn dNeg ga) := by
  refine ⟨pe_un un_neg ha.pe, fun c H0 G0 σ H G ρ cu Q s q => ?_⟩
  refine ha.sem c H0 G0 σ H G ρ cu _ s (q.bind.imp fun d H1 G1 cu1 x1 w1 q1 v rv => ?_)
  obtain ⟨z, ez, q2⟩ := q1.ofO
  cases d with
  | int i => cases ez; exact ⟨i, rv.int_of, q2 H1 G1 Ext.refl w1 _ (.int _)⟩
  | _ => cases ez
/-! ### arguments, displays -/
def gaNil : GA := fun _ cu => .ok [] cu
def gaCons (g : GE) (r : GA) : GA := fun ρ cu => (g ρ cu).bind fun d cu1 => (r ρ cu1).bind fun as cu2 => .ok (.dat d :: as) cu2
def gaCup (i : Nat) (r : GA) : GA := fun ρ cu => match ρ[i]? with
  | some .cup => (r ρ cu).bind fun as cu2 => .ok (.cup :: as) cu2
  | _ => .stuck
theorem pad_nil : PAD X K E [] tNil gaNil := ⟨pa_nil, fun c H0 G0 σ H G ρ cu Q s q => q H G Ext.refl s.wd [] .nil⟩
theorem pad_cons (ha : PD X K E e te ge) (hr : PAD X K E es t g) (hs : starEach (e :: es) X.env = (false, eval e X.env) :: starEach es X.env := by rfl) : PAD X K E (e :: es) (tCons te t) (gaCons ge g) := by
  refine ⟨pa_cons ha.pe hr.pa hs, fun c H0 G0 σ H G ρ cu Q s q => ?_⟩
  refine ha.sem c H0 G0 σ H G ρ cu _ s (q.bind.imp fun d H1 G1 cu1 x1 w1 q1 v rv => ?_)
  refine hr.sem c H0 G0 σ H1 G1 ρ cu1 _ (s.go x1 w1) (q1.bind.imp fun as H2 G2 cu2 x2 w2 q2 vs rvs => ?_)
  exact q2 H2 G2 Ext.refl w2 _ (.dat (rv.mono x2.g) rvs)
theorem pad_cup {i : Nat} {x : Str} (h : PE X (.Name x pos) (tVar i)) (hr : PAD X K E es t g) (hs : starEach (.Name x pos :: es) X.env = (false, eval (.Name x pos) X.env) :: starEach es X.env := by rfl) : PAD X K E (.Name x pos :: es) (tCons (tVar i) t) (gaCup i g) := by
  refine ⟨pa_cons h hr.pa hs, fun c H0 G0 σ H G ρ cu Q s q => ?_⟩
  unfold gaCup at q
  split at q
  · rename_i e
    obtain ⟨a, e1, e2⟩ := s.rep.cup i e
    refine ⟨_, e2, hr.sem c H0 G0 σ H G ρ cu _ s (q.bind.imp fun as H2 G2 cu2 x2 w2 q2 vs rvs => ?_)⟩
    exact q2 H2 G2 Ext.refl w2 _ (.cup e1 rvs)
  · exact q.elim
def dats : List Sl → Option (List PyData)
  | [] => some []
  | .dat d :: r => (dats r).map fun ds => d :: ds
  | _ :: _ => none
theorem dats_rp {c : Option Addr} {G : Hp} : ∀ {as : List Sl} {vs : List V} {ds : List PyData}, ArgRp K c G vs as → dats as = some ds → RpL K G vs ds
  | [], _, _, .nil, e => by cases e; exact .nil
  | .dat d :: r, _, ds, .dat h hr, e => by
    have e' : (dats r).map (fun ds => d :: ds) = some ds := e
    cases e2 : dats r with
    | none => rw [e2] at e'; cases e'
    | some ds' =>
      rw [e2] at e'
      cases e'
      exact .cons h (dats_rp hr e2)
  | .cup :: _, _, _, _, e => by cases e
def gDisp (mk : List PyData → PyData) (g : GA) : GE := fun ρ cu => (g ρ cu).bind fun as cu1 => .ofO ((dats as).bind fun ds => if ds.length ≤ 16777216 then some (mk ds) else none) cu1
theorem disp_of {mk : List PyData → PyData} {as : List Sl} {z : PyData} (h : ((dats as).bind fun ds => if ds.length ≤ 16777216 then some (mk ds) else none) = some z) : ∃ ds, dats as = some ds ∧ ds.length ≤ 16777216 ∧ z = mk ds := by
  cases e : dats as with
  | none => rw [e] at h; cases h
  | some ds =>
    rw [e] at h
    have h' : (if ds.length ≤ 16777216 then some (mk ds) else none) = some z := h
    split at h'
    · rename_i hl; cases h'; exact ⟨ds, rfl, hl, rfl⟩
    · cases h'
theorem pd_tup {x1 : Nat} (h : PAD X K E es t g) : PD X K E (.Tuple es x1 pos) (tTup t) (gDisp .tuple g) := by
  refine ⟨pe_tup h.pa, fun c H0 G0 σ H G ρ cu Q s q => ?_⟩
  refine h.sem c H0 G0 σ H G ρ cu _ s (q.bind.imp fun as H1 G1 cu1 x1 w1 q1 vs rvs => ?_)
  obtain ⟨z, ez, q2⟩ := q1.ofO
  obtain ⟨ds, e1, e2, rfl⟩ := disp_of ez
  have r := dats_rp rvs e1
  exact ⟨by rw [r.length, sizeLine_eq]; exact e2, fun p hp => new_tup w1 r (fun v' H' G' x w rr => q2 H' G' x w v' rr) hp⟩
theorem pd_lst (h : PAD X K E es t g) : PD X K E (.List es pos) (tLst t) (gDisp .list g) := by
  refine ⟨pe_lst h.pa, fun c H0 G0 σ H G ρ cu Q s q => ?_⟩
  refine h.sem c H0 G0 σ H G ρ cu _ s (q.bind.imp fun as H1 G1 cu1 x1 w1 q1 vs rvs => ?_)
  obtain ⟨z, ez, q2⟩ := q1.ofO
  obtain ⟨ds, e1, e2, rfl⟩ := disp_of ez
  have r := dats_rp rvs e1
  exact ⟨by rw [r.length, sizeLine_eq]; exact e2, fun p hp => new_lst w1 r (fun v' H' G' x w rr => q2 H' G' x w v' rr) hp⟩
/-! ### built-ins -/
def CallD (K : Kx) (r : List V → Hp → VK → Prop) (f : List PyData → Option PyData) : Prop := ∀ c H G cu vs ds z (Q : VK), Wd K c H G cu → RpL K G vs ds → f ds = some z →
  (∀ v' H' G', Ext c H G H' G' → Wd K c H' G' cu → Rp K G' v' z → Q v' H') → r vs H Q
def gCall (f : List PyData → Option PyData) (g : GA) : GE := fun ρ cu => (g ρ cu).bind fun as cu1 => .ofO ((dats as).bind f) cu1
theorem sem_callB {r : List V → Hp → VK → Prop} {f : List PyData → Option PyData} (hf : CallD K r f) (h : SemA K E t g) : SemE K E (tCB r t) (gCall f g) := by
  intro c H0 G0 σ H G ρ cu Q s q
  refine h c H0 G0 σ H G ρ cu _ s (q.bind.imp fun as H1 G1 cu1 x1 w1 q1 vs rvs => ?_)
  obtain ⟨z, ez, q2⟩ := q1.ofO
  cases e : dats as with
  | none => rw [e] at ez; cases ez
  | some ds =>
    rw [e] at ez
    exact hf c H1 G1 cu1 vs ds z Q w1 (dats_rp rvs e) ez fun v' H' G' x w rr => q2 H' G' x w v' rr
theorem pd_callB {id : String} {x : Str} {p : Pos} {r : List V → Hp → VK → Prop} {f : List PyData → Option PyData} (hc : CallR X (.builtin id) r) (hf : CallD K r f) (hg : Gl X x) (hm : X.mg x = none) (hv : bootBuiltins x = some (.builtin id)) (ha : PAD X K E (e :: es) t g)
    (hn : x ≠ "__name__" := by decide) (hdb : (x == ("__debug__" : Str)) = false := by decide)
    (he : starEach (e :: es) X.env = (false, eval e X.env) :: starEach es X.env := by rfl) (hpl : (backTo pos (starEach es X.env)).any (·.1) = false := by rfl) : PD X K E (.Call (.Name x p) (e :: es) [] pos) (tCB r t) (gCall f g) :=
  ⟨pe_callB hc hg hm hv ha.pa hn hdb he hpl, sem_callB hf ha.sem⟩
theorem pd_callTy {T : String} {x : Str} {p : Pos} {r : List V → Hp → VK → Prop} {f : List PyData → Option PyData} (hc : CallR X (.type T) r) (hf : CallD K r f) (hg : Gl X x) (hm : X.mg x = none) (hv : bootBuiltins x = some (.type T)) (ha : PAD X K E (e :: es) t g)
    (hn : x ≠ "__name__" := by decide) (hdb : (x == ("__debug__" : Str)) = false := by decide)
    (he : starEach (e :: es) X.env = (false, eval e X.env) :: starEach es X.env := by rfl) (hpl : (backTo pos (starEach es X.env)).any (·.1) = false := by rfl) : PD X K E (.Call (.Name x p) (e :: es) [] pos) (tCB r t) (gCall f g) :=
  ⟨pe_callTy hc hg hm hv ha.pa hn hdb he hpl, sem_callB hf ha.sem⟩
theorem RpL.one {G : Hp} {vs : List V} {d : PyData} (r : RpL K G vs [d]) : ∃ v, vs = [v] ∧ Rp K G v d := by cases r with | cons h r => cases r; exact ⟨_, rfl, h⟩
theorem RpL.two {G : Hp} {vs : List V} {d e : PyData} (r : RpL K G vs [d, e]) : ∃ v w, vs = [v, w] ∧ Rp K G v d ∧ Rp K G w e := by
  cases r with
  | cons h r => obtain ⟨w, rfl, h2⟩ := r.one; exact ⟨_, _, rfl, h, h2⟩
def dAbs : List PyData → Option PyData
  | [.int i] => some (.int (if i < 0 then -i else i))
  | _ => none
theorem callD_abs : CallD K (fun xs H Q => ∃ i, xs = [.int i] ∧ Q (.int (if i < 0 then -i else i)) H) dAbs := by
  intro c H G cu vs ds z Q wd r hz q
  unfold dAbs at hz
  split at hz
  · cases hz; obtain ⟨v, rfl, rv⟩ := r.one; rw [rv.int_of]; exact ⟨_, rfl, q _ H G Ext.refl wd (.int _)⟩
  · cases hz
def dLen : List PyData → Option PyData
  | [.tuple xs] => some (.int (xs.length : Int))
  | [.list xs] => some (.int (xs.length : Int))
  | _ => none
theorem callD_len (hKF : K.F = X.K := by assumption) : CallD K (fun xs H Q => ∃ p ys, xs = [.ref p] ∧ (SqL X.K H p ys ∨ SqT X.K H p ys) ∧ Q (.int ys.length) H) dLen := by
  intro c H G cu vs ds z Q wd r hz q
  unfold dLen at hz
  split at hz
  · cases hz
    obtain ⟨v, rfl, rv⟩ := r.one
    obtain ⟨a, xs, rfl, ha, ra⟩ := rv.tup_of
    exact ⟨a, xs, rfl, .inr (TupAt.sq' hKF (TupAt.mono wd.sub ha)), by rw [ra.length]; exact q _ H G Ext.refl wd (.int _)⟩
  · cases hz
    obtain ⟨v, rfl, rv⟩ := r.one
    obtain ⟨a, xs, rfl, ha, ra⟩ := rv.lst_of
    exact ⟨a, xs, rfl, .inl (SqL.of (wd.sub _ _ ha)), by rw [ra.length]; exact q _ H G Ext.refl wd (.int _)⟩
  · cases hz
def dToInt : List PyData → Option PyData
  | [.int i] => some (.int i)
  | [.bool k] => some (.int (if k then 1 else 0))
  | _ => none
theorem callD_int : CallD K (fun xs H Q => (∃ i, xs = [.int i] ∧ Q (.int i) H) ∨ ∃ k, xs = [.bl k] ∧ Q (.int (if k then 1 else 0)) H) dToInt := by
  intro c H G cu vs ds z Q wd r hz q
  unfold dToInt at hz
  split at hz
  · cases hz; obtain ⟨v, rfl, rv⟩ := r.one; rw [rv.int_of]; exact .inl ⟨_, rfl, q _ H G Ext.refl wd (.int _)⟩
  · cases hz; obtain ⟨v, rfl, rv⟩ := r.one; rw [rv.bl_of]; exact .inr ⟨_, rfl, q _ H G Ext.refl wd (.int _)⟩
  · cases hz
def dMin2 : List PyData → Option PyData
  | [.int i, .int j] => some (.int (if j < i then j else i))
  | _ => none
def dMax2 : List PyData → Option PyData
  | [.int i, .int j] => some (.int (if j > i then j else i))
  | _ => none
theorem callD_min2 : CallD K (fun xs H Q => ∃ i j, xs = [.int i, .int j] ∧ Q (.int (if j < i then j else i)) H) dMin2 := by
  intro c H G cu vs ds z Q wd r hz q
  unfold dMin2 at hz
  split at hz
  · cases hz; obtain ⟨v, w, rfl, rv, rw'⟩ := r.two; rw [rv.int_of, rw'.int_of]; exact ⟨_, _, rfl, q _ H G Ext.refl wd (.int _)⟩
  · cases hz
theorem callD_max2 : CallD K (fun xs H Q => ∃ i j, xs = [.int i, .int j] ∧ Q (.int (if j > i then j else i)) H) dMax2 := by
  intro c H G cu vs ds z Q wd r hz q
  unfold dMax2 at hz
  split at hz
  · cases hz; obtain ⟨v, w, rfl, rv, rw'⟩ := r.two; rw [rv.int_of, rw'.int_of]; exact ⟨_, _, rfl, q _ H G Ext.refl wd (.int _)⟩
  · cases hz
def dToTup : List PyData → Option PyData
  | [.list xs] => some (.tuple xs)
  | [.tuple xs] => some (.tuple xs)
  | _ => none
theorem callD_tuple (hKF : K.F = X.K := by assumption) : CallD K (fun xs H Q => ∃ p ys, xs = [.ref p] ∧ ((SqL X.K H p ys ∧ ∀ l, H l = none → Q (.ref l) (upd H l (.tup ys))) ∨ (SqT X.K H p ys ∧ Q (.ref p) H))) dToTup := by
  intro c H G cu vs ds z Q wd r hz q
  unfold dToTup at hz
  split at hz
  · cases hz
    obtain ⟨v, rfl, rv⟩ := r.one
    obtain ⟨a, xs, rfl, ha, ra⟩ := rv.lst_of
    exact ⟨a, xs, rfl, .inl ⟨SqL.of (wd.sub _ _ ha), fun p hp => new_tup wd ra q hp⟩⟩
  · cases hz
    obtain ⟨v, rfl, rv⟩ := r.one
    obtain ⟨a, xs, rfl, ha, ra⟩ := rv.tup_of
    exact ⟨a, xs, rfl, .inr ⟨TupAt.sq' hKF (TupAt.mono wd.sub ha), q _ H G Ext.refl wd (.tupA ha ra)⟩⟩
  · cases hz
def dToLst : List PyData → Option PyData
  | [.list xs] => some (.list xs)
  | [.tuple xs] => some (.list xs)
  | _ => none
theorem callD_list (hKF : K.F = X.K := by assumption) : CallD K (fun xs H Q => ∃ p ys, xs = [.ref p] ∧ (SqL X.K H p ys ∨ SqT X.K H p ys) ∧ ∀ l, H l = none → Q (.ref l) (upd H l (.lst ys))) dToLst := by
  intro c H G cu vs ds z Q wd r hz q
  unfold dToLst at hz
  split at hz
  · cases hz
    obtain ⟨v, rfl, rv⟩ := r.one
    obtain ⟨a, xs, rfl, ha, ra⟩ := rv.lst_of
    exact ⟨a, xs, rfl, .inl (SqL.of (wd.sub _ _ ha)), fun p hp => new_lst wd ra q hp⟩
  · cases hz
    obtain ⟨v, rfl, rv⟩ := r.one
    obtain ⟨a, xs, rfl, ha, ra⟩ := rv.tup_of
    exact ⟨a, xs, rfl, .inr (TupAt.sq' hKF (TupAt.mono wd.sub ha)), fun p hp => new_lst wd ra q hp⟩
  · cases hz
/-! isinstance -/
def tyName : PyData → Option String
  | .none => some "NoneType"
  | .bool _ => some "bool"
  | .int _ => some "int"
  | .str _ => some "str"
  | .list _ => some "list"
  | .tuple _ => some "tuple"
  | .dict _ => some "dict"
def isiOf (T : String) (d : PyData) : Option Bool := (tyName d).bind fun n => kitB n T
def gIsi (T : String) (g : GE) : GE := fun ρ cu => (g ρ cu).bind fun d cu1 => .ofO ((isiOf T d).map .bool) cu1
theorem tyX_of {F : PySem.W.Frag} (hKF : K.F = F) {H : Hp} {v : V} {d : PyData} {n : String} (r : Rp K H v d) (h : tyName d = some n) : TyX F H v (.type n) := by
  cases r with
  | non => cases h; exact .base .non
  | bl b => cases h; exact .base (.bl b)
  | int i => cases h; exact .base (.int i)
  | str x => cases h; exact .base (.str x)
  | lst e _ => cases h; exact .base (.lst e)
  | tupA e _ =>
    cases h
    rcases e with e | ⟨o, its, n, hk, hc, _⟩
    · exact .base (.tup e)
    · exact .kTuple (hKF ▸ hk) hc
  | dic e _ => cases h; exact .base (.dK e)
theorem pd_isi {T : String} {x : Str} {p p' : Pos} (he : PD X K E e te ge) (hg : Gl X "isinstance") (hm : X.mg "isinstance" = none) (hT : Gl X x) (hmT : X.mg x = none) (hv : bootBuiltins x = some (.type T)) (hn : x ≠ "__name__" := by decide) (hdb : (x == ("__debug__" : Str)) = false := by decide)
    (h1 : starEach [e, .Name x p'] X.env = (false, eval e X.env) :: starEach [.Name x p'] X.env := by rfl) (h2 : starEach [.Name x p'] X.env = (false, eval (.Name x p') X.env) :: starEach [] X.env := by rfl) (hpl : (backTo pos (starEach [.Name x p'] X.env)).any (·.1) = false := by rfl) (hKF : K.F = X.K := by assumption) :
    PD X K E (.Call (.Name "isinstance" p) [e, .Name x p'] [] pos) (tCB (rIsi X.K) (tCons te (tCons (tC (.ty T)) tNil))) (gIsi T ge) := by
  refine ⟨pe_callB call_isi hg hm (by decide +kernel) (pa_cons he.pe (pa_cons (pe_bltn hT hmT hv rfl hn hdb) pa_nil h2) h1) (by decide) (by decide) h1 hpl, fun c H0 G0 σ H G ρ cu Q s q => ?_⟩
  refine he.sem c H0 G0 σ H G ρ cu _ s (q.bind.imp fun d H1 G1 cu1 x1 w1 q1 v rv => ?_)
  obtain ⟨z, ez, q2⟩ := q1.ofO
  unfold isiOf at ez
  cases e1 : tyName d with
  | none => rw [e1] at ez; cases ez
  | some n =>
    rw [e1] at ez
    cases e2 : kitB n T with
    | none =>
      have ez' : (kitB n T).map PyData.bool = some z := ez
      rw [e2] at ez'; cases ez'
    | some k =>
      have ez' : (kitB n T).map PyData.bool = some z := ez
      rw [e2] at ez'
      cases ez'
      exact ⟨v, .ty T, _, _, k, rfl, .ty T, tyX_of hKF (rv.mono w1.sub) e1, kit_ty e2, q2 H1 G1 Ext.refl w1 _ (.bl _)⟩
end
end DL

set_option Elab.async false
set_option linter.all false
set_option maxRecDepth 100000
set_option autoImplicit false
namespace DL
open PySem PySem.Spec PyProof.Rows L2
section
variable {X : Cx} {K : Kx} {E : XK} {a b c e : Expr} {es rest : List Expr} {ta tb tc te : TE} {tt tu : TT} {t : TA} {ga gb gc ge : GE} {gt gu : GT} {g : GA} {pos : Pos}
/-! ### tests -/
def dTru : PyData → Option Bool
  | .none => some false
  | .bool b => some b
  | .int i => some (i != 0)
  | .list xs => some (!xs.isEmpty)
  | .tuple xs => some (!xs.isEmpty)
  | _ => none
theorem tru_of {F : PySem.W.Frag} (hKF : K.F = F) {H : Hp} {v : V} {d : PyData} {k : Bool} (r : Rp K H v d) (h : dTru d = some k) : TruV F v H k := by
  have hem : ∀ {xs : List V} {ds : List PyData}, RpL K H xs ds → (!ds.isEmpty) = !xs.isEmpty := fun r => by cases r <;> rfl
  cases r with
  | non => cases h; rfl
  | bl b => cases h; rfl
  | int i => cases h; rfl
  | str x => cases h
  | lst e r => cases h; exact .inl ⟨_, SqL.of e, hem r⟩
  | tupA e r => cases h; exact .inr (.inl ⟨_, e.sq' hKF, hem r⟩)
  | dic _ _ => cases h
def gTru (g : GE) : GT := fun ρ cu => (g ρ cu).bind fun d cu1 => .ofO (dTru d) cu1
theorem ptd_truth (h : PD X K E e te ge) (he : ∀ whole, isTrue e X.env whole = (do let v ← whole; standAt e.pos; holding [v] (truthy v)) := by intro _; rfl) (hKF : K.F = X.K := by assumption) :
    PTD X K E e (fun σ H Q => te σ H fun x H' => ∃ k, TruV X.K x H' k ∧ Q k H') (gTru ge) := by
  refine ⟨pt_truth h.pe he, fun c H0 G0 σ H G ρ cu Q s q => ?_⟩
  refine h.sem c H0 G0 σ H G ρ cu _ s (q.bind.imp fun d H1 G1 cu1 x1 w1 q1 v rv => ?_)
  obtain ⟨k, ek, q2⟩ := q1.ofO
  exact ⟨k, tru_of hKF (rv.mono w1.sub) ek, q2 H1 G1 Ext.refl w1⟩
def dBool : PyData → Option Bool
  | .bool b => some b
  | _ => none
def gBool (g : GE) : GT := fun ρ cu => (g ρ cu).bind fun d cu1 => .ofO (dBool d) cu1
theorem sem_test (h : SemE K E te ge) : SemT K E (tTest te) (gBool ge) := by
  intro c H0 G0 σ H G ρ cu Q s q
  refine h c H0 G0 σ H G ρ cu _ s (q.bind.imp fun d H1 G1 cu1 x1 w1 q1 v rv => ?_)
  obtain ⟨k, ek, q2⟩ := q1.ofO
  cases d with
  | bool b => cases ek; exact ⟨_, rv.bl_of, q2 H1 G1 Ext.refl w1⟩
  | _ => cases ek
theorem ptd_cmp {op : CmpOp} {r : R2} {f : PyData → PyData → Option PyData} (ho : OpR X (compareOp op) r) (hf : OpD K r f) (ha : PD X K E a ta ga) (hb : PD X K E b tb gb) (hm : behindInMarks op b = false) : PTD X K E (.Compare a [op] [b] pos) (tTest (tOp r ta tb)) (gBool (gBin f ga gb)) :=
  ⟨pt_cmpR ho ha.pe hb.pe hm, sem_test (sem_op hf ha.sem hb.sem)⟩
def gChain (f f' : PyData → PyData → Option PyData) (ga gb gc : GE) : GE := fun ρ cu => (ga ρ cu).bind fun a cu1 => (gb ρ cu1).bind fun b cu2 => (Rs.ofO ((f a b).bind dBool) cu2).bind fun k cu3 =>
  if k = true then (gc ρ cu3).bind fun d cu4 => .ofO (f' b d) cu4 else .ok (.bool false) cu3
theorem sem_chain {r r' : R2} {f f' : PyData → PyData → Option PyData} (hf : OpD K r f) (hf' : OpD K r' f') (ha : SemE K E ta ga) (hb : SemE K E tb gb) (hc : SemE K E tc gc) : SemE K E (tChain r r' ta tb tc) (gChain f f' ga gb gc) := by
  intro c H0 G0 σ H G ρ cu Q s q
  refine ha c H0 G0 σ H G ρ cu _ s (q.bind.imp fun a H1 G1 cu1 x1 w1 q1 v rv => ?_)
  have s1 := s.go x1 w1
  refine hb c H0 G0 σ H1 G1 ρ cu1 _ s1 (q1.bind.imp fun b H2 G2 cu2 x2 w2 q2 w rw' => ?_)
  have s2 := s1.go x2 w2
  obtain ⟨k, ek, q3⟩ := q2.bind.ofO
  cases ez : f a b with
  | none => rw [ez] at ek; cases ek
  | some z =>
    rw [ez] at ek
    have ek : dBool z = some k := ek
    cases z with
    | bool kk =>
      cases ek
      refine hf c H2 G2 cu2 v w a b _ _ w2 (rv.mono x2.g) rw' ez fun v' H3 G3 x3 w3 rz => ?_
      refine ⟨k, rz.bl_of, ?_⟩
      have q4 := q3 H3 G3 x3 w3
      cases k with
      | true =>
        rw [if_pos rfl] at q4 ⊢
        refine hc c H0 G0 σ H3 G3 ρ cu2 _ (s2.go x3 w3) (q4.bind.imp fun d H4 G4 cu4 x4 w4 q5 y ry => ?_)
        obtain ⟨z, e, q6⟩ := q5.ofO
        exact hf' c H4 G4 cu4 w y b d z Q w4 (rw'.mono fun b o e => x4.g _ _ (x3.g _ _ e)) ry e fun v' H' G' x w => q6 H' G' x w v'
      | false =>
        rw [if_neg Bool.false_ne_true] at q4 ⊢
        exact q4 H3 G3 Ext.refl w3 _ (.bl _)
    | _ => cases ek
theorem pd_chain {op op' : CmpOp} {r r' : R2} {f f' : PyData → PyData → Option PyData} (ho : OpR X (compareOp op) r) (hf : OpD K r f) (ho' : OpR X (compareOp op') r') (hf' : OpD K r' f') (ha : PD X K E a ta ga) (hb : PD X K E b tb gb) (hc : PD X K E c tc gc)
    (hm : lastMarks [op, op'] [b, c] = false := by with_unfolding_all rfl) : PD X K E (.Compare a [op, op'] [b, c] pos) (tChain r r' ta tb tc) (gChain f f' ga gb gc) := ⟨pe_chain ho ho' ha.pe hb.pe hc.pe hm, sem_chain hf hf' ha.sem hb.sem hc.sem⟩
theorem ptd_chain {op op' : CmpOp} {r r' : R2} {f f' : PyData → PyData → Option PyData} (ho : OpR X (compareOp op) r) (hf : OpD K r f) (ho' : OpR X (compareOp op') r') (hf' : OpD K r' f') (ha : PD X K E a ta ga) (hb : PD X K E b tb gb) (hc : PD X K E c tc gc)
    (hm : lastMarks [op, op'] [b, c] = false := by with_unfolding_all rfl) : PTD X K E (.Compare a [op, op'] [b, c] pos) (tTest (tChain r r' ta tb tc)) (gBool (gChain f f' ga gb gc)) := ⟨pt_chain ho ho' ha.pe hb.pe hc.pe hm, sem_test (sem_chain hf hf' ha.sem hb.sem hc.sem)⟩
/-! and, or, not -/
def gAnd (g u : GT) : GT := fun ρ cu => (g ρ cu).bind fun b cu1 => if b = true then u ρ cu1 else .ok false cu1
def gOr (g u : GT) : GT := fun ρ cu => (g ρ cu).bind fun b cu1 => if b = true then .ok true cu1 else u ρ cu1
def gNot (g : GT) : GT := fun ρ cu => (g ρ cu).bind fun b cu1 => .ok (!b) cu1
theorem PWD.pt {e : Expr} (h : PWD X K E e tt gt) : PTD X K E e tt gt := ⟨h.pw.pt, h.sem⟩
theorem pwd_and1 (h : PTD X K E a tt gt) : PWD X K E (.BoolOp .And [a] pos) tt gt := ⟨pw_and1 h.pt, h.sem⟩
theorem pwd_or1 (h : PTD X K E a tt gt) : PWD X K E (.BoolOp .Or [a] pos) tt gt := ⟨pw_or1 h.pt, h.sem⟩
theorem pwd_and (h : PTD X K E a tt gt) (h' : PWD X K E (.BoolOp .And (b :: rest) pos) tu gu) : PWD X K E (.BoolOp .And (a :: b :: rest) pos) (tAnd tt tu) (gAnd gt gu) := by
  refine ⟨pw_and h.pt h'.pw, fun c H0 G0 σ H G ρ cu Q s q => ?_⟩
  refine h.sem c H0 G0 σ H G ρ cu _ s (q.bind.imp fun k H1 G1 cu1 x1 w1 q1 => ?_)
  cases k with
  | true => rw [if_pos rfl] at q1 ⊢; exact h'.sem c H0 G0 σ H1 G1 ρ cu1 _ (s.go x1 w1) q1
  | false => rw [if_neg Bool.false_ne_true] at q1 ⊢; exact q1 H1 G1 Ext.refl w1
theorem pwd_or (h : PTD X K E a tt gt) (h' : PWD X K E (.BoolOp .Or (b :: rest) pos) tu gu) : PWD X K E (.BoolOp .Or (a :: b :: rest) pos) (tOr tt tu) (gOr gt gu) := by
  refine ⟨pw_or h.pt h'.pw, fun c H0 G0 σ H G ρ cu Q s q => ?_⟩
  refine h.sem c H0 G0 σ H G ρ cu _ s (q.bind.imp fun k H1 G1 cu1 x1 w1 q1 => ?_)
  cases k with
  | true => rw [if_pos rfl] at q1 ⊢; exact q1 H1 G1 Ext.refl w1
  | false => rw [if_neg Bool.false_ne_true] at q1 ⊢; exact h'.sem c H0 G0 σ H1 G1 ρ cu1 _ (s.go x1 w1) q1
theorem ptd_not (h : PTD X K E a tt gt) : PTD X K E (.UnaryOp .Not a pos) (tNot tt) (gNot gt) := by
  refine ⟨pt_not h.pt, fun c H0 G0 σ H G ρ cu Q s q => ?_⟩
  exact h.sem c H0 G0 σ H G ρ cu _ s (q.bind.imp fun k H1 G1 cu1 x1 w1 q1 => q1 H1 G1 Ext.refl w1)
/-! .. as values -/
def gAndV (ga gb : GE) : GE := fun ρ cu => (ga ρ cu).bind fun d cu1 => (Rs.ofO (dBool d) cu1).bind fun k cu2 => if k = true then gb ρ cu2 else .ok (.bool false) cu2
def gOrV (ga gb : GE) : GE := fun ρ cu => (ga ρ cu).bind fun d cu1 => (Rs.ofO (dBool d) cu1).bind fun k cu2 => if k = true then .ok (.bool true) cu2 else gb ρ cu2
theorem pd_one {op : BoolOp} (h : PD X K E a ta ga) : PD X K E (.BoolOp op [a] pos) ta ga := ⟨pe_one h.pe, h.sem⟩
theorem pd_and (h : PD X K E a ta ga) (h' : PD X K E (.BoolOp .And (b :: rest) pos) tb gb) : PD X K E (.BoolOp .And (a :: b :: rest) pos) (tAndV ta tb) (gAndV ga gb) := by
  refine ⟨pe_and h.pe h'.pe, fun c H0 G0 σ H G ρ cu Q s q => ?_⟩
  refine h.sem c H0 G0 σ H G ρ cu _ s (q.bind.imp fun d H1 G1 cu1 x1 w1 q1 v rv => ?_)
  obtain ⟨k, ek, q2⟩ := q1.bind.ofO
  cases d with
  | bool kk =>
    cases ek
    refine ⟨k, rv.bl_of, ?_⟩
    have q3 := q2 H1 G1 Ext.refl w1
    cases k with
    | true => rw [if_pos rfl] at q3 ⊢; exact h'.sem c H0 G0 σ H1 G1 ρ cu1 _ (s.go x1 w1) q3
    | false => rw [if_neg Bool.false_ne_true] at q3 ⊢; exact q3 H1 G1 Ext.refl w1 _ (.bl _)
  | _ => cases ek
theorem pd_or (h : PD X K E a ta ga) (h' : PD X K E (.BoolOp .Or (b :: rest) pos) tb gb) : PD X K E (.BoolOp .Or (a :: b :: rest) pos) (tOrV ta tb) (gOrV ga gb) := by
  refine ⟨pe_or h.pe h'.pe, fun c H0 G0 σ H G ρ cu Q s q => ?_⟩
  refine h.sem c H0 G0 σ H G ρ cu _ s (q.bind.imp fun d H1 G1 cu1 x1 w1 q1 v rv => ?_)
  obtain ⟨k, ek, q2⟩ := q1.bind.ofO
  cases d with
  | bool kk =>
    cases ek
    refine ⟨k, rv.bl_of, ?_⟩
    have q3 := q2 H1 G1 Ext.refl w1
    cases k with
    | true => rw [if_pos rfl] at q3 ⊢; exact q3 H1 G1 Ext.refl w1 _ (.bl _)
    | false => rw [if_neg Bool.false_ne_true] at q3 ⊢; exact h'.sem c H0 G0 σ H1 G1 ρ cu1 _ (s.go x1 w1) q3
  | _ => cases ek
def gNotV (ga : GE) : GE := fun ρ cu => (ga ρ cu).bind fun d cu1 => (Rs.ofO (dBool d) cu1).bind fun k cu2 => .ok (.bool (!k)) cu2
theorem pd_not (h : PD X K E a ta ga) : PD X K E (.UnaryOp .Not a pos) (tNotV ta) (gNotV ga) := by
  refine ⟨pe_not h.pe, fun c H0 G0 σ H G ρ cu Q s q => ?_⟩
  refine h.sem c H0 G0 σ H G ρ cu _ s (q.bind.imp fun d H1 G1 cu1 x1 w1 q1 v rv => ?_)
  obtain ⟨k, ek, q2⟩ := q1.bind.ofO
  cases d with
  | bool kk =>
    cases ek
    exact ⟨k, rv.bl_of, q2 H1 G1 Ext.refl w1 H1 G1 Ext.refl w1 _ (.bl _)⟩
  | _ => cases ek
def gIfE (gt : GT) (ga gb : GE) : GE := fun ρ cu => (gt ρ cu).bind fun k cu1 => if k = true then ga ρ cu1 else gb ρ cu1
theorem pd_ifExp (hc : PTD X K E c tt gt) (ha : PD X K E a ta ga) (hb : PD X K E b tb gb) : PD X K E (.IfExp c a b pos) (tIf tt ta tb) (gIfE gt ga gb) := by
  refine ⟨pe_ifExp hc.pt ha.pe hb.pe, fun c H0 G0 σ H G ρ cu Q s q => ?_⟩
  refine hc.sem c H0 G0 σ H G ρ cu _ s (q.bind.imp fun k H1 G1 cu1 x1 w1 q1 => ?_)
  cases k with
  | true => rw [if_pos rfl] at q1 ⊢; exact ha.sem c H0 G0 σ H1 G1 ρ cu1 _ (s.go x1 w1) q1
  | false => rw [if_neg Bool.false_ne_true] at q1 ⊢; exact hb.sem c H0 G0 σ H1 G1 ρ cu1 _ (s.go x1 w1) q1
/-! ### the cup read -/
def gCup (i : Nat) (k : Bool) : GE := fun ρ cu => match ρ[i]? with
  | some .cup => .ok (.int (if k = true then cu.2 else cu.1)) cu
  | _ => .stuck
theorem pd_cup {i : Nat} {x : Str} {p p2 : Pos} {j : Nat} (h : PE X (.Name x p) (tVar i)) (k : Bool) {z : Int} (hz : z = (if k = true then 1 else 0)) (hs : PlainIx (.Constant (.int z) j p2)) :
    PD X K E (.Subscript (.Name x p) (.Constant (.int z) j p2) pos) (tOp (rIxL X.K) (tVar i) (tC (.int z))) (gCup i k) := by
  refine ⟨pe_ix ix_list h pe_int hs, fun c H0 G0 σ H G ρ cu Q s q => ?_⟩
  unfold gCup at q
  split at q
  · rename_i e
    obtain ⟨a, e1, e2⟩ := s.rep.cup i e
    obtain ⟨h1, h2⟩ := s.wd.cup a e1
    refine ⟨_, e2, a, _, z, .int (if k = true then cu.2 else cu.1), rfl, rfl, SqL.of h1, ?_, q H G Ext.refl s.wd _ (.int _)⟩
    subst hz
    cases k with
    | true => exact atI_nat (j := 1) rfl
    | false => exact atI_nat (j := 0) rfl
  · exact q.elim
/-! ### calls of defs -/
/-- what a def keeps -/
abbrev GF := List Sl → Cu → Rs PyData
def spG (K : Kx) (n : Nat) (g : GF) : Sp := fun vs H Q E => ∃ c G as cu, as.length = n ∧ Wd K c H G cu ∧ ArgRp K c G vs as ∧ Post K E c H G (g as cu) (QD K Q)
def gApp (n : Nat) (f : GF) (g : GA) : GE := fun ρ cu => (g ρ cu).bind fun as cu1 => if as.length = n then f as cu1 else .stuck
theorem pd_call {k n : Nat} {f : Addr} {fd : FuncData} {ps : List Str} {x : Str} {p : Pos} {gf : GF} (F : FnOk X.prog X.w X.K X.mg X.base (L2.CX X.prog X.w) k f fd ps (spG K n gf)) (hr : Room k X.A) (hg : Gl X x) (hm : X.mg x = some (.ref f)) (hk : PySem.W.keepIn X.K (.ref f) = true) (hb : Binds X.K fd ps [])
    (hx : Passes (L2.CX X.prog X.w) X E) (ha : PAD X K E (e :: es) t g) (hdb : (x == ("__debug__" : Str)) = false := by decide) (he : starEach (e :: es) X.env = (false, eval e X.env) :: starEach es X.env := by rfl) (hpl : (backTo pos (starEach es X.env)).any (·.1) = false := by rfl) :
    PD X K E (.Call (.Name x p) (e :: es) [] pos) (tCall (spG K n gf) [] E t) (gApp n gf g) := by
  refine ⟨pe_call F hr hg hm hk hb .nil hx ha.pa hdb he hpl, fun c H0 G0 σ H G ρ cu Q s q => ?_⟩
  refine ha.sem c H0 G0 σ H G ρ cu _ s (q.bind.imp fun as H1 G1 cu1 x1 w1 q1 vs rvs => ?_)
  split at q1
  · rename_i hn
    exact ⟨c, G1, as, cu1, hn, w1, by rw [List.append_nil]; exact rvs, q1⟩
  · exact q1.elim
theorem pd_call0 {k : Nat} {f : Addr} {fd : FuncData} {ps : List Str} {x : Str} {p : Pos} {gf : GF} (F : FnOk X.prog X.w X.K X.mg X.base (L2.CX X.prog X.w) k f fd ps (spG K 0 gf)) (hr : Room k X.A) (hg : Gl X x) (hm : X.mg x = some (.ref f)) (hk : PySem.W.keepIn X.K (.ref f) = true) (hb : Binds X.K fd ps [])
    (hx : Passes (L2.CX X.prog X.w) X E) (hdb : (x == ("__debug__" : Str)) = false := by decide) : PD X K E (.Call (.Name x p) [] [] pos) (tCall (spG K 0 gf) [] E tNil) (fun _ cu => gf [] cu) := by
  refine ⟨pe_call0 F hr hg hm hk hb .nil hx hdb, fun c H0 G0 σ H G ρ cu Q s q => ?_⟩
  exact ⟨c, G, [], cu, rfl, s.wd, .nil, q⟩
end

/-! ### statements -/
inductive Ou where
  | nx (ρ : En) | ret (d : PyData) | brk (ρ : En) | ct (ρ : En)
abbrev GS := En → Cu → Rs Ou
def PostS (K : Kx) (E : XK) (c : Option Addr) (H0 G0 : Hp) (r : Rs Ou) (D : Ends) : Prop := match r with
  | .stuck => False
  | .exc k cu' => ∀ H' G', Ext c H0 G0 H' G' → Wd K c H' G' cu' → ∀ d, XD K k d H' → E (.ref (K.CL k)) d H'
  | .ok (.nx ρ') cu' => ∀ σ' H' G', SRep K c H0 G0 σ' H' G' ρ' cu' → D.nx σ' H'
  | .ok (.ret d) cu' => ∀ v H' G', Ext c H0 G0 H' G' → Wd K c H' G' cu' → Rp K G' v d → D.rt v H'
  | .ok (.brk ρ') cu' => ∀ σ' H' G', SRep K c H0 G0 σ' H' G' ρ' cu' → D.bk σ' H'
  | .ok (.ct ρ') cu' => ∀ σ' H' G', SRep K c H0 G0 σ' H' G' ρ' cu' → D.ct σ' H'
def SemS (K : Kx) (E : XK) (t : TS) (g : GS) : Prop := ∀ c H0 G0 σ H G ρ cu D, SRep K c H0 G0 σ H G ρ cu → PostS K E c H0 G0 (g ρ cu) D → t D σ H
structure PSD (X : Cx) (K : Kx) (E : XK) (st : Stmt) (t : TS) (g : GS) : Prop where
  ps : PS X st t
  sem : SemS K E t g
structure PSsD (X : Cx) (K : Kx) (E : XK) (st : List Stmt) (t : TS) (g : GS) : Prop where
  ps : PSs X st t
  sem : SemS K E t g
theorem PostS.exp {K : Kx} {E : XK} {c : Option Addr} {H0 G0 H G : Hp} {σ : L2.St} {ρ : En} {cu : Cu} {α : Type} {r : Rs α} {f : α → Cu → Rs Ou} {D : Ends} (s : SRep K c H0 G0 σ H G ρ cu) (h : PostS K E c H0 G0 (r.bind f) D) :
    Post K E c H G r (fun a _ _ cu' => PostS K E c H0 G0 (f a cu') D) := by
  cases r with
  | stuck => exact h
  | exc k cu => exact fun H' G' x w => h H' G' (s.ext.trans x) w
  | ok a cu => exact fun _ _ _ _ => h
theorem PostS.ofO {K : Kx} {E : XK} {c : Option Addr} {H0 G0 : Hp} {α : Type} {o : Option α} {cu : Cu} {f : α → Cu → Rs Ou} {D : Ends} (h : PostS K E c H0 G0 ((Rs.ofO o cu).bind f) D) : ∃ a, o = some a ∧ PostS K E c H0 G0 (f a cu) D := by
  cases o with
  | none => exact h.elim
  | some a => exact ⟨a, rfl, h⟩
section
variable {X : Cx} {K : Kx} {E : XK} {st : Stmt} {sts : List Stmt} {t u : TS} {g g' : GS} {e : Expr} {te : TE} {ge : GE} {tt : TT} {gt : GT} {ta : TA} {ga : GA} {pos : Pos}
def gSkip : GS := fun ρ cu => .ok (.nx ρ) cu
theorem pssd_nil : PSsD X K E [] tNext gSkip := ⟨pss_nil, fun c H0 G0 σ H G ρ cu D s q => q σ H G s⟩
def gSeq (g g' : GS) : GS := fun ρ cu => (g ρ cu).bind fun o cu1 => match o with
  | .nx ρ' => g' ρ' cu1
  | o => .ok o cu1
theorem pssd_cons (h : PSD X K E st t g) (h' : PSsD X K E sts u g') : PSsD X K E (st :: sts) (tSeq t u) (gSeq g g') := by
  refine ⟨pss_cons h.ps h'.ps, fun c H0 G0 σ H G ρ cu D s q => ?_⟩
  refine h.sem c H0 G0 σ H G ρ cu _ s ?_
  unfold gSeq at q
  cases hr : g ρ cu with
  | stuck => rw [hr] at q; exact q
  | exc k cu1 => rw [hr] at q; exact q
  | ok o cu1 =>
    rw [hr] at q
    cases o with
    | nx ρ' => exact fun σ' H' G' s' => h'.sem c H0 G0 σ' H' G' ρ' cu1 D s' q
    | ret d => exact q
    | brk ρ' => exact q
    | ct ρ' => exact q
theorem pssd_one (h : PSD X K E st t g) : PSsD X K E [st] t g := ⟨pss_one h.ps, h.sem⟩
theorem psd_pass : PSD X K E (.Pass pos) tNext gSkip := ⟨ps_pass, fun c H0 G0 σ H G ρ cu D s q => q σ H G s⟩
def gBrk : GS := fun ρ cu => .ok (.brk ρ) cu
def gCt : GS := fun ρ cu => .ok (.ct ρ) cu
theorem psd_break : PSD X K E (.Break pos) tBreak gBrk := ⟨ps_break, fun c H0 G0 σ H G ρ cu D s q => q σ H G s⟩
theorem psd_continue : PSD X K E (.Continue pos) tCont gCt := ⟨ps_continue, fun c H0 G0 σ H G ρ cu D s q => q σ H G s⟩
/-! values into slots -/
theorem Rep.set {c : Option Addr} {H0 : Hp} {σ : L2.St} {H G : Hp} {ρ : En} {i : Nat} {v : V} {d : PyData} (r : Rep K c H0 σ H G ρ) (rv : Rp K G v d) : Rep K c H0 (σ.set i (some v)) H G (ρ.set i (.dat d)) := by
  have ne : ∀ (j : Nat) (s : Sl), s ≠ .dat d → (ρ.set i (.dat d))[j]? = some s → ρ[j]? = some s ∧ j ≠ i := fun j s hs e => by
    by_cases hj : i = j
    · subst hj
      by_cases hi : i < ρ.length
      · rw [List.getElem?_set_self hi] at e
        cases e
        exact (hs rfl).elim
      · rw [List.getElem?_eq_none (by simpa using hi)] at e; cases e
    · rw [List.getElem?_set_ne hj] at e
      exact ⟨e, Ne.symm hj⟩
  refine ⟨by rw [List.length_set, List.length_set]; exact r.len, fun j d' e => ?_, fun j e => ?_, ?_⟩
  · by_cases hj : i = j
    · subst hj
      by_cases hi : i < ρ.length
      · rw [List.getElem?_set_self hi] at e
        cases e
        exact ⟨v, List.getElem?_set_self (by rw [← r.len]; exact hi), rv⟩
      · rw [List.getElem?_eq_none (by simpa using hi)] at e; cases e
    · rw [List.getElem?_set_ne hj] at e ⊢
      exact r.dat j d' e
  · obtain ⟨e, hj⟩ := ne j Sl.cup (fun z => nomatch z) e
    rw [List.getElem?_set_ne (Ne.symm hj)]
    exact r.cup j e
  · obtain ⟨A, h1, h2⟩ := r.own
    refine ⟨A, fun j ds e => ?_, fun j k ds es e1 e2 => ?_⟩
    · obtain ⟨e, hj⟩ := ne j (Sl.own ds) (fun z => nomatch z) e
      rw [List.getElem?_set_ne (Ne.symm hj)]
      exact h1 j ds e
    · obtain ⟨e1, _⟩ := ne j (Sl.own ds) (fun z => nomatch z) e1
      obtain ⟨e2, _⟩ := ne k (Sl.own es) (fun z => nomatch z) e2
      exact h2 j k ds es e1 e2
theorem SRep.set {c : Option Addr} {H0 G0 : Hp} {σ : L2.St} {H G : Hp} {ρ : En} {cu : Cu} {i : Nat} {v : V} {d : PyData} (s : SRep K c H0 G0 σ H G ρ cu) (rv : Rp K G v d) : SRep K c H0 G0 (σ.set i (some v)) H G (ρ.set i (.dat d)) cu := ⟨s.wd, s.ext, s.rep.set rv⟩
def gSet (i : Nat) (g : GE) : GS := fun ρ cu => (g ρ cu).bind fun d cu1 => .ok (.nx (ρ.set i (.dat d))) cu1
theorem psd_set {i : Nat} {x : Str} {pos' : Pos} (hN : X.N.Nodup) (hi : X.N[i]? = some x) (hx : Loc X.env.scope x) (he : PD X K E e te ge) (hs : swapsWith e (some (.Name x pos')) pos.line X.env = pure false := by rfl) (hf : X.fn x = true ∨ X.env.scope.names.lookup x = some .local := by first | exact .inl rfl | exact .inr rfl | assumption) :
    PSD X K E (.Assign [.Name x pos'] e pos) (tAsg te (gName i)) (gSet i ge) := by
  refine ⟨ps_set hN hi hx he.pe hs hf, fun c H0 G0 σ H G ρ cu D s q => ?_⟩
  exact he.sem c H0 G0 σ H G ρ cu _ s ((q.exp s).imp fun d H1 G1 cu1 x1 w1 q1 v rv => q1 _ H1 G1 ((s.go x1 w1).set rv))
/-! targets -/
abbrev GG := PyData → En → Option En
abbrev GGs := List PyData → En → Option En
def SemG (K : Kx) (t : TG) (g : GG) (ws : List Nat) : Prop := ∀ c H0 G0 σ H G ρ cu v d ρ' (Q : L2.St → Hp → Prop), SRep K c H0 G0 σ H G ρ cu → Rp K G v d → g d ρ = some ρ' →
  (∀ σ', SRep K c H0 G0 σ' H G ρ' cu → σ'.length = σ.length → (∀ j : Nat, j ∉ ws → σ'[j]? = σ[j]?) → Q σ' H) → t v σ H Q
def SemGs (K : Kx) (t : TGs) (g : GGs) (ws : List Nat) : Prop := ∀ c H0 G0 σ H G ρ cu vs ds ρ' (Q : L2.St → Hp → Prop), SRep K c H0 G0 σ H G ρ cu → RpL K G vs ds → g ds ρ = some ρ' →
  (∀ σ', SRep K c H0 G0 σ' H G ρ' cu → σ'.length = σ.length → (∀ j : Nat, j ∉ ws → σ'[j]? = σ[j]?) → Q σ' H) → t vs σ H Q
structure PGD (X : Cx) (K : Kx) (tg : Expr) (t : TG) (g : GG) (ws : List Nat) : Prop where
  pg : PG X tg t
  sem : SemG K t g ws
structure PGsD (X : Cx) (K : Kx) (tgs : List Expr) (t : TGs) (g : GGs) (ws : List Nat) : Prop where
  pg : PGs X tgs t
  sem : SemGs K t g ws
def ggName (i : Nat) : GG := fun d ρ => some (ρ.set i (.dat d))
theorem pgd_name {i : Nat} {x : Str} (hN : X.N.Nodup) (hi : X.N[i]? = some x) (hx : Loc X.env.scope x) (hf : X.fn x = true ∨ X.env.scope.names.lookup x = some .local := by first | exact .inl rfl | exact .inr rfl | assumption) : PGD X K (.Name x pos) (gName i) (ggName i) [i] := by
  refine ⟨pg_name hN hi hx hf, fun c H0 G0 σ H G ρ cu v d ρ' Q s rv e q => ?_⟩
  cases e
  exact q _ (s.set rv) (List.length_set ..) fun j hj => List.getElem?_set_ne (fun z => hj (by rw [z]; exact List.mem_singleton_self _))
def ggNil : GGs := fun ds ρ => match ds with
  | [] => some ρ
  | _ => none
def ggCons (g : GG) (r : GGs) : GGs := fun ds ρ => match ds with
  | d :: ds => (g d ρ).bind fun ρ1 => r ds ρ1
  | [] => none
theorem pgsd_nil : PGsD X K [] gNil ggNil [] := by
  refine ⟨pgs_nil, fun c H0 G0 σ H G ρ cu vs ds ρ' Q s rv e q => ?_⟩
  cases rv with
  | nil => cases e; exact ⟨rfl, q σ s rfl fun _ _ => rfl⟩
  | cons _ _ => cases e
theorem pgsd_cons {tg : Expr} {tgs : List Expr} {t1 : TG} {u1 : TGs} {g1 : GG} {r1 : GGs} {ws ws' : List Nat} (h : PGD X K tg t1 g1 ws) (h' : PGsD X K tgs u1 r1 ws')
    (hs : (assignEach (tg :: tgs) X.env).map (·.2) = assign tg X.env :: (assignEach tgs X.env).map (·.2) := by rfl) : PGsD X K (tg :: tgs) (gCons t1 u1) (ggCons g1 r1) (ws ++ ws') := by
  refine ⟨pgs_cons h.pg h'.pg hs, fun c H0 G0 σ H G ρ cu vs ds ρ' Q s rv e q => ?_⟩
  cases rv with
  | nil => cases e
  | @cons v vs d ds rv rvs =>
    have e : (g1 d ρ).bind (fun ρ1 => r1 ds ρ1) = some ρ' := e
    cases e1 : g1 d ρ with
    | none => rw [e1] at e; cases e
    | some ρ1 =>
      rw [e1] at e
      refine ⟨v, vs, rfl, h.sem c H0 G0 σ H G ρ cu v d ρ1 _ s rv e1 fun σ1 s1 l1 k1 => ?_⟩
      refine h'.sem c H0 G0 σ1 H G ρ1 cu vs ds ρ' _ s1 rvs e fun σ2 s2 l2 k2 => ?_
      exact q σ2 s2 (l2.trans l1) fun j hj => (k2 j fun z => hj (List.mem_append_right _ z)).trans (k1 j fun z => hj (List.mem_append_left _ z))
def ggTup (n : Nat) (g : GGs) : GG := fun d ρ => match d with
  | .tuple ds => if ds.length = n then g ds ρ else none
  | _ => none
theorem pgd_tup {tgs : List Expr} {k n : Nat} {t1 : TGs} {g1 : GGs} {ws : List Nat} (hc : X.calm = true) (h : PGsD X K tgs t1 g1 ws) (hn : (assignEach tgs X.env).length = n := by rfl) (hst : (assignEach tgs X.env).findIdx? (·.1) = none := by rfl) (hKF : K.F = X.K := by assumption) :
    PGD X K (.Tuple tgs k pos) (gTup X.K n t1) (ggTup n g1) ws := by
  refine ⟨pg_tup hc h.pg hn hst, fun c H0 G0 σ H G ρ cu v d ρ' Q s rv e q => ?_⟩
  cases d with
  | tuple ds =>
    have e : (if ds.length = n then g1 ds ρ else none) = some ρ' := e
    obtain ⟨a, xs, rfl, ha, ra⟩ := rv.tup_of
    split at e
    · rename_i hl
      exact ⟨a, xs, rfl, TupAt.sq' hKF (TupAt.mono s.wd.sub ha), by rw [ra.length]; exact hl, h.sem c H0 G0 σ H G ρ cu xs ds ρ' Q s ra e q⟩
    · cases e
  | _ => cases e
def gAsg (g : GE) (gg : GG) : GS := fun ρ cu => (g ρ cu).bind fun d cu1 => (Rs.ofO (gg d ρ) cu1).bind fun ρ' cu2 => .ok (.nx ρ') cu2
theorem psd_asg {tg : Expr} {t1 : TG} {g1 : GG} {ws : List Nat} (he : PD X K E e te ge) (hg : PGD X K tg t1 g1 ws) (hs : swapsWithSole [tg] e pos.line X.env = pure false := by rfl) (hw : swappedStores [tg] e X.env = pure none := by rfl)
    (h1 : (assignEach [tg] X.env).map (·.2) = [assign tg X.env] := by rfl) : PSD X K E (.Assign [tg] e pos) (tAsg te t1) (gAsg ge g1) := by
  refine ⟨ps_asg he.pe hg.pg hs hw h1, fun c H0 G0 σ H G ρ cu D s q => ?_⟩
  refine he.sem c H0 G0 σ H G ρ cu _ s ((q.exp s).imp fun d H1 G1 cu1 x1 w1 q1 v rv => ?_)
  obtain ⟨ρ', e1, q2⟩ := q1.ofO
  exact hg.sem c H0 G0 σ H1 G1 ρ cu1 v d ρ' _ (s.go x1 w1) rv e1 fun σ' s' _ _ => q2 σ' H1 G1 s'
def gPar (i j : Nat) (g : GA) : GS := fun ρ cu => (g ρ cu).bind fun as cu1 => match as with
  | [.dat d, .dat e] => .ok (.nx ((ρ.set i (.dat d)).set j (.dat e))) cu1
  | _ => .stuck
theorem psd_par {i j : Nat} {x y : Str} {a b : Expr} {px py pt : Pos} {kt k2 : Nat} {pt2 : Pos} (hc : X.calm = true) (hN : X.N.Nodup) (hi : X.N[i]? = some x) (hj : X.N[j]? = some y) (hij : i ≠ j)
    (hx : X.env.scope.names.lookup x = some .local) (hy : X.env.scope.names.lookup y = some .local) (ha : PAD X K E [a, b] ta ga)
    (hw : swappedStores [.Tuple [.Name x px, .Name y py] kt pt] (.Tuple [a, b] k2 pt2) X.env = pure (some [x, y]) := by rfl)
    (hs : swapsWithSole [.Tuple [.Name x px, .Name y py] kt pt] (.Tuple [a, b] k2 pt2) pos.line X.env = pure false := by rfl) :
    PSD X K E (.Assign [.Tuple [.Name x px, .Name y py] kt pt] (.Tuple [a, b] k2 pt2) pos) (tPar i j ta) (gPar i j ga) := by
  refine ⟨ps_par hc hN hi hj hij hx hy ha.pa hw hs, fun c H0 G0 σ H G ρ cu D s q => ?_⟩
  refine ha.sem c H0 G0 σ H G ρ cu _ s ((q.exp s).imp fun as H1 G1 cu1 x1 w1 q1 vs rvs => ?_)
  split at q1
  · cases rvs with
    | dat r1 rr => cases rr with
      | dat r2 rr => cases rr with
        | nil => exact ⟨_, _, rfl, q1 _ H1 G1 (((s.go x1 w1).set r1).set r2)⟩
  · exact q1.elim
def gPar3 (i j l : Nat) (g : GA) : GS := fun ρ cu => (g ρ cu).bind fun as cu1 => match as with
  | [.dat d, .dat e, .dat f] => .ok (.nx (((ρ.set i (.dat d)).set j (.dat e)).set l (.dat f))) cu1
  | _ => .stuck
theorem psd_par3 {i j l : Nat} {x y z : Str} {a b c : Expr} {px py pz pt : Pos} {kt k2 : Nat} {pt2 : Pos} (hc : X.calm = true) (hN : X.N.Nodup) (hi : X.N[i]? = some x) (hj : X.N[j]? = some y) (hl : X.N[l]? = some z) (hij : i ≠ j) (hil : i ≠ l) (hjl : j ≠ l)
    (hx : X.env.scope.names.lookup x = some .local) (hy : X.env.scope.names.lookup y = some .local) (hz : X.env.scope.names.lookup z = some .local) (ha : PAD X K E [a, b, c] ta ga)
    (hw : swappedStores [.Tuple [.Name x px, .Name y py, .Name z pz] kt pt] (.Tuple [a, b, c] k2 pt2) X.env = pure (some [x, y, z]) := by rfl)
    (hs : swapsWithSole [.Tuple [.Name x px, .Name y py, .Name z pz] kt pt] (.Tuple [a, b, c] k2 pt2) pos.line X.env = pure false := by rfl) :
    PSD X K E (.Assign [.Tuple [.Name x px, .Name y py, .Name z pz] kt pt] (.Tuple [a, b, c] k2 pt2) pos) (tPar3 i j l ta) (gPar3 i j l ga) := by
  refine ⟨ps_par3 hc hN hi hj hl hij hil hjl hx hy hz ha.pa hw hs, fun c H0 G0 σ H G ρ cu D s q => ?_⟩
  refine ha.sem c H0 G0 σ H G ρ cu _ s ((q.exp s).imp fun as H1 G1 cu1 x1 w1 q1 vs rvs => ?_)
  split at q1
  · cases rvs with
    | dat r1 rr => cases rr with
      | dat r2 rr => cases rr with
        | dat r3 rr => cases rr with
          | nil => exact ⟨_, _, _, rfl, q1 _ H1 G1 ((((s.go x1 w1).set r1).set r2).set r3)⟩
  · exact q1.elim
def gDrop (g : GE) : GS := fun ρ cu => (g ρ cu).bind fun _ cu1 => .ok (.nx ρ) cu1
theorem psd_expr (he : PD X K E e te ge) (hs : swapsWith e none pos.line X.env = pure false := by rfl) : PSD X K E (.Expr e pos) (tDrop te) (gDrop ge) := by
  refine ⟨ps_expr he.pe hs, fun c H0 G0 σ H G ρ cu D s q => ?_⟩
  exact he.sem c H0 G0 σ H G ρ cu _ s ((q.exp s).imp fun d H1 G1 cu1 x1 w1 q1 v rv => q1 σ H1 G1 (s.go x1 w1))
def gRet (g : GE) : GS := fun ρ cu => (g ρ cu).bind fun d cu1 => .ok (.ret d) cu1
theorem psd_ret (he : PD X K E e te ge) : PSD X K E (.Return (some e) pos) (tRet te) (gRet ge) := by
  refine ⟨ps_ret he.pe, fun c H0 G0 σ H G ρ cu D s q => ?_⟩
  exact he.sem c H0 G0 σ H G ρ cu _ s ((q.exp s).imp fun d H1 G1 cu1 x1 w1 q1 v rv => q1 v H1 G1 (s.ext.trans x1) w1 rv)
def gIf (gt : GT) (g g' : GS) : GS := fun ρ cu => (gt ρ cu).bind fun b cu1 => if b = true then g ρ cu1 else g' ρ cu1
theorem psd_if {c : Expr} {a b : List Stmt} (hc : PTD X K E c tt gt) (ha : PSsD X K E a t g) (hb : PSsD X K E b u g') : PSD X K E (.If c a b pos) (tIfS tt t u) (gIf gt g g') := by
  refine ⟨ps_if hc.pt ha.ps hb.ps, fun c H0 G0 σ H G ρ cu D s q => ?_⟩
  refine hc.sem c H0 G0 σ H G ρ cu _ s ((q.exp s).imp fun k H1 G1 cu1 x1 w1 q1 => ?_)
  cases k with
  | true => rw [if_pos rfl] at q1 ⊢; exact ha.sem c H0 G0 σ H1 G1 ρ cu1 D (s.go x1 w1) q1
  | false => rw [if_neg Bool.false_ne_true] at q1 ⊢; exact hb.sem c H0 G0 σ H1 G1 ρ cu1 D (s.go x1 w1) q1
/-! raise X('..') -/
def gRaise (k : Nat) : GS := fun _ cu => .exc k cu
theorem psd_raise {k : Nat} {tr : L2.St → Hp → XK → Prop} (hc : X.calm = true) (tk : Takes X (fun cls d _ H => E cls d H)) (he : PMk X e tr) (hq : ∀ σ H (Q : XK), Q (.ref (K.CL k)) none H → tr σ H Q) (hL : K.LM k = none) :
    PSD X K E (.Raise (some e) none pos) (fun _ σ H => tr σ H fun cls d H' => E cls d H') (gRaise k) :=
  ⟨ps_raise hc tk he, fun c H0 G0 σ H G ρ cu D s q => hq _ _ _ (q H G s.ext s.wd none (by unfold XD; rw [hL]))⟩
/-! the cup written -/
def gCupSet (i : Nat) (k : Bool) (g : GE) : GS := fun ρ cu => (g ρ cu).bind fun d cu1 => match ρ[i]?, d with
  | some .cup, .int z => .ok (.nx ρ) (if k = true then (cu1.1, z) else (z, cu1.2))
  | _, _ => .stuck
theorem psd_cupSet {i : Nat} {x : Str} {p p2 p3 : Pos} {j : Nat} (k : Bool) {z : Int} (hz : z = (if k = true then 1 else 0)) (h : PE X (.Name x p) (tVar i)) (he : PD X K E e te ge)
    (ha : ∀ v, assign (.Subscript (.Name x p) (.Constant (.int z) j p2) p3) X.env v = (do
      let ov ← holding [v] (eval (.Name x p) X.env)
      let iv ← holding [v, ov] (eval (.Constant (.int z) j p2) X.env)
      standAt p3
      holding [v, ov, iv] (setItem ov iv v)
      release [v, ov, iv] []) := by intro _; rfl)
    (hs : swapsWithSole [.Subscript (.Name x p) (.Constant (.int z) j p2) p3] e pos.line X.env = pure false := by rfl) (hw : swappedStores [.Subscript (.Name x p) (.Constant (.int z) j p2) p3] e X.env = pure none := by rfl)
    (h1 : (assignEach [.Subscript (.Name x p) (.Constant (.int z) j p2) p3] X.env).map (·.2) = [assign (.Subscript (.Name x p) (.Constant (.int z) j p2) p3) X.env] := by rfl) :
    PSD X K E (.Assign [.Subscript (.Name x p) (.Constant (.int z) j p2) p3] e pos) (tAsg te (gSub (tVar i) (tC (.int z)) rSetL)) (gCupSet i k ge) := by
  refine ⟨ps_asg he.pe (pg_sub h pe_int set_list ha) hs hw h1, fun c H0 G0 σ H G ρ cu D s q => ?_⟩
  refine he.sem c H0 G0 σ H G ρ cu _ s ((q.exp s).imp fun d H1 G1 cu1 x1 w1 q1 v rv => ?_)
  have s1 := s.go x1 w1
  split at q1
  · rename_i zz e
    obtain ⟨a, e1, e2⟩ := s1.rep.cup i e
    obtain ⟨c1, c2⟩ := w1.cup a e1
    refine ⟨_, e2, a, _, z, (if k = true then 1 else 0), rfl, rfl, c1, by subst hz; cases k <;> rfl, ?_⟩
    rw [rv.int_of]
    generalize hn : (([V.int cu1.1, V.int cu1.2] : List V).set (if k = true then 1 else 0) (V.int zz)) = nl
    have en : nl = [.int (if k = true then (cu1.1, zz) else (zz, cu1.2)).1, .int (if k = true then (cu1.1, zz) else (zz, cu1.2)).2] := by subst hn; cases k <;> rfl
    rw [en]
    have hk : ∀ b u, c ≠ some b → H1 b = some u → upd H1 a (.lst [.int (if k = true then (cu1.1, zz) else (zz, cu1.2)).1, .int (if k = true then (cu1.1, zz) else (zz, cu1.2)).2]) b = some u := fun b u hb e => by
      rw [upd_ne (fun z => hb (by rw [z]; exact e1))]; exact e
    have x2 : Ext c H1 G1 (upd H1 a (.lst [.int (if k = true then (cu1.1, zz) else (zz, cu1.2)).1, .int (if k = true then (cu1.1, zz) else (zz, cu1.2)).2])) G1 := by
      refine ⟨fun b u e _ hb => hk b u hb e, fun b u e n => ?_, fun b u e => e, fun b u _ _ n => n⟩
      by_cases hb : b = a
      · rw [hb]; exact ⟨_, upd_same, nt_lst⟩
      · exact ⟨u, by rw [upd_ne hb]; exact e, n⟩
    have nel : ∀ b u, H1 b = some u → (∀ xs, u ≠ .lst xs) → b ≠ a := fun b u e n z => by rw [z, c1] at e; exact n _ (Option.some.inj e).symm
    refine q1 σ _ G1 (s1.go x2 ⟨fun b u e => ?_, fun p hp => ?_, w1.nt, fun b hb => ?_⟩)
    · rw [upd_ne (fun z => by rw [z, c2] at e; cases e)]; exact w1.sub _ _ e
    · obtain ⟨ps, h1, h2, h3⟩ := w1.tab p hp
      refine ⟨ps, by rw [upd_ne (nel _ _ h1 fun xs z => nomatch z)]; exact h1, h2, fun pos cv hcv => ?_⟩
      obtain ⟨c0, e3, e4⟩ := h3 pos cv hcv
      exact ⟨c0, e3, by rw [upd_ne (nel _ _ e4 fun xs z => nomatch z)]; exact e4⟩
    · rw [e1] at hb
      cases hb
      exact ⟨upd_same, c2⟩
  · exact q1.elim
/-! while -/
def gWhileF (gt : GT) (g : GS) : Nat → GS
  | 0 => fun _ _ => .stuck
  | n + 1 => fun ρ cu => (gt ρ cu).bind fun b cu1 => if b = true then (g ρ cu1).bind fun o cu2 => match o with
      | .nx ρ' => gWhileF gt g n ρ' cu2
      | .ct ρ' => gWhileF gt g n ρ' cu2
      | .brk ρ' => .ok (.nx ρ') cu2
      | .ret d => .ok (.ret d) cu2 else .ok (.nx ρ) cu1
def gWhile (m : En → Cu → Nat) (gt : GT) (g : GS) : GS := fun ρ cu => gWhileF gt g (m ρ cu) ρ cu
theorem psd_while {c : Expr} {body : List Stmt} (m : En → Cu → Nat) (hp : PassesOwn (model X.prog X.w) X.A X.env X.xe) (hc : PTD X K E c tt gt) (hb : PSsD X K E body t g) : PSD X K E (.While c body [] pos) (tWhile tt t) (gWhile m gt g) := by
  refine ⟨ps_while hp hc.pt hb.ps, fun c H0 G0 σ H G ρ cu D s q => ?_⟩
  refine ⟨fun n σ H => ∃ G ρ cu, SRep K c H0 G0 σ H G ρ cu ∧ PostS K E c H0 G0 (gWhileF gt g n ρ cu) D, ⟨m ρ cu, G, ρ, cu, s, q⟩, ?_⟩
  rintro n σ H ⟨G, ρ, cu, s, q⟩
  cases n with
  | zero => exact q.elim
  | succ n =>
    refine hc.sem c H0 G0 σ H G ρ cu _ s ((PostS.exp s (show PostS K E c H0 G0 ((gt ρ cu).bind _) D from q)).imp fun k H1 G1 cu1 x1 w1 q1 => ?_)
    cases k with
    | true =>
      rw [if_pos rfl] at q1 ⊢
      refine ⟨fun σ' H' => ∃ G ρ cu, SRep K c H0 G0 σ' H' G ρ cu ∧ PostS K E c H0 G0 (gWhileF gt g n ρ cu) D, fun σ' H' h => ⟨n, Nat.lt_succ_self n, h⟩, ?_⟩
      refine hb.sem c H0 G0 σ H1 G1 ρ cu1 _ (s.go x1 w1) ?_
      cases hr : g ρ cu1 with
      | stuck => rw [hr] at q1; exact q1
      | exc k cu1 => rw [hr] at q1; exact q1
      | ok o cu2 =>
        rw [hr] at q1
        cases o with
        | nx ρ' => exact fun σ' H' G' s' => ⟨G', ρ', cu2, s', q1⟩
        | ct ρ' => exact fun σ' H' G' s' => ⟨G', ρ', cu2, s', q1⟩
        | brk ρ' => exact q1
        | ret d => exact q1
    | false =>
      rw [if_neg Bool.false_ne_true] at q1 ⊢
      exact q1 σ H1 G1 (s.go x1 w1)
end
end DL

set_option Elab.async false
set_option linter.all false
set_option maxRecDepth 100000
set_option autoImplicit false
namespace DL
open PySem PySem.Spec PyProof.Rows L2
/-! ### what is walked -/
def Wk (K : Kx) (J : It) (G1 : Hp) (items : List PyData) : Prop := ∀ c H G cu, (∀ b o, G1 b = some o → G b = some o) → Wd K c H G cu →
  (∀ (i : Nat) d, items[i]? = some d → J.go i H ∧ ∀ x H', J.yld i H x H' → ∃ G', Ext c H G H' G' ∧ Wd K c H' G' cu ∧ Rp K G' x d) ∧ J.stop items.length H
abbrev GI := En → Cu → Rs (List PyData)
def SemI (K : Kx) (E : XK) (wi : TI) (g : GI) : Prop := ∀ c H0 G0 σ H G ρ cu (R : It → Hp → Prop), SRep K c H0 G0 σ H G ρ cu → Post K E c H G (g ρ cu) (fun items H' G' _ => ∀ J, Wk K J G' items → R J H') → wi σ H R
structure PID (X : Cx) (K : Kx) (E : XK) (tg iter : Expr) (wi : TI) (g : GI) : Prop where
  pi : PI X tg iter wi
  sem : SemI K E wi g
theorem ofI {H : Hp} {a : Addr} {xs ys : List V} {F : PySem.W.Frag} (h : H a = some (.lst xs)) (hK : F.lookup a = none) (q : SqL F H a ys) : ys = xs := by
  rcases q with (q | ⟨o, q⟩) | ⟨o, its, n, hk, _⟩
  · rw [h] at q; cases q; rfl
  · rw [h] at q; cases q
  · rw [hK] at hk; cases hk
section
variable {X : Cx} {K : Kx} {E : XK} {st : Stmt} {sts : List Stmt} {t u : TS} {g g' : GS} {a b e iter tg : Expr} {es : List Expr} {te : TE} {ge : GE} {tt : TT} {gt : GT} {ta : TA} {ga : GA} {pos : Pos}
def dLst : PyData → Option (List PyData)
  | .list ds => some ds
  | _ => none
def dTup : PyData → Option (List PyData)
  | .tuple ds => some ds
  | _ => none
def giLst (g : GE) : GI := fun ρ cu => (g ρ cu).bind fun d cu1 => .ofO (dLst d) cu1
def giTup (g : GE) : GI := fun ρ cu => (g ρ cu).bind fun d cu1 => .ofO (dTup d) cu1
/-- at most one reading of a known list or tuple: by the words of the iterators themselves -/
def iList' (F : PySem.W.Frag) (tl : TE) : TI := fun σ H R => tl σ H fun x H1 => ∃ a, x = .ref a ∧ (∃ xs, SqL F H1 a xs) ∧ R (Itl F a) H1
theorem wk_lst {F : PySem.W.Frag} {G1 : Hp} {a : Addr} {xs : List V} {ds : List PyData} (h : G1 a = some (.lst xs)) (r : RpL K G1 xs ds) : Wk K (Itl F a) G1 ds := by
  intro c H G cu k w
  have hH : SqL F H a xs := SqL.of (w.sub _ _ (k _ _ h))
  refine ⟨fun i d e => ?_, ⟨xs, hH, Nat.le_of_eq r.length⟩⟩
  obtain ⟨v, e1, rv⟩ := r.get e
  refine ⟨⟨xs, v, hH, e1⟩, fun x H' y => ?_⟩
  obtain ⟨rfl, y⟩ := y
  have ev : v = x := Option.some.inj (e1.symm.trans (y xs hH))
  subst ev
  exact ⟨G, Ext.refl, w, rv.mono k⟩
theorem wk_tup {F : PySem.W.Frag} (hKF : K.F = F) {G1 : Hp} {a : Addr} {xs : List V} {ds : List PyData} (h : TupAt K.F G1 a xs) (r : RpL K G1 xs ds) : Wk K (Itt F a) G1 ds := by
  intro c H G cu k w
  have hH : SqT F H a xs := TupAt.sq' hKF ((h.mono k).mono w.sub)
  refine ⟨fun i d e => ?_, ⟨xs, hH, Nat.le_of_eq r.length⟩⟩
  obtain ⟨v, e1, rv⟩ := r.get e
  refine ⟨⟨xs, v, hH, e1⟩, fun x H' y => ?_⟩
  obtain ⟨rfl, y⟩ := y
  have ev : v = x := Option.some.inj (e1.symm.trans (y xs hH))
  subst ev
  exact ⟨G, Ext.refl, w, rv.mono k⟩
theorem pid_lst (h : PD X K E iter te ge) : PID X K E tg iter (iList X.K te) (giLst ge) := by
  refine ⟨pi_list h.pe, fun c H0 G0 σ H G ρ cu R s q => ?_⟩
  refine h.sem c H0 G0 σ H G ρ cu _ s (q.bind.imp fun d H1 G1 cu1 x1 w1 q1 v rv => ?_)
  obtain ⟨ds, ed, q2⟩ := q1.ofO
  cases d with
  | list ds' =>
    cases ed
    obtain ⟨a, xs, rfl, ha, ra⟩ := rv.lst_of
    exact ⟨a, rfl, ⟨xs, SqL.of (w1.sub _ _ ha)⟩, q2 H1 G1 Ext.refl w1 _ (wk_lst ha ra)⟩
  | _ => cases ed
theorem pid_tup (h : PD X K E iter te ge) (hKF : K.F = X.K := by assumption) : PID X K E tg iter (iTup X.K te) (giTup ge) := by
  refine ⟨pi_tup h.pe, fun c H0 G0 σ H G ρ cu R s q => ?_⟩
  refine h.sem c H0 G0 σ H G ρ cu _ s (q.bind.imp fun d H1 G1 cu1 x1 w1 q1 v rv => ?_)
  obtain ⟨ds, ed, q2⟩ := q1.ofO
  cases d with
  | tuple ds' =>
    cases ed
    obtain ⟨a, xs, rfl, ha, ra⟩ := rv.tup_of
    exact ⟨a, rfl, ⟨xs, TupAt.sq' hKF (TupAt.mono w1.sub ha)⟩, q2 H1 G1 Ext.refl w1 _ (wk_tup hKF ha ra)⟩
  | _ => cases ed
/-! range -/
def rngD (lo : Int) (n : Nat) : List PyData := (List.range n).map fun (i : Nat) => .int (lo + (i : Int))
theorem wk_rng {G1 : Hp} (lo : Int) (n : Nat) : Wk K (Itr lo n) G1 (rngD lo n) := by
  intro c H G cu k w
  have hl : (rngD lo n).length = n := by unfold rngD; rw [List.length_map, List.length_range]
  refine ⟨fun i d e => ?_, by rw [hl]; exact Nat.le_refl n⟩
  have hi : i < n := by rw [← hl]; exact (List.getElem?_eq_some_iff.mp e).1
  unfold rngD at e
  rw [List.getElem?_map, List.getElem?_range hi] at e
  cases e
  refine ⟨hi, fun x H' y => ?_⟩
  obtain ⟨rfl, rfl⟩ := y
  exact ⟨G, Ext.refl, w, .int _⟩
def dRng1 : List PyData → Option (List PyData)
  | [.int j] => if -(2 ^ 62) ≤ j ∧ j < 2 ^ 62 then some (rngD 0 j.toNat) else none
  | _ => none
def dRng2 : List PyData → Option (List PyData)
  | [.int i, .int j] => if -(2 ^ 62) ≤ i ∧ i < 2 ^ 62 ∧ -(2 ^ 62) ≤ j ∧ j < 2 ^ 62 then some (rngD i (j - i).toNat) else none
  | _ => none
def giArg (f : List PyData → Option (List PyData)) (g : GA) : GI := fun ρ cu => (g ρ cu).bind fun as cu1 => .ofO ((dats as).bind f) cu1
theorem pid_rng1 {p : Pos} (hg : Gl X "range") (hm : X.mg "range" = none) (ha : PAD X K E [a] ta ga) (hs : starEach [a] X.env = [(false, eval a X.env)] := by rfl) : PID X K E tg (.Call (.Name "range" p) [a] [] pos) (iRng1 ta) (giArg dRng1 ga) := by
  refine ⟨pi_range1 hg hm ha.pa hs, fun c H0 G0 σ H G ρ cu R s q => ?_⟩
  refine ha.sem c H0 G0 σ H G ρ cu _ s (q.bind.imp fun as H1 G1 cu1 x1 w1 q1 vs rvs => ?_)
  obtain ⟨items, ez, q2⟩ := q1.ofO
  cases e : dats as with
  | none => rw [e] at ez; cases ez
  | some ds =>
    rw [e] at ez
    have ez : dRng1 ds = some items := ez
    have r := dats_rp rvs e
    unfold dRng1 at ez
    split at ez
    · split at ez
      · rename_i hb
        cases ez
        obtain ⟨v, rfl, rv⟩ := r.one
        rw [rv.int_of]
        exact ⟨_, rfl, hb.1, hb.2, q2 H1 G1 Ext.refl w1 _ (wk_rng _ _)⟩
      · cases ez
    · cases ez
theorem pid_rng2 {p : Pos} (hg : Gl X "range") (hm : X.mg "range" = none) (ha : PAD X K E [a, b] ta ga) (hs : starEach [a, b] X.env = [(false, eval a X.env), (false, eval b X.env)] := by rfl) (hs2 : starEach [b] X.env = [(false, eval b X.env)] := by rfl) : PID X K E tg (.Call (.Name "range" p) [a, b] [] pos) (iRng2 ta) (giArg dRng2 ga) := by
  refine ⟨pi_range2 hg hm ha.pa hs hs2, fun c H0 G0 σ H G ρ cu R s q => ?_⟩
  refine ha.sem c H0 G0 σ H G ρ cu _ s (q.bind.imp fun as H1 G1 cu1 x1 w1 q1 vs rvs => ?_)
  obtain ⟨items, ez, q2⟩ := q1.ofO
  cases e : dats as with
  | none => rw [e] at ez; cases ez
  | some ds =>
    rw [e] at ez
    have ez : dRng2 ds = some items := ez
    have r := dats_rp rvs e
    unfold dRng2 at ez
    split at ez
    · split at ez
      · rename_i hb
        cases ez
        obtain ⟨v, w, rfl, rv, rw'⟩ := r.two
        rw [rv.int_of, rw'.int_of]
        exact ⟨_, _, rfl, hb, q2 H1 G1 Ext.refl w1 _ (wk_rng _ _)⟩
      · cases ez
    · cases ez
/-! zip -/
def zipD (xs ys : List PyData) : List PyData := List.zipWith (fun a b => .tuple [a, b]) xs ys
def dZip : List PyData → Option (List PyData)
  | [.tuple xs, .tuple ys] => some (zipD xs ys)
  | [.list xs, .list ys] => some (zipD xs ys)
  | _ => none
theorem zipD_length (xs ys : List PyData) : (zipD xs ys).length = min xs.length ys.length := by unfold zipD; exact List.length_zipWith
theorem zipD_get {xs ys : List PyData} {i : Nat} {d : PyData} (h : (zipD xs ys)[i]? = some d) : ∃ x y, xs[i]? = some x ∧ ys[i]? = some y ∧ d = .tuple [x, y] := by
  unfold zipD at h
  rw [List.getElem?_zipWith] at h
  cases e1 : xs[i]? with
  | none => rw [e1] at h; simp at h
  | some x =>
    cases e2 : ys[i]? with
    | none => rw [e1, e2] at h; simp at h
    | some y => rw [e1, e2] at h; simp at h; exact ⟨x, y, rfl, rfl, h.symm⟩
theorem wk_zipL {F : PySem.W.Frag} {G1 : Hp} {a b : Addr} {xs ys : List V} {ds es : List PyData} (h : G1 a = some (.lst xs)) (r : RpL K G1 xs ds) (h' : G1 b = some (.lst ys)) (r' : RpL K G1 ys es) : Wk K (Itz F a b) G1 (zipD ds es) := by
  intro c H G cu k w
  have hA : SqL F H a xs := SqL.of (w.sub _ _ (k _ _ h))
  have hB : SqL F H b ys := SqL.of (w.sub _ _ (k _ _ h'))
  refine ⟨fun i d e => ?_, ⟨xs, ys, hA, hB, by rw [zipD_length, r.length, r'.length]; omega⟩⟩
  obtain ⟨x, y, e1, e2, rfl⟩ := zipD_get e
  obtain ⟨v, e1, rv⟩ := r.get e1
  obtain ⟨u, e2, ru⟩ := r'.get e2
  refine ⟨⟨xs, ys, v, u, hA, hB, e1, e2⟩, fun z H' y => ?_⟩
  obtain ⟨T, x1, x2, rfl, hT, rfl, f1, f2⟩ := y
  have ev : v = x1 := Option.some.inj (e1.symm.trans (f1 xs hA))
  have eu : u = x2 := Option.some.inj (e2.symm.trans (f2 ys hB))
  subst ev eu
  obtain ⟨n1, n2⟩ := w.new (o := .tup [v, u]) hT
  exact ⟨_, n1, n2, .tup upd_same (RpL.upd (.cons (rv.mono k) (.cons (ru.mono k) .nil)) (w.gp hT))⟩
theorem wk_zipT {F : PySem.W.Frag} (hKF : K.F = F) {G1 : Hp} {a b : Addr} {xs ys : List V} {ds es : List PyData} (h : TupAt K.F G1 a xs) (r : RpL K G1 xs ds) (h' : TupAt K.F G1 b ys) (r' : RpL K G1 ys es) : Wk K (RZ.ItzT F a b) G1 (zipD ds es) := by
  intro c H G cu k w
  have hA : SqT F H a xs := TupAt.sq' hKF ((h.mono k).mono w.sub)
  have hB : SqT F H b ys := TupAt.sq' hKF ((h'.mono k).mono w.sub)
  refine ⟨fun i d e => ?_, ⟨xs, ys, hA, hB, by rw [zipD_length, r.length, r'.length]; omega⟩⟩
  obtain ⟨x, y, e1, e2, rfl⟩ := zipD_get e
  obtain ⟨v, e1, rv⟩ := r.get e1
  obtain ⟨u, e2, ru⟩ := r'.get e2
  refine ⟨⟨xs, ys, v, u, hA, hB, e1, e2⟩, fun z H' y => ?_⟩
  obtain ⟨T, x1, x2, rfl, hT, rfl, f1, f2⟩ := y
  have ev : v = x1 := Option.some.inj (e1.symm.trans (f1 xs hA))
  have eu : u = x2 := Option.some.inj (e2.symm.trans (f2 ys hB))
  subst ev eu
  obtain ⟨n1, n2⟩ := w.new (o := .tup [v, u]) hT
  exact ⟨_, n1, n2, .tup upd_same (RpL.upd (.cons (rv.mono k) (.cons (ru.mono k) .nil)) (w.gp hT))⟩
theorem pid_zip {elts : List Expr} {kk : Nat} {tpos p : Pos} (hg : Gl X "zip") (hm : X.mg "zip" = none) (ha : PAD X K E [a, b] ta ga)
    (hp : PA X [a, b] ta → PI X (.Tuple elts kk tpos) (.Call (.Name "zip" p) [a, b] [] pos) (RZ.iZipA X.K ta)) (hKF : K.F = X.K := by assumption) :
    PID X K E (.Tuple elts kk tpos) (.Call (.Name "zip" p) [a, b] [] pos) (RZ.iZipA X.K ta) (giArg dZip ga) := by
  refine ⟨hp ha.pa, fun c H0 G0 σ H G ρ cu R s q => ?_⟩
  refine ha.sem c H0 G0 σ H G ρ cu _ s (q.bind.imp fun as H1 G1 cu1 x1 w1 q1 vs rvs => ?_)
  obtain ⟨items, ez, q2⟩ := q1.ofO
  cases e : dats as with
  | none => rw [e] at ez; cases ez
  | some ds =>
    rw [e] at ez
    have ez : dZip ds = some items := ez
    have r := dats_rp rvs e
    unfold dZip at ez
    split at ez
    · cases ez
      obtain ⟨v, w, rfl, rv, rw'⟩ := r.two
      obtain ⟨a, xs, rfl, ha, ra⟩ := rv.tup_of
      obtain ⟨b, ys, rfl, hb, rb⟩ := rw'.tup_of
      exact ⟨a, b, xs, ys, rfl, .inr ⟨TupAt.sq' hKF (TupAt.mono w1.sub ha), TupAt.sq' hKF (TupAt.mono w1.sub hb), q2 H1 G1 Ext.refl w1 _ (wk_zipT hKF ha ra hb rb)⟩⟩
    · cases ez
      obtain ⟨v, w, rfl, rv, rw'⟩ := r.two
      obtain ⟨a, xs, rfl, ha, ra⟩ := rv.lst_of
      obtain ⟨b, ys, rfl, hb, rb⟩ := rw'.lst_of
      exact ⟨a, b, xs, ys, rfl, .inl ⟨SqL.of (w1.sub _ _ ha), SqL.of (w1.sub _ _ hb), q2 H1 G1 Ext.refl w1 _ (wk_zipL ha ra hb rb)⟩⟩
    · cases ez
/-! ### another entry -/
theorem Ext.un {c : Option Addr} {H0 G0 H1 G1 H G : Hp} (a : Ext c H0 G0 H1 G1) (b : Ext c H0 G1 H G) : Ext c H0 G0 H G := ⟨b.h, b.hs, fun x o e => b.g x o (a.g x o e), fun x o e m n => b.n x o e m (a.n x o e m n)⟩
theorem SRep.un {c : Option Addr} {H0 G0 H1 G1 H G : Hp} {σ : L2.St} {ρ : En} {cu : Cu} (a : Ext c H0 G0 H1 G1) (s : SRep K c H0 G1 σ H G ρ cu) : SRep K c H0 G0 σ H G ρ cu := ⟨s.wd, a.un s.ext, s.rep⟩
theorem SRep.re {c : Option Addr} {H0 G0 H1 G1 H G : Hp} {σ : L2.St} {ρ : En} {cu : Cu} (a : Ext c H0 G0 H1 G1) (k : ∀ b o, G1 b = some o → G b = some o) (s : SRep K c H0 G0 σ H G ρ cu) : SRep K c H0 G1 σ H G ρ cu := by
  refine ⟨s.wd, ⟨s.ext.h, s.ext.hs, k, fun b o e m n => s.ext.n b o e m ?_⟩, s.rep⟩
  cases q : G0 b with
  | none => rfl
  | some o => rw [a.g b o q] at n; cases n
/-! ### for -/
def gForL (gg : GG) (g : GS) : List PyData → GS
  | [] => fun ρ cu => .ok (.nx ρ) cu
  | d :: r => fun ρ cu => (Rs.ofO (gg d ρ) cu).bind fun ρ1 cu1 => (g ρ1 cu1).bind fun o cu2 => match o with
      | .nx ρ' => gForL gg g r ρ' cu2
      | .ct ρ' => gForL gg g r ρ' cu2
      | .brk ρ' => .ok (.nx ρ') cu2
      | .ret d => .ok (.ret d) cu2
def gFor (gi : GI) (gg : GG) (g : GS) : GS := fun ρ cu => (gi ρ cu).bind fun items cu1 => gForL gg g items ρ cu1
theorem psd_for {body : List Stmt} {wi : TI} {gi : GI} {t1 : TG} {gg : GG} {ws : List Nat} (hp : PassesOwn (model X.prog X.w) X.A X.env X.xe) (hc : X.calm = true) (hi : PID X K E tg iter wi gi) (hg : PGD X K tg t1 gg ws) (hb : PSsD X K E body t g)
    (hs : ∀ x, foldedSetIterable iter X.env x = pure x := by intro _; rfl) : PSD X K E (.For tg iter body [] pos) (tFor wi t1 t) (gFor gi gg g) := by
  refine ⟨ps_for hp hc hi.pi hg.pg hb.ps hs, fun c H0 G0 σ H G ρ cu D s q => ?_⟩
  refine hi.sem c H0 G0 σ H G ρ cu _ s ((q.exp s).imp fun items H1 G1 cu1 x1 w1 q1 J wk => ?_)
  have x01 : Ext c H0 G0 H1 G1 := s.ext.trans x1
  refine ⟨fun i m σ H => ∃ G ρ cu, SRep K c H0 G0 σ H G ρ cu ∧ (∀ b o, G1 b = some o → G b = some o) ∧ m = items.length - i ∧ i ≤ items.length ∧ PostS K E c H0 G0 (gForL gg g (items.drop i) ρ cu) D,
    ⟨items.length, G1, ρ, cu1, s.go x1 w1, fun _ _ e => e, by simp, Nat.zero_le _, by rw [List.drop_zero]; exact q1⟩, ?_⟩
  rintro i m σ H ⟨G, ρ, cu, s, k, rfl, hle, q⟩
  obtain ⟨wk1, wk2⟩ := wk c H G cu k s.wd
  by_cases hlt : i < items.length
  · have e0 : items[i]? = some items[i] := List.getElem?_eq_getElem hlt
    obtain ⟨go, yl⟩ := wk1 i _ e0
    refine .inr ⟨go, fun σ' H' => ∃ G ρ cu, SRep K c H0 G0 σ' H' G ρ cu ∧ (∀ b o, G1 b = some o → G b = some o) ∧ PostS K E c H0 G0 (gForL gg g (items.drop (i + 1)) ρ cu) D, fun σ' H' h => ?_, fun x H' y => ?_⟩
    · obtain ⟨G', ρ', cu', s', k', q'⟩ := h
      exact ⟨items.length - (i + 1), by omega, G', ρ', cu', s', k', rfl, hlt, q'⟩
    · obtain ⟨G', x2, w2, rx⟩ := yl x H' y
      rw [List.drop_eq_getElem_cons hlt] at q
      have q : PostS K E c H0 G0 ((Rs.ofO (gg items[i] ρ) cu).bind _) D := q
      obtain ⟨ρ1, e1, q⟩ := q.ofO
      refine hg.sem c H0 G0 σ H' G' ρ cu x items[i] ρ1 _ (s.go x2 w2) rx e1 fun σ2 s2 _ _ => ?_
      have x01 : Ext c H0 G0 H1 G1 := x01
      refine hb.sem c H0 G1 σ2 H' G' ρ1 cu _ (s2.re x01 fun b o e => x2.g _ _ (k b o e)) ?_
      cases hr : g ρ1 cu with
      | stuck => rw [hr] at q; exact q
      | exc k cu1 => rw [hr] at q; exact fun H' G' x w => q H' G' (x01.un x) w
      | ok o cu2 =>
        rw [hr] at q
        cases o with
        | nx ρ' => exact fun σ' H3 G3 s3 => ⟨G3, ρ', cu2, s3.un x01, s3.ext.g, q⟩
        | ct ρ' => exact fun σ' H3 G3 s3 => ⟨G3, ρ', cu2, s3.un x01, s3.ext.g, q⟩
        | brk ρ' => exact fun σ' H3 G3 s3 => q σ' H3 G3 (s3.un x01)
        | ret d => exact fun v H3 G3 x w r => q v H3 G3 (x01.un x) w r
  · have e : i = items.length := by omega
    subst e
    rw [List.drop_length] at q
    exact .inl ⟨wk2, q σ H G s⟩
end
end DL

set_option Elab.async false
set_option linter.all false
set_option maxRecDepth 100000
set_option autoImplicit false
namespace DL
open PySem PySem.Spec PyProof.Rows L2
section
variable {X : Cx} {K : Kx} {E : XK} {a b e iter tg elt : Expr} {es ifs : List Expr} {te : TE} {ge : GE} {tt : TT} {gt : GT} {ta : TA} {ga : GA} {pos : Pos}
/-! ### a list of one's own -/
theorem Wd.updL {c : Option Addr} {H G : Hp} {cu : Cu} {p : Addr} {xs ys : List V} (w : Wd K c H G cu) (hp : H p = some (.lst xs)) (gp : G p = none) (hc : c ≠ some p) : Wd K c (upd H p (.lst ys)) G cu := by
  have nel : ∀ b u, H b = some u → (∀ xs, u ≠ .lst xs) → upd H p (.lst ys) b = some u := fun b u e n => by
    rw [upd_ne (fun z => by rw [z, hp] at e; exact n _ (Option.some.inj e).symm)]; exact e
  refine ⟨fun b u e => ?_, fun q hq => ?_, w.nt, fun a ha => ?_⟩
  · rw [upd_ne (fun z => by rw [z, gp] at e; cases e)]; exact w.sub _ _ e
  · obtain ⟨ps, h1, h2, h3⟩ := w.tab q hq
    refine ⟨ps, nel _ _ h1 (fun xs z => nomatch z), h2, fun pos cv hcv => ?_⟩
    obtain ⟨c0, e3, e4⟩ := h3 pos cv hcv
    exact ⟨c0, e3, nel _ _ e4 (fun xs z => nomatch z)⟩
  · obtain ⟨h1, h2⟩ := w.cup a ha
    exact ⟨by rw [upd_ne (fun z => hc (by rw [← z]; exact ha))]; exact h1, h2⟩
theorem Ext.updL {c : Option Addr} {H0 G0 H G : Hp} {p : Addr} {o : HO} (x : Ext c H0 G0 H G) (hp : Fre H0 p) : Ext c H0 G0 (upd H p o) G := by
  refine ⟨fun b u e n k => ?_, fun b u e n => ?_, x.g, x.n⟩
  · rw [upd_ne (hp.ne e n)]; exact x.h b u e n k
  · rw [upd_ne (hp.ne e n)]; exact x.hs b u e n
theorem Wd.nc {c : Option Addr} {H G : Hp} {cu : Cu} (w : Wd K c H G cu) {p : Addr} (hp : Fre H p) : c ≠ some p := fun z => hp _ (w.cup p z).1 nt_lst
/-- a list that nothing else knows -/
def SemF (K : Kx) (E : XK) (t : TE) (g : GI) : Prop := ∀ c H0 G0 σ H G ρ cu (Q : VK), SRep K c H0 G0 σ H G ρ cu →
  Post K E c H G (g ρ cu) (fun ds H' G' _ => ∀ a xs, Fre H a → H' a = some (.lst xs) → RpL K G' xs ds → G' a = none → Q (.ref a) H') → t σ H Q
structure PFD (X : Cx) (K : Kx) (E : XK) (e : Expr) (t : TE) (g : GI) : Prop where
  pe : PE X e t
  sem : SemF K E t g
def gL (g : GI) : GE := fun ρ cu => (g ρ cu).bind fun ds cu1 => .ok (.list ds) cu1
theorem SemF.toE {t : TE} {g : GI} (h : SemF K E t g) : SemE K E t (gL g) := by
  intro c H0 G0 σ H G ρ cu Q s q
  refine h c H0 G0 σ H G ρ cu Q s ?_
  unfold gL at q
  cases hr : g ρ cu with
  | stuck => rw [hr] at q; exact q
  | exc k cu1 => rw [hr] at q; exact q
  | ok ds cu1 =>
    rw [hr] at q
    intro H' G' x w a xs ha ha' r ga
    have hk : ∀ b o, G' b = some o → upd G' a (.lst xs) b = some o := fun b o e => by rw [upd_ne (ne_of_none e ga)]; exact e
    refine q H' (upd G' a (.lst xs)) ⟨x.h, x.hs, fun b o e => hk _ _ (x.g b o e), fun b o e m n => ?_⟩ (w.know ha' ga (s.wd.nc ha)) _ (.lst upd_same (r.mono hk))
    rw [upd_ne (ha.ne e m)]; exact x.n b o e m n
theorem PFD.toD {t : TE} {g : GI} (h : PFD X K E e t g) : PD X K E e t (gL g) := ⟨h.pe, h.sem.toE⟩
def gfDisp (g : GA) : GI := fun ρ cu => (g ρ cu).bind fun as cu1 => .ofO ((dats as).bind fun ds => if ds.length ≤ 16777216 then some ds else none) cu1
theorem fdisp_of {as : List Sl} {z : List PyData} (h : ((dats as).bind fun ds => if ds.length ≤ 16777216 then some ds else none) = some z) : dats as = some z ∧ z.length ≤ 16777216 := by
  cases e : dats as with
  | none => rw [e] at h; cases h
  | some ds =>
    rw [e] at h
    have h' : (if ds.length ≤ 16777216 then some ds else none) = some z := h
    split at h'
    · rename_i hl; cases h'; exact ⟨rfl, hl⟩
    · cases h'
theorem pf_lst (h : PAD X K E es ta ga) : PFD X K E (.List es pos) (tLst ta) (gfDisp ga) := by
  refine ⟨pe_lst h.pa, fun c H0 G0 σ H G ρ cu Q s q => ?_⟩
  refine h.sem c H0 G0 σ H G ρ cu _ s (q.bind.imp fun as H1 G1 cu1 x1 w1 q1 vs rvs => ?_)
  obtain ⟨ds, ez, q2⟩ := q1.ofO
  obtain ⟨e1, e2⟩ := fdisp_of ez
  have r := dats_rp rvs e1
  refine ⟨by rw [r.length, sizeLine_eq]; exact e2, fun p hp => ?_⟩
  obtain ⟨x2, w2, gp⟩ := w1.newH (o := .lst vs) hp
  exact q2 _ _ x2 w2 p vs (x1.free (.of hp)) upd_same r gp
/-- a list of one's own, or a known one, and a known one behind it -/
def catL : PyData → List PyData → Option (List PyData)
  | .list ys, xs => if xs.length + ys.length ≤ 16777216 then some (xs ++ ys) else none
  | _, _ => none
def gfCat (i : Nat) (g : GE) : GI := fun ρ cu => match ρ[i]? with
  | some (.own xs) => (g ρ cu).bind fun d cu1 => .ofO (catL d xs) cu1
  | some (.dat (.list xs)) => (g ρ cu).bind fun d cu1 => .ofO (catL d xs) cu1
  | _ => .stuck
theorem catL_of {d : PyData} {xs zs : List PyData} (h : catL d xs = some zs) : ∃ ys, d = .list ys ∧ xs.length + ys.length ≤ 16777216 ∧ zs = xs ++ ys := by
  cases d with
  | list ys =>
    have h : (if xs.length + ys.length ≤ 16777216 then some (xs ++ ys) else none) = some zs := h
    split at h
    · rename_i hl; cases h; exact ⟨ys, rfl, hl, rfl⟩
    · cases h
  | _ => cases h
theorem pf_cat {i : Nat} {x : Str} {p : Pos} (h : PE X (.Name x p) (tVar i)) (hb : PD X K E b te ge) : PFD X K E (.BinOp (.Name x p) .Add b pos) (tOp rCat (tVar i) te) (gfCat i ge) := by
  refine ⟨pe_op op_cat h hb.pe, fun c H0 G0 σ H G ρ cu Q s q => ?_⟩
  have go : ∀ (a : Addr) (vs : List V) (xs : List PyData), H a = some (.lst vs) → RpL K G vs xs → c ≠ some a → σ[i]? = some (some (V.ref a)) → Post K E c H G ((ge ρ cu).bind fun d cu1 => .ofO (catL d xs) cu1)
      (fun ds H' G' _ => ∀ a xs, Fre H a → H' a = some (.lst xs) → RpL K G' xs ds → G' a = none → Q (.ref a) H') → tOp rCat (tVar i) te σ H Q := by
    intro a vs xs h1 r1 hc e2 q
    refine ⟨_, e2, hb.sem c H0 G0 σ H G ρ cu _ s (q.bind.imp fun d H1 G1 cu1 x1 w1 q1 v rv => ?_)⟩
    obtain ⟨zs, ez, q2⟩ := q1.ofO
    obtain ⟨ys, rfl, hl, rfl⟩ := catL_of ez
    obtain ⟨b', us, rfl, hb', rb⟩ := rv.lst_of
    refine ⟨a, b', vs, us, rfl, rfl, x1.h _ _ h1 nt_lst hc, w1.sub _ _ hb', by rw [r1.length, rb.length, sizeLine_eq]; exact hl, fun p hp => ?_⟩
    obtain ⟨x2, w2, gp⟩ := w1.newH (o := .lst (vs ++ us)) hp
    exact q2 _ _ x2 w2 p _ (x1.free (.of hp)) upd_same ((r1.mono x1.g).app rb) gp
  unfold gfCat at q
  split at q
  · rename_i xs e
    obtain ⟨A, h1, _⟩ := s.rep.own
    obtain ⟨e1, ⟨vs, e2, e3⟩, _, _, e6⟩ := h1 i xs e
    exact go _ vs xs e2 e3 e6 e1 q
  · rename_i xs e
    obtain ⟨v, e1, rv⟩ := s.rep.dat i _ e
    obtain ⟨a, vs, rfl, ha, ra⟩ := rv.lst_of
    refine go a vs xs (s.wd.sub _ _ ha) ra (fun z => ?_) e1 q
    have := (s.wd.cup a z).2
    rw [ha] at this; cases this
  · exact q.elim
/-- the own list into its slot -/
theorem SRep.setO {c : Option Addr} {H0 G0 H G H' G' : Hp} {σ : L2.St} {ρ : En} {cu cu' : Cu} {i : Nat} {a : Addr} {xs : List V} {ds : List PyData} (s : SRep K c H0 G0 σ H G ρ cu) (x : Ext c H G H' G') (w : Wd K c H' G' cu')
    (ha : Fre H a) (ha' : H' a = some (.lst xs)) (r : RpL K G' xs ds) (ga : G' a = none) : SRep K c H0 G0 (σ.set i (some (.ref a))) H' G' (ρ.set i (.own ds)) cu' := by
  have s' := s.go x w
  have ne : ∀ (j : Nat) (t : Sl), (ρ.set i (.own ds))[j]? = some t → j ≠ i → ρ[j]? = some t := fun j t e hj => by rw [List.getElem?_set_ne (Ne.symm hj)] at e; exact e
  have at_ : ∀ (t : Sl), (ρ.set i (.own ds))[i]? = some t → t = .own ds ∧ i < ρ.length := fun t e => by
    by_cases hi : i < ρ.length
    · rw [List.getElem?_set_self hi] at e; cases e; exact ⟨rfl, hi⟩
    · rw [List.getElem?_eq_none (by simpa using hi)] at e; cases e
  refine ⟨w, s'.ext, by rw [List.length_set, List.length_set]; exact s.rep.len, fun j d e => ?_, fun j e => ?_, ?_⟩
  · by_cases hj : j = i
    · subst hj; cases (at_ _ e).1
    · rw [List.getElem?_set_ne (Ne.symm hj)]; exact s'.rep.dat j d (ne j _ e hj)
  · by_cases hj : j = i
    · subst hj; cases (at_ _ e).1
    · rw [List.getElem?_set_ne (Ne.symm hj)]; exact s'.rep.cup j (ne j _ e hj)
  · obtain ⟨A, h1, h2⟩ := s.rep.own
    obtain ⟨A', h1', h2'⟩ := s'.rep.own
    have H0a : Fre H0 a := s.ext.free ha
    have nA : ∀ (j : Nat) (es : List PyData), ρ[j]? = some (.own es) → A j ≠ a := fun j es e z => by
      obtain ⟨_, ⟨_, e2, _⟩, _⟩ := h1 j es e
      exact ha.ne e2 nt_lst z
    refine ⟨fun j => if j = i then a else A j, fun j es e => ?_, fun j k es fs e1 e2 hjk => ?_⟩
    · by_cases hj : j = i
      · subst hj
        obtain ⟨e0, hi⟩ := at_ _ e
        cases e0
        dsimp only
        rw [if_pos rfl]
        exact ⟨List.getElem?_set_self (by rw [← s.rep.len]; exact hi), ⟨xs, ha', r⟩, ga, H0a, s.wd.nc ha⟩
      · dsimp only
        rw [if_neg hj, List.getElem?_set_ne (Ne.symm hj)]
        obtain ⟨q1, ⟨ys, q2, q3⟩, q4, q5, q6⟩ := h1 j es (ne j _ e hj)
        exact ⟨q1, ⟨ys, x.h _ _ q2 nt_lst q6, q3.mono x.g⟩, x.n _ _ q2 nt_lst q4, q5, q6⟩
    · show (if j = i then a else A j) ≠ (if k = i then a else A k)
      by_cases hj : j = i
      · have hk : k ≠ i := fun z => hjk (hj.trans z.symm)
        rw [if_pos hj, if_neg hk]
        exact fun z => nA k fs (ne k _ e2 hk) z.symm
      · rw [if_neg hj]
        by_cases hk : k = i
        · rw [if_pos hk]; exact nA j es (ne j _ e1 hj)
        · rw [if_neg hk]; exact h2 j k es fs (ne j _ e1 hj) (ne k _ e2 hk) hjk
def gSetO (i : Nat) (g : GI) : GS := fun ρ cu => (g ρ cu).bind fun ds cu1 => .ok (.nx (ρ.set i (.own ds))) cu1
theorem sem_setO {i : Nat} {t : TE} {g : GI} (h : SemF K E t g) : SemS K E (tAsg t (gName i)) (gSetO i g) := by
  intro c H0 G0 σ H G ρ cu D s q
  exact h c H0 G0 σ H G ρ cu _ s ((q.exp s).imp fun ds H1 G1 cu1 x1 w1 q1 a xs ha ha' r ga => q1 _ H1 G1 (s.setO x1 w1 ha ha' r ga))
theorem psd_setO {i : Nat} {x : Str} {pos' : Pos} {g : GI} (hN : X.N.Nodup) (hi : X.N[i]? = some x) (hx : Loc X.env.scope x) (he : PFD X K E e te g) (hs : swapsWith e (some (.Name x pos')) pos.line X.env = pure false := by rfl) (hf : X.fn x = true ∨ X.env.scope.names.lookup x = some .local := by first | exact .inl rfl | exact .inr rfl | assumption) :
    PSD X K E (.Assign [.Name x pos'] e pos) (tAsg te (gName i)) (gSetO i g) := ⟨ps_set hN hi hx he.pe hs hf, sem_setO he.sem⟩
/-- x.append(e) -/
def gApd (i : Nat) (g : GE) : GS := fun ρ cu => match ρ[i]? with
  | some (.own xs) => (g ρ cu).bind fun d cu1 => if xs.length < 16777216 then .ok (.nx (ρ.set i (.own (xs ++ [d])))) cu1 else .stuck
  | _ => .stuck
theorem psd_append {i : Nat} {x : Str} {p ap cp : Pos} (h : PE X (.Name x p) (tVar i)) (he : PD X K E e te ge)
    (hpe : PA X [e] (tCons te tNil) → PE X (.Call (.Attribute (.Name x p) "append" ap) [e] [] cp) (tBM X.K "list" rAppend (tVar i) (tCons te tNil)))
    (hs0 : starEach [e] X.env = (false, eval e X.env) :: starEach [] X.env := by rfl)
    (hs : swapsWith (.Call (.Attribute (.Name x p) "append" ap) [e] [] cp) none pos.line X.env = pure false := by rfl) :
    PSD X K E (.Expr (.Call (.Attribute (.Name x p) "append" ap) [e] [] cp) pos) (tDrop (tBM X.K "list" rAppend (tVar i) (tCons te tNil))) (gApd i ge) := by
  refine ⟨ps_expr (hpe (pa_cons he.pe pa_nil hs0)) hs, fun c H0 G0 σ H G ρ cu D s q => ?_⟩
  unfold gApd at q
  split at q
  · rename_i xs e
    obtain ⟨A, h1, h2⟩ := s.rep.own
    obtain ⟨e1, ⟨vs, e2, e3⟩, e4, e5, e6⟩ := h1 i xs e
    refine ⟨_, e1, .inl ⟨rfl, _, SqL.of e2⟩, ?_⟩
    refine he.sem c H0 G0 σ H G ρ cu _ s ((q.exp s).imp fun d H1 G1 cu1 x1 w1 q1 v rv => ?_)
    split at q1
    · rename_i hl
      have a1 := x1.h _ _ e2 nt_lst e6
      have g1 : G1 (A i) = none := x1.n _ _ e2 nt_lst e4
      refine ⟨A i, vs, v, rfl, rfl, a1, by rw [e3.length, sizeLine_eq]; exact hl, q1 σ _ G1 ⟨w1.updL a1 g1 e6, (s.ext.trans x1).updL e5, ?_⟩⟩
      have s1 := (s.go x1 w1).rep
      have ne : ∀ (j : Nat) (t : Sl), (ρ.set i (.own (xs ++ [d])))[j]? = some t → j ≠ i → ρ[j]? = some t := fun j t e hj => by rw [List.getElem?_set_ne (Ne.symm hj)] at e; exact e
      have at_ : ∀ (t : Sl), (ρ.set i (.own (xs ++ [d])))[i]? = some t → t = .own (xs ++ [d]) := fun t e => by
        by_cases hi : i < ρ.length
        · rw [List.getElem?_set_self hi] at e; cases e; rfl
        · rw [List.getElem?_eq_none (by simpa using hi)] at e; cases e
      refine ⟨by rw [List.length_set]; exact s.rep.len, fun j d' e => ?_, fun j e => ?_, A, fun j es e => ?_, fun j k es fs q1 q2 hjk => ?_⟩
      · by_cases hj : j = i
        · subst hj; cases at_ _ e
        · exact s1.dat j d' (ne j _ e hj)
      · by_cases hj : j = i
        · subst hj; cases at_ _ e
        · exact s1.cup j (ne j _ e hj)
      · by_cases hj : j = i
        · subst hj
          cases at_ _ e
          exact ⟨e1, ⟨_, upd_same, (e3.mono x1.g).app (.cons rv .nil)⟩, g1, e5, e6⟩
        · have e0 := ne j _ e hj
          obtain ⟨q1, ⟨ys, q2, q3⟩, q4, q5, q6⟩ := h1 j es e0
          have nij : A j ≠ A i := h2 j i es xs e0 (by assumption) hj
          exact ⟨q1, ⟨ys, by rw [upd_ne nij]; exact x1.h _ _ q2 nt_lst q6, q3.mono x1.g⟩, x1.n _ _ q2 nt_lst q4, q5, q6⟩
      · by_cases hj : j = i
        · subst hj
          have hk : k ≠ j := fun z => hjk z.symm
          exact h2 j k xs fs (by assumption) (ne k _ q2 hk) hjk
        · by_cases hk : k = i
          · subst hk; exact h2 j k es xs (ne j _ q1 hj) (by assumption) hjk
          · exact h2 j k es fs (ne j _ q1 hj) (ne k _ q2 hk) hjk
    · exact q1.elim
  · exact q.elim
/-- from here on the list may be known -/
def gFrz (i : Nat) (g : GS) : GS := fun ρ cu => match ρ[i]? with
  | some (.own ds) => g (ρ.set i (.dat (.list ds))) cu
  | _ => g ρ cu
theorem pssd_frz {sts : List Stmt} {t : TS} {g : GS} (i : Nat) (h : PSsD X K E sts t g) : PSsD X K E sts t (gFrz i g) := by
  refine ⟨h.ps, fun c H0 G0 σ H G ρ cu D s q => ?_⟩
  unfold gFrz at q
  split at q
  · rename_i ds e
    obtain ⟨A, h1, h2⟩ := id s.rep.own
    obtain ⟨e1, ⟨vs, e2, e3⟩, e4, e5, e6⟩ := h1 i ds e
    have hi : i < ρ.length := (List.getElem?_eq_some_iff.mp e).1
    have hk : ∀ b o, G b = some o → upd G (A i) (.lst vs) b = some o := fun b o z => by rw [upd_ne (ne_of_none z e4)]; exact z
    have ne : ∀ (j : Nat) (t : Sl), (ρ.set i (.dat (.list ds)))[j]? = some t → j ≠ i → ρ[j]? = some t := fun j t e hj => by rw [List.getElem?_set_ne (Ne.symm hj)] at e; exact e
    have at_ : ∀ (t : Sl), (ρ.set i (.dat (.list ds)))[i]? = some t → t = .dat (.list ds) := fun t e => by rw [List.getElem?_set_self hi] at e; cases e; rfl
    refine h.sem c H0 G0 σ H (upd G (A i) (.lst vs)) _ cu D ⟨s.wd.know e2 e4 e6, ⟨s.ext.h, s.ext.hs, fun b o z => hk _ _ (s.ext.g b o z), fun b o z m n => ?_⟩, by rw [List.length_set]; exact s.rep.len, fun j d z => ?_, fun j z => ?_, A, fun j es z => ?_, fun j k es fs z1 z2 hjk => ?_⟩ q
    · rw [upd_ne (e5.ne z m)]; exact s.ext.n b o z m n
    · by_cases hj : j = i
      · subst hj; cases at_ _ z; exact ⟨_, e1, .lst upd_same (e3.mono hk)⟩
      · obtain ⟨v, y1, y2⟩ := s.rep.dat j d (ne j _ z hj)
        exact ⟨v, y1, y2.mono hk⟩
    · by_cases hj : j = i
      · subst hj; cases at_ _ z
      · exact s.rep.cup j (ne j _ z hj)
    · by_cases hj : j = i
      · subst hj; cases at_ _ z
      · have z0 := ne j _ z hj
        obtain ⟨q1, ⟨ys, q2, q3⟩, q4, q5, q6⟩ := h1 j es z0
        exact ⟨q1, ⟨ys, q2, q3.mono hk⟩, by rw [upd_ne (h2 j i es ds z0 e hj)]; exact q4, q5, q6⟩
    · by_cases hj : j = i
      · subst hj; cases at_ _ z1
      · by_cases hk' : k = i
        · subst hk'; cases at_ _ z2
        · exact h2 j k es fs (ne j _ z1 hj) (ne k _ z2 hk') hjk
  · exact h.sem c H0 G0 σ H G ρ cu D s q
/-! ### comprehensions -/
def wipeE (ρ : En) : List Nat → En
  | [] => ρ
  | v :: vs => (wipeE ρ vs).set v .un
theorem Rep.setUn {c : Option Addr} {H0 : Hp} {σ : L2.St} {H G : Hp} {ρ : En} {i : Nat} (r : Rep K c H0 σ H G ρ) : Rep K c H0 (σ.set i none) H G (ρ.set i .un) := by
  have ne : ∀ (j : Nat) (s : Sl), s ≠ .un → (ρ.set i .un)[j]? = some s → ρ[j]? = some s ∧ j ≠ i := fun j s hs e => by
    by_cases hj : i = j
    · subst hj
      by_cases hi : i < ρ.length
      · rw [List.getElem?_set_self hi] at e
        cases e
        exact (hs rfl).elim
      · rw [List.getElem?_eq_none (by simpa using hi)] at e; cases e
    · rw [List.getElem?_set_ne hj] at e
      exact ⟨e, Ne.symm hj⟩
  refine ⟨by rw [List.length_set, List.length_set]; exact r.len, fun j d' e => ?_, fun j e => ?_, ?_⟩
  · obtain ⟨e, hj⟩ := ne j (Sl.dat d') (fun z => nomatch z) e
    rw [List.getElem?_set_ne (Ne.symm hj)]
    exact r.dat j d' e
  · obtain ⟨e, hj⟩ := ne j Sl.cup (fun z => nomatch z) e
    rw [List.getElem?_set_ne (Ne.symm hj)]
    exact r.cup j e
  · obtain ⟨A, h1, h2⟩ := r.own
    refine ⟨A, fun j ds e => ?_, fun j k ds es e1 e2 => ?_⟩
    · obtain ⟨e, hj⟩ := ne j (Sl.own ds) (fun z => nomatch z) e
      rw [List.getElem?_set_ne (Ne.symm hj)]
      exact h1 j ds e
    · obtain ⟨e1, _⟩ := ne j (Sl.own ds) (fun z => nomatch z) e1
      obtain ⟨e2, _⟩ := ne k (Sl.own es) (fun z => nomatch z) e2
      exact h2 j k ds es e1 e2
theorem Rep.wipe {c : Option Addr} {H0 : Hp} {σ : L2.St} {H G : Hp} {ρ : En} (r : Rep K c H0 σ H G ρ) : ∀ vs : List Nat, Rep K c H0 (wipe σ vs) H G (wipeE ρ vs)
  | [] => r
  | v :: vs => (Rep.wipe r vs).setUn
theorem wipe_in {σ : L2.St} {i : Nat} : ∀ {vs : List Nat}, i ∈ vs → (wipe σ vs)[i]? = if i < σ.length then some none else none
  | v :: vs, h => by
    unfold L2.wipe
    by_cases hi : v = i
    · subst hi
      by_cases hl : v < σ.length
      · rw [if_pos hl, List.getElem?_set_self (by rw [wipe_length]; exact hl)]
      · rw [if_neg hl, List.getElem?_eq_none (by rw [List.length_set, wipe_length]; omega)]
    · rw [List.getElem?_set_ne hi]
      rcases List.mem_cons.mp h with e | e
      · exact absurd e.symm hi
      · exact wipe_in e
theorem wipe_eq {σ σ2 : L2.St} {vs ws : List Nat} (hl : σ2.length = (wipe σ vs).length) (hk : ∀ j : Nat, j ∉ ws → σ2[j]? = (wipe σ vs)[j]?) (hw : ∀ j ∈ ws, j ∈ vs) : wipe σ2 vs = wipe σ vs := by
  apply List.ext_getElem?
  intro j
  rw [wipe_length] at hl
  by_cases hj : j ∈ vs
  · rw [wipe_in hj, wipe_in hj, hl]
  · rw [wipe_out hj, hk j fun z => hj (hw j z)]
def Rs.nox {α : Type} (r : Rs α) : Rs α := match r with
  | .exc _ _ => .stuck
  | r => r
theorem Post.nox {c : Option Addr} {H G H1 G1 : Hp} {α β : Type} {r : Rs α} {f : α → Cu → Rs β} {Q : β → Hp → Hp → Cu → Prop} (h : Post K E c H1 G1 (r.nox.bind f) Q) : Post K E0 c H G r (fun a _ _ cu' => Post K E c H1 G1 (f a cu') Q) := by
  cases r with
  | stuck => exact h
  | exc k cu => exact h.elim
  | ok a cu => exact fun _ _ _ _ => h
theorem Rs.bind_assoc {α β γ : Type} (r : Rs α) (f : α → Cu → Rs β) (g : β → Cu → Rs γ) : (r.bind f).bind g = r.bind fun a cu => (f a cu).bind g := by cases r <;> rfl
def gLcL (gg : GG) (gt : GT) (ge : GE) : List PyData → En → Cu → Rs (List PyData)
  | [] => fun _ cu => .ok [] cu
  | d :: r => fun ρ cu => (Rs.ofO (gg d ρ) cu).bind fun ρ1 cu1 => (gt ρ1 cu1).nox.bind fun b cu2 => if b = true then (ge ρ1 cu2).nox.bind fun y cu3 => (gLcL gg gt ge r ρ cu3).bind fun ys cu4 => .ok (y :: ys) cu4 else gLcL gg gt ge r ρ cu2
def gLc (gi : GI) (vs : List Nat) (gg : GG) (gt : GT) (ge : GE) : GI := fun ρ cu => (gi ρ cu).bind fun items cu1 => if items.length < 16777216 then gLcL gg gt ge items (wipeE ρ vs) cu1 else .stuck
structure PTsD (X : Cx) (K : Kx) (E : XK) (ifs : List Expr) (t : TT) (g : GT) : Prop where
  pts : PTs X ifs t
  sem : SemT K E t g
def gYes : GT := fun _ cu => .ok true cu
theorem ptsd_nil : PTsD X K E [] tYes gYes := ⟨pts_nil, fun c H0 G0 σ H G ρ cu Q s q => q H G Ext.refl s.wd⟩
theorem ptsd_one {c : Expr} (h : PTD X K E c tt gt) : PTsD X K E [c] tt gt := ⟨pts_one h.pt, h.sem⟩
theorem sem_lc {wi : TI} {gi : GI} {t1 : TG} {gg : GG} {ws vs : List Nat} (hi : SemI K E wi gi) (hg : SemG K t1 gg ws) (hw : ∀ j ∈ ws, j ∈ vs) (ht : SemT K E0 tt gt) (he : SemE K E0 te ge) : SemF K E (tLc wi t1 tt te vs) (gLc gi vs gg gt ge) := by
  intro c H0 G0 σ H G ρ cu Q s q
  refine hi c H0 G0 σ H G ρ cu _ s (q.bind.imp fun items H1 G1 cu1 x1 w1 q1 J wk Dd hD => ?_)
  split at q1
  case isFalse => exact q1.elim
  case isTrue hlen =>
  have s1 : SRep K c H0 G0 (wipe σ vs) H1 G1 (wipeE ρ vs) cu1 := ⟨w1, s.ext.trans x1, (s.go x1 w1).rep.wipe vs⟩
  have hc : c ≠ some Dd := w1.nc (.of hD)
  obtain ⟨x0, w0, g0⟩ := w1.newH (o := .lst []) hD
  refine ⟨fun i m H' => ∃ G' cu' acc accD, Ext c H1 G1 H' G' ∧ Wd K c H' G' cu' ∧ m = items.length - i ∧ i ≤ items.length ∧ H' Dd = some (.lst acc) ∧ RpL K G' acc accD ∧ G' Dd = none ∧ accD.length ≤ i ∧
      Post K E c H1 G1 ((gLcL gg gt ge (items.drop i) (wipeE ρ vs) cu').bind fun ys cu2 => .ok (accD ++ ys) cu2) (fun ds H' G' _ => ∀ a xs, Fre H a → H' a = some (.lst xs) → RpL K G' xs ds → G' a = none → Q (.ref a) H'),
    ⟨items.length, G1, cu1, [], [], x0, w0, by simp, Nat.zero_le _, upd_same, .nil, g0, Nat.zero_le _, ?_⟩, ?_⟩
  · rw [List.drop_zero]
    have e : ((gLcL gg gt ge items (wipeE ρ vs) cu1).bind fun ys cu2 => Rs.ok ([] ++ ys) cu2) = gLcL gg gt ge items (wipeE ρ vs) cu1 := by
      cases gLcL gg gt ge items (wipeE ρ vs) cu1 <;> rfl
    rw [e]
    exact q1
  · rintro i m H' ⟨G', cu', acc, accD, x', w', rfl, hle, hDd, rD, gD, hac, q⟩
    obtain ⟨wk1, wk2⟩ := wk c H' G' cu' x'.g w'
    by_cases hlt : i < items.length
    · obtain ⟨go, yl⟩ := wk1 i _ (List.getElem?_eq_getElem hlt)
      refine .inr ⟨go, fun H' => ∃ G' cu' acc accD, Ext c H1 G1 H' G' ∧ Wd K c H' G' cu' ∧ H' Dd = some (.lst acc) ∧ RpL K G' acc accD ∧ G' Dd = none ∧ accD.length ≤ i + 1 ∧
        Post K E c H1 G1 ((gLcL gg gt ge (items.drop (i + 1)) (wipeE ρ vs) cu').bind fun ys cu2 => .ok (accD ++ ys) cu2) (fun ds H' G' _ => ∀ a xs, Fre H a → H' a = some (.lst xs) → RpL K G' xs ds → G' a = none → Q (.ref a) H'),
        fun H2 h => ?_, fun x H2 y => ?_⟩
      · obtain ⟨G2, cu2, acc, accD, h1, h2, h3, h4, h5, h6, h7⟩ := h
        exact ⟨items.length - (i + 1), by omega, G2, cu2, acc, accD, h1, h2, rfl, hlt, h3, h4, h5, h6, h7⟩
      · obtain ⟨G2, x2, w2, rx⟩ := yl x H2 y
        have x12 := x'.trans x2
        have d2 : H2 Dd = some (.lst acc) := x2.h _ _ hDd nt_lst hc
        have g2 : G2 Dd = none := x2.n _ _ hDd nt_lst gD
        rw [List.drop_eq_getElem_cons hlt] at q
        have q : Post K E c H1 G1 (((Rs.ofO (gg items[i] (wipeE ρ vs)) cu').bind fun ρ1 cu1 => (gt ρ1 cu1).nox.bind fun b cu2 => if b = true then (ge ρ1 cu2).nox.bind fun y cu3 => (gLcL gg gt ge (items.drop (i + 1)) (wipeE ρ vs) cu3).bind fun ys cu4 => .ok (y :: ys) cu4 else gLcL gg gt ge (items.drop (i + 1)) (wipeE ρ vs) cu2).bind fun ys cu2 => .ok (accD ++ ys) cu2)
          (fun ds H' G' _ => ∀ a xs, Fre H a → H' a = some (.lst xs) → RpL K G' xs ds → G' a = none → Q (.ref a) H') := q
        cases eρ : gg items[i] (wipeE ρ vs) with
        | none => rw [eρ] at q; exact q.elim
        | some ρ1 =>
          rw [eρ] at q
          rw [show (Rs.ofO (some ρ1) cu' : Rs En) = .ok ρ1 cu' from rfl] at q
          have q : Post K E c H1 G1 (((gt ρ1 cu').nox.bind fun b cu2 => if b = true then (ge ρ1 cu2).nox.bind fun y cu3 => (gLcL gg gt ge (items.drop (i + 1)) (wipeE ρ vs) cu3).bind fun ys cu4 => .ok (y :: ys) cu4 else gLcL gg gt ge (items.drop (i + 1)) (wipeE ρ vs) cu2).bind fun ys cu2 => .ok (accD ++ ys) cu2)
            (fun ds H' G' _ => ∀ a xs, Fre H a → H' a = some (.lst xs) → RpL K G' xs ds → G' a = none → Q (.ref a) H') := q
          rw [Rs.bind_assoc] at q
          refine hg c H0 G0 (wipe σ vs) H2 G2 (wipeE ρ vs) cu' x items[i] ρ1 _ (s1.go x12 w2) rx eρ fun σ2 s2 l2 k2 => ⟨wipe_eq l2 k2 hw, ?_⟩
          refine ht c H0 G0 σ2 H2 G2 ρ1 cu' _ s2 (q.nox.imp fun k H3 G3 cu3 x3 w3 q3 => ?_)
          have x13 := x12.trans x3
          have d3 : H3 Dd = some (.lst acc) := x3.h _ _ d2 nt_lst hc
          have g3 : G3 Dd = none := x3.n _ _ d2 nt_lst g2
          cases k with
          | true =>
            rw [if_pos rfl] at q3 ⊢
            rw [Rs.bind_assoc] at q3
            refine he c H0 G0 σ2 H3 G3 ρ1 cu3 _ (s2.go x3 w3) (q3.nox.imp fun yd H4 G4 cu4 x4 w4 q4 v rv => ?_)
            have d4 : H4 Dd = some (.lst acc) := x4.h _ _ d3 nt_lst hc
            have g4 : G4 Dd = none := x4.n _ _ d3 nt_lst g3
            have r4 : RpL K G4 acc accD := rD.mono fun b o e => x4.g _ _ (x3.g _ _ (x2.g _ _ e))
            refine ⟨acc, d4, by rw [r4.length, sizeLine_eq]; omega, G4, cu4, acc ++ [v], accD ++ [yd], (x13.trans x4).updL (.of hD), w4.updL d4 g4 hc, upd_same, r4.app (.cons rv .nil), g4, by rw [List.length_append]; simp only [List.length_singleton]; omega, ?_⟩
            rw [Rs.bind_assoc] at q4
            have e : ((gLcL gg gt ge (items.drop (i + 1)) (wipeE ρ vs) cu4).bind fun ys cu2 => Rs.ok (accD ++ [yd] ++ ys) cu2) = ((gLcL gg gt ge (items.drop (i + 1)) (wipeE ρ vs) cu4).bind fun a cu => (Rs.ok (yd :: a) cu).bind fun ys cu2 => Rs.ok (accD ++ ys) cu2) := by
              cases gLcL gg gt ge (items.drop (i + 1)) (wipeE ρ vs) cu4 with
              | stuck => rfl
              | exc k cu => rfl
              | ok a cu =>
                show Rs.ok (accD ++ [yd] ++ a) cu = Rs.ok (accD ++ (yd :: a)) cu
                rw [List.append_assoc]
                rfl
            rw [e]
            exact q4
          | false =>
            rw [if_neg Bool.false_ne_true] at q3 ⊢
            exact ⟨G3, cu3, acc, accD, x13, w3, d3, rD.mono fun b o e => x3.g _ _ (x2.g _ _ e), g3, by omega, q3⟩
    · have e : i = items.length := by omega
      subst e
      rw [List.drop_length] at q
      have q := q H' G' x' w' Dd acc (x1.free (.of hD)) hDd (by rw [List.append_nil]; exact rD) gD
      exact .inl ⟨wk2, q⟩
/-! trees that only the function tells -/
def tOf (K : Kx) (E : XK) (g : GE) : TE := fun σ H Q => ∃ c H0 G0 G ρ cu, SRep K c H0 G0 σ H G ρ cu ∧ Post K E c H G (g ρ cu) (QD K Q)
def ttOf (K : Kx) (E : XK) (g : GT) : TT := fun σ H Q => ∃ c H0 G0 G ρ cu, SRep K c H0 G0 σ H G ρ cu ∧ Post K E c H G (g ρ cu) (fun b H' _ _ => Q b H')
def tgOf (K : Kx) (g : GG) (ws : List Nat) : TG := fun v σ H Q => ∃ c H0 G0 G ρ cu d ρ', SRep K c H0 G0 σ H G ρ cu ∧ Rp K G v d ∧ g d ρ = some ρ' ∧ ∀ σ', SRep K c H0 G0 σ' H G ρ' cu → σ'.length = σ.length → (∀ j : Nat, j ∉ ws → σ'[j]? = σ[j]?) → Q σ' H
theorem sem_of (K : Kx) (E : XK) (g : GE) : SemE K E (tOf K E g) g := fun c H0 G0 σ H G ρ cu Q s q => ⟨c, H0, G0, G, ρ, cu, s, q⟩
theorem semT_of (K : Kx) (E : XK) (g : GT) : SemT K E (ttOf K E g) g := fun c H0 G0 σ H G ρ cu Q s q => ⟨c, H0, G0, G, ρ, cu, s, q⟩
theorem semG_of (K : Kx) (g : GG) (ws : List Nat) : SemG K (tgOf K g ws) g ws := fun c H0 G0 σ H G ρ cu v d ρ' Q s r e q => ⟨c, H0, G0, G, ρ, cu, d, ρ', s, r, e, q⟩
theorem PD.canon {X : Cx} (h : PD X K E e te ge) : PE X e (tOf K E ge) := ⟨fun pins s σ H Q I ⟨c, H0, G0, G, ρ, cu, r, q⟩ => h.pe.run pins s σ H Q I (h.sem c H0 G0 σ H G ρ cu Q r q)⟩
theorem PTsD.canon {X : Cx} (h : PTsD X K E ifs tt gt) : PTs X ifs (ttOf K E gt) := ⟨fun pins s σ H Q I ⟨c, H0, G0, G, ρ, cu, r, q⟩ => h.pts.run pins s σ H Q I (h.sem c H0 G0 σ H G ρ cu Q r q)⟩
theorem PGD.canon {X : Cx} {t1 : TG} {gg : GG} {ws : List Nat} (h : PGD X K tg t1 gg ws) : PG X tg (tgOf K gg ws) := ⟨fun pins s σ H v u Q I rv ⟨c, H0, G0, G, ρ, cu, d, ρ', r, rd, e, q⟩ => h.pg.run pins s σ H v u Q I rv (h.sem c H0 G0 σ H G ρ cu v d ρ' Q r rd e q)⟩
theorem pf_lc {scope : Scope} {own : List (Str × Nat)} {wi : TI} {gi : GI} {gg : GG} {ws : List Nat} (hc : X.calm = true) (hN : X.N.Nodup) (hi : PID X K E tg iter wi gi) (ok : BlkOk X.N X.env.scope scope own)
    (hg : ∀ (s : Shared) (H : Hp) (C : Addr) (cl : List (Str × Addr)) (fp : List Addr), ∃ t1, PGD (X.blk s H scope (compEnvC scope cl C X.env) fp) K tg t1 gg ws)
    (ht : ∀ (s : Shared) (H : Hp) (C : Addr) (cl : List (Str × Addr)) (fp : List Addr), ∃ tt, PTsD (X.blk s H scope (compEnvC scope cl C X.env) fp) K E0 ifs tt gt)
    (he : ∀ (s : Shared) (H : Hp) (C : Addr) (cl : List (Str × Addr)) (fp : List Addr), ∃ te, PD (X.blk s H scope (compEnvC scope cl C X.env) fp) K E0 elt te ge)
    (hw : ∀ j ∈ ws, j ∈ own.map (·.2) := by decide) (hs : ∀ x, foldedSetIterable iter X.env x = pure x := by intro _; rfl) :
    PFD X K E (.ListComp elt [⟨tg, iter, ifs, 0⟩] scope pos) (tLc wi (tgOf K gg ws) (ttOf K E0 gt) (tOf K E0 ge) (own.map (·.2))) (gLc gi (own.map (·.2)) gg gt ge) :=
  ⟨pe_lc hc hN hi.pi ok (fun s H C cl fp => let ⟨_, h⟩ := hg s H C cl fp; h.canon) (fun s H C cl fp => let ⟨_, h⟩ := ht s H C cl fp; h.canon) (fun s H C cl fp => let ⟨_, h⟩ := he s H C cl fp; h.canon) hs,
    sem_lc hi.sem (semG_of K gg ws) hw (semT_of K E0 gt) (sem_of K E0 ge)⟩
/-- name = [..]: known from now on -/
theorem SemF.set {i : Nat} {t : TE} {g : GI} (h : SemF K E t g) : SemS K E (tAsg t (gName i)) (gSet i (gL g)) := by
  intro c H0 G0 σ H G ρ cu D s q
  exact h.toE c H0 G0 σ H G ρ cu _ s ((q.exp s).imp fun d H1 G1 cu1 x1 w1 q1 v rv => q1 _ H1 G1 ((s.go x1 w1).set rv))
theorem psd_lcSet {i : Nat} {y : Str} {py spos : Pos} {scope : Scope} {own : List (Str × Nat)} {wi : TI} {gi : GI} {gg : GG} {ws : List Nat} (hc : X.calm = true) (hN : X.N.Nodup) (hy : X.N[i]? = some y) (hyl : X.env.scope.names.lookup y = some .local)
    (hsw : swapsWith (.ListComp elt [⟨tg, iter, ifs, 0⟩] scope pos) (some (.Name y py)) spos.line X.env = pure true) (hi : PID X K E tg iter wi gi) (ok : BlkOk X.N X.env.scope scope own)
    (hg : ∀ (s : Shared) (H : Hp) (C : Addr) (cl : List (Str × Addr)) (fp : List Addr), ∃ t1, PGD (X.blk s H scope (compEnvC scope cl C X.env) fp) K tg t1 gg ws)
    (ht : ∀ (s : Shared) (H : Hp) (C : Addr) (cl : List (Str × Addr)) (fp : List Addr), ∃ tt, PTsD (X.blk s H scope (compEnvC scope cl C X.env) fp) K E0 ifs tt gt)
    (he : ∀ (s : Shared) (H : Hp) (C : Addr) (cl : List (Str × Addr)) (fp : List Addr), ∃ te, PD (X.blk s H scope (compEnvC scope cl C X.env) fp) K E0 elt te ge)
    (hw : ∀ j ∈ ws, j ∈ own.map (·.2) := by decide) (hs : ∀ x, foldedSetIterable iter X.env x = pure x := by intro _; rfl) :
    PSD X K E (.Assign [.Name y py] (.ListComp elt [⟨tg, iter, ifs, 0⟩] scope pos) spos) (tAsg (tLc wi (tgOf K gg ws) (ttOf K E0 gt) (tOf K E0 ge) (own.map (·.2))) (gName i)) (gSet i (gL (gLc gi (own.map (·.2)) gg gt ge))) :=
  ⟨ps_setLc hc hN hy hyl hsw hi.pi ok (fun s H C cl fp => let ⟨_, h⟩ := hg s H C cl fp; h.canon) (fun s H C cl fp => let ⟨_, h⟩ := ht s H C cl fp; h.canon) (fun s H C cl fp => let ⟨_, h⟩ := he s H C cl fp; h.canon) hs,
    SemF.set (sem_lc hi.sem (semG_of K gg ws) hw (semT_of K E0 gt) (sem_of K E0 ge))⟩
end
/-! ### a def -/
def gFn (n : Nat) (g : GS) : GF := fun as cu => (g (as ++ List.replicate (n - as.length) .un) cu).bind fun o cu1 => match o with
  | .ret d => .ok d cu1
  | .nx _ => .ok .none cu1
  | _ => .stuck
theorem rep_start {K : Kx} {c : Option Addr} {H G : Hp} {N : List Str} {vs : List V} {as : List Sl} (r : ArgRp K c G vs as) : Rep K c H (L2.start N vs) H G (as ++ List.replicate (N.length - as.length) .un) := by
  have hl := r.length
  have un : ∀ (i : Nat) (s : Sl), s ≠ .un → (as ++ List.replicate (N.length - as.length) Sl.un)[i]? = some s → as[i]? = some s ∧ i < as.length := fun i s hs e => by
    by_cases hi : i < as.length
    · rw [List.getElem?_append_left hi] at e; exact ⟨e, hi⟩
    · rw [List.getElem?_append_right (by omega), List.getElem?_replicate] at e
      split at e
      · cases e; exact (hs rfl).elim
      · cases e
  have at_ : ∀ (i : Nat) (v : V), vs[i]? = some v → (L2.start N vs)[i]? = some (some v) := fun i v e => by
    have hi := (List.getElem?_eq_some_iff.mp e).1
    unfold L2.start
    rw [List.getElem?_append_left (by rw [List.length_map]; exact hi), List.getElem?_map, e]
    rfl
  have get : ∀ {vs : List V} {as : List Sl}, ArgRp K c G vs as → ∀ (i : Nat) (s : Sl), as[i]? = some s → (∃ v d, vs[i]? = some v ∧ s = .dat d ∧ Rp K G v d) ∨ (∃ a, s = .cup ∧ c = some a ∧ vs[i]? = some (V.ref a)) := by
    intro vs as r
    induction r with
    | nil => intro i s e; simp at e
    | @dat v vs d as h _ ih =>
      intro i s e
      cases i with
      | zero => simp at e; subst e; exact .inl ⟨v, d, rfl, rfl, h⟩
      | succ i => simpa using ih i s (by simpa using e)
    | @cup a vs as h _ ih =>
      intro i s e
      cases i with
      | zero => simp at e; subst e; exact .inr ⟨a, rfl, h, rfl⟩
      | succ i => simpa using ih i s (by simpa using e)
  refine ⟨?_, fun i d e => ?_, fun i e => ?_, fun _ => 0, fun i ds e => ?_, fun i j ds es e1 _ => ?_⟩
  · unfold L2.start
    rw [List.length_append, List.length_append, List.length_replicate, List.length_replicate, List.length_map, hl]
  · obtain ⟨e, _⟩ := un i (Sl.dat d) (fun z => nomatch z) e
    rcases get r i _ e with ⟨v, d', e1, e2, r1⟩ | ⟨a, e1, _⟩
    · cases e2; exact ⟨v, at_ i v e1, r1⟩
    · cases e1
  · obtain ⟨e, _⟩ := un i Sl.cup (fun z => nomatch z) e
    rcases get r i _ e with ⟨v, d', e1, e2, r1⟩ | ⟨a, e1, e2, e3⟩
    · cases e2
    · exact ⟨a, e2, at_ i _ e3⟩
  · obtain ⟨e, _⟩ := un i (Sl.own ds) (fun z => nomatch z) e
    rcases get r i _ e with ⟨v, d', e1, e2, r1⟩ | ⟨a, e1, e2, e3⟩
    · cases e2
    · cases e1
  · obtain ⟨e, _⟩ := un i (Sl.own ds) (fun z => nomatch z) e1
    rcases get r i _ e with ⟨v, d', e1, e2, r1⟩ | ⟨a, e1, e2, e3⟩
    · cases e2
    · cases e1
theorem ok_def {P : Program} {w : World} {F : PySem.W.Frag} {mg : Str → Option Value} {base : Heap} {K : Kx} {x qual : Str} {st : Stmt} {f : Addr} {fd : FuncData} {N ps : List Str} {k : Nat} {g : GS} (Fn : Fun F x qual st f fd) (S : FnScope N ps (defScope st))
    (hbody : ∀ (cdv : Value) (A : Around) (outer : List Env) (s : Shared) (H : Hp) (E : XK), Room k (A.deeper (envOfC qual (defScope st) s.heap.objs.size f cdv)) →
      ∃ t, PSsD (cxOf (L2.CX P w) P w F mg base N qual (defScope st) f cdv A outer s H E) K E (defBody st) t g) :
    FnOk P w F mg base (L2.CX P w) (k + 1) f fd ps (spG K ps.length (gFn N.length g)) := by
  refine Fn.okX S (fun vs H Q E h => ?_) (fun cdv A outer s H vs Q E hr h => ?_)
  · obtain ⟨c, G, as, cu, h1, _, h3, _⟩ := h
    rw [h3.length, h1]
  · obtain ⟨c, G, as, cu, h1, wd, h3, q⟩ := h
    obtain ⟨t, ht⟩ := hbody cdv A outer s H E hr
    refine ⟨t, ht.ps, ht.sem c H G (L2.start N vs) H G _ cu _ ⟨wd, Ext.refl, rep_start h3⟩ ?_⟩
    unfold gFn at q
    cases hg : g (as ++ List.replicate (N.length - as.length) .un) cu with
    | stuck => rw [hg] at q; exact q
    | exc k cu1 => rw [hg] at q; exact q
    | ok o cu1 =>
      rw [hg] at q
      cases o with
      | nx ρ' => exact fun σ' H' G' s' => q H' G' s'.ext s'.wd _ .non
      | ret d => exact fun v H' G' x w r => q H' G' x w v r
      | brk ρ' => exact q.elim
      | ct ρ' => exact q.elim
end DL

set_option Elab.async false
set_option linter.all false
set_option maxRecDepth 100000
set_option autoImplicit false
namespace DL
open PySem PySem.Spec PyProof.Rows L2
theorem bb_abs : bootBuiltins "abs" = some (.builtin "abs") := by decide +kernel
theorem bb_len : bootBuiltins "len" = some (.builtin "len") := by decide +kernel
theorem bb_min : bootBuiltins "min" = some (.builtin "min") := by decide +kernel
theorem bb_max : bootBuiltins "max" = some (.builtin "max") := by decide +kernel
theorem bb_sum : bootBuiltins "sum" = some (.builtin "sum") := by decide +kernel
theorem bb_all : bootBuiltins "all" = some (.builtin "all") := by decide +kernel
theorem bb_int : bootBuiltins "int" = some (.type "int") := by decide +kernel
theorem bb_bool : bootBuiltins "bool" = some (.type "bool") := by decide +kernel
theorem bb_str : bootBuiltins "str" = some (.type "str") := by decide +kernel
theorem bb_tuple : bootBuiltins "tuple" = some (.type "tuple") := by decide +kernel
theorem bb_list : bootBuiltins "list" = some (.type "list") := by decide +kernel
/-- a def of the text that keeps g -/
def DefOk (P : Program) (w : World) (F : PySem.W.Frag) (mg : Str → Option Value) (base : Heap) (K : Kx) (x : Str) (k n : Nat) (g : GF) : Prop :=
  ∃ (f : Addr) (fd : FuncData) (ps : List Str), FnOk P w F mg base (L2.CX P w) k f fd ps (spG K n g) ∧ mg x = some (.ref f) ∧ PySem.W.keepIn F (.ref f) = true ∧ Binds F fd ps []
theorem pd_callD {X : Cx} {K : Kx} {E : XK} {e : Expr} {es : List Expr} {t : TA} {g : GA} {pos p : Pos} {k n : Nat} {x : Str} {gf : GF} (D : DefOk X.prog X.w X.K X.mg X.base K x k n gf) (hr : Room k X.A) (hg : Gl X x) (hx : Passes (L2.CX X.prog X.w) X E) (ha : PAD X K E (e :: es) t g)
    (hdb : (x == ("__debug__" : Str)) = false := by decide) (he : starEach (e :: es) X.env = (false, eval e X.env) :: starEach es X.env := by rfl) (hpl : (backTo pos (starEach es X.env)).any (·.1) = false := by rfl) :
    PD X K E (.Call (.Name x p) (e :: es) [] pos) (tCall (spG K n gf) [] E t) (gApp n gf g) := by
  obtain ⟨f, fd, ps, F, hm, hk, hb⟩ := D
  exact pd_call F hr hg hm hk hb hx ha hdb he hpl
theorem pd_callD0 {X : Cx} {K : Kx} {E : XK} {pos p : Pos} {k : Nat} {x : Str} {gf : GF} (D : DefOk X.prog X.w X.K X.mg X.base K x k 0 gf) (hr : Room k X.A) (hg : Gl X x) (hx : Passes (L2.CX X.prog X.w) X E) (hdb : (x == ("__debug__" : Str)) = false := by decide) :
    PD X K E (.Call (.Name x p) [] [] pos) (tCall (spG K 0 gf) [] E tNil) (fun _ cu => gf [] cu) := by
  obtain ⟨f, fd, ps, F, hm, hk, hb⟩ := D
  exact pd_call0 F hr hg hm hk hb hx hdb
end DL

set_option Elab.async false
set_option linter.all false
set_option maxRecDepth 100000
set_option autoImplicit false
namespace DL
open PySem PySem.Spec PyProof.Rows L2
/-! ### f(lambda: e), f a def that tells which error e raises -/
def TTerr (K : Kx) (ok : Nat → Bool) (txt : Nat → Str) : (XK → Hp → VK → Prop) → Hp → VK → Prop := fun tl H Q =>
  tl (fun cls _ H' => ∃ k, cls = .ref (K.CL k) ∧ ok k = true ∧ Q (.str (txt k)) H') H (fun _ H' => Q (.str "") H')
def gLam (ok : Nat → Bool) (txt : Nat → Str) (g : GE) : GE := fun ρ cu => match g ρ cu with
  | .stuck => .stuck
  | .exc k cu' => if ok k = true then .ok (.str (txt k)) cu' else .stuck
  | .ok _ cu' => .ok (.str "") cu'
theorem gives_err {X : Cx} {K : Kx} {ok : Nat → Bool} {txt : Nat → Str} {Ng : List Str} {x a q : Str} {sg : Scope} {g : Addr} {cdg : Value} {h₀ : ExceptHandler} {hds : List ExceptHandler} {l : List (Value × (Addr → Value → Option Addr → TS))} {j : Nat} {p1 p2 p3 p4 p5 p6 : Pos}
    (hh : ∀ (s : Shared) (H : Hp), HdsOk (cxOf C8.CX0 X.prog X.w X.K X.mg X.base Ng x sg g cdg X.A X.stack s H C8.E0).nox (h₀ :: hds) l)
    (hl : ∀ (k : Nat) (d : Option Addr) (D : Ends) (σ : L2.St) (H : Hp), ok k = true → D.rt (.str (txt k)) H → wMany X.K (fun _ _ _ _ => False) D l (.ref (K.CL k)) d σ H)
    (h0 : ∀ f : Addr, (L2.start Ng [V.ref f])[0]? = some (some (V.ref f)))
    (hsw : ∀ (Y : Cx), swapsWith (.Call (.Name a p1) [] [] p2) none p3.line Y.env = pure false := by intro _; rfl) :
    LamX.GivesTo X Ng x sg g cdg [.Try [.Expr (.Call (.Name a p1) [] [] p2) p3] (h₀ :: hds) [] [] p4, .Return (some (.Constant (.str "") j p5)) p6] a q (TTerr K ok txt) := by
  intro f c' s H Q tl act hc h
  refine ⟨_, pss_cons (ps_try_many (X := (cxOf C8.CX0 X.prog X.w X.K X.mg X.base Ng x sg g cdg X.A X.stack s H C8.E0).nox) (Wout := fun _ _ _ _ => False)
      (tb := fun W D σ H => ∃ Ech : XK, (∀ cls d σ' H', Ech cls d H' → W cls d σ' H') ∧ σ[0]? = some (some (.ref f)) ∧ H c' = some (LamX.CodeO c' q) ∧ tl Ech H (fun _ H' => D.nx σ H'))
      rfl rfl LamX.takes0 (fun W pn xe tk _ => ?_) (hh s H)) (pss_one (ps_ret pe_str)), ?_⟩
  · refine ⟨fun pins s' σ H' D I h' => ?_⟩
    obtain ⟨Ech, hW, h1, h2, h3⟩ := h'
    have hp := act W pn xe Ech p1 p2 tk hW
    have hq := pss_one (ps_expr (pos := p3) hp (hsw _))
    exact hq.run pins s' σ H' D I ⟨h1, h2, h3⟩
  · exact ⟨fun cls _ H' => ∃ k, cls = .ref (K.CL k) ∧ ok k = true ∧ Q (.str (txt k)) H', fun cls d σ' H' ⟨k, e1, e2, e3⟩ => by subst e1; exact hl k d _ σ' H' e2 e3, h0 f, hc, h⟩
section
variable {X : Cx} {K : Kx} {E : XK}
theorem pd_lamErr {ok : Nat → Bool} {txt : Nat → Str} {x a : Str} {g c P : Addr} {k : Nat} {pg : Arguments} {bg : List Stmt} {sg : Scope} {dV kV doc pm cdv ct oc : Value} {an od : Option Addr} {osl : Array (Option Value)} {Ng : List Str}
    {params : Arguments} {body : Expr} {scope : Scope} {gb : GE} {p lpos pos : Pos} (hg : Gl X x) (hm : X.mg x = some (.ref g)) (hk : PySem.W.keepIn X.K (.ref g) = true)
    (lk : X.K.lookup g = some ⟨oc, od, .func (PySem.W.fnOf x x pg bg sg dV kV doc pm an cdv ct), osl⟩) (hcg : PySem.W.codeIn X.K cdv x = true) (hb : L2.Binds X.K (PySem.W.fnOf x x pg bg sg dV kV doc pm an cdv ct) [a] []) (Sg : FnScope Ng [a] sg) (hNg : Ng[0]? = some a) (hva : Vis sg a)
    (hG : LamX.GivesTo X Ng x sg g cdv bg a (X.env.qual ++ "<lambda>") (TTerr K ok txt))
    (TB : LamX.TabB X.base X.mg c P) (hcode : X.env.code = .ref c) (hmT : (P, X.env.qual ++ "<lambda>") ∈ K.T) (hu : ∀ p ∈ K.T, p.1 = P → p.2 = X.env.qual ++ "<lambda>") (hr : Room (k + 2) X.A) (L : LamX.LamS X.env.scope scope) (hdef : defaultsOf params X.env = ([], []))
    (hbind : ∀ (q : Str) (cl : List (Str × Addr)) (pm cv ctv : Value), bindArgs (PySem.W.kla_fn "<lambda>" q params body scope cl pm cv ctv) ⟨[], []⟩ = pure [])
    (hbody : ∀ (A : Around) (outer : List Env) (s : Shared) (H : Hp) (E : XK) (f c' : Addr), Room k (A.deeper (LamX.lamEnv X scope s.heap.objs.size f c')) → ∃ t, PD (LamX.lamCx X A outer s H E scope f c') K E body t gb)
    (hdb : (x == ("__debug__" : Str)) = false := by decide) (hd : (a == ("__debug__" : Str)) = false := by decide) (hcd : (a == ("__classdict__" : Str)) = false := by decide) :
    PD X K E (.Call (.Name x p) [.Lambda params body scope lpos] [] pos) (LamX.tLam K.T (TTerr K ok txt) (fun E' => tOf K E' gb)) (gLam ok txt gb) := by
  refine ⟨LamX.pe_lamcall hg hm hk lk hcg hb Sg hNg hva hG TB hcode hmT hu hr L hdef hbind (fun A outer s H E' f c' hr' => let ⟨_, h⟩ := hbody A outer s H E' f c' hr'; h.canon) hdb hd hcd, fun c0 H0 G0 σ H G ρ cu Q s q => ⟨s.wd.tab, fun H1 eN T1 => ?_⟩⟩
  have x1 : Ext c0 H G H1 G := ⟨fun b o e n _ => eN b o e n, fun b o e n => ⟨o, eN b o e n, n⟩, fun _ _ e => e, fun _ _ _ _ e => e⟩
  · have w1 : Wd K c0 H1 G cu := by
      refine ⟨fun b o e => eN b o (s.wd.sub _ _ e) fun ps z => s.wd.nt b ps (by rw [← z]; exact e), T1, s.wd.nt, fun a ha => ?_⟩
      · obtain ⟨h1, h2⟩ := s.wd.cup a ha
        exact ⟨eN _ _ h1 (fun ps z => by cases z), h2⟩
    refine ⟨c0, H0, G0, G, ρ, cu, s.go x1 w1, ?_⟩
    unfold gLam at q
    cases hgb : gb ρ cu with
    | stuck => rw [hgb] at q; exact q
    | exc k cu' =>
      rw [hgb] at q
      dsimp only at q
      split at q
      · rename_i hk
        exact fun H' G' x w d _ => ⟨k, rfl, hk, q H' G' (x1.trans x) w _ (.str _)⟩
      · exact q.elim
    | ok d cu' =>
      rw [hgb] at q
      exact fun H' G' x w v _ => q H' G' (x1.trans x) w _ (.str _)
end
end DL

set_option Elab.async false
set_option linter.all false
set_option maxRecDepth 100000
set_option maxHeartbeats 2000000
set_option autoImplicit false
namespace DL
open PySem PySem.Spec PyProof.Rows L2
/-! ### all(f(x) for x in a tuple), f a def that tells whether its argument is an integer -/
/-- what isinstance asks of a value, lasting -/
def KitD (F : PySem.W.Frag) (v : Value) (d : PyData) (P : Addr) (h : Heap) : Prop :=
  ∃ (n : String) (Pz : Heap → Prop), tyName d = some n ∧ PySem.W.KitX F v (.type n) Pz ∧ Pz h ∧ v ≠ .builtin "__main__.__loader__#opaque" ∧ ∀ h' : Heap, (∀ b o, b ≠ P → h.get? b = some o → h'.get? b = some o) → Pz h'
theorem KitD.keep {F : PySem.W.Frag} {v : Value} {d : PyData} {P : Addr} {h h' : Heap} (k : KitD F v d P h) (e : ∀ b o, b ≠ P → h.get? b = some o → h'.get? b = some o) : KitD F v d P h' := by
  obtain ⟨n, Pz, h1, h2, h3, h4, h5⟩ := k
  exact ⟨n, Pz, h1, h2, h5 h' e, h4, fun h'' e' => h5 h'' fun b o nb z => e' b o nb (e b o nb z)⟩
theorem kitD_of {X : Cx} {K : Kx} (hKF : K.F = X.K) {pins : List (Addr × Obj)} {σ : L2.St} {H : Hp} {s : Shared} {x : V} {u : Value} {d : PyData} {P : Addr} {tb : Array Value} (I : Inv X pins σ H s) (rv : RelV x u) (r : Rp K H x d) (hP : H P = some (.tbl tb)) : KitD X.K u d P s.heap := by
  cases r with
  | non => cases (show u = Value.none from rv); exact ⟨_, _, rfl, PySem.W.kitx_none, trivial, (fun z => nomatch z), fun _ _ => trivial⟩
  | bl y => cases (show u = Value.bool y from rv); exact ⟨_, _, rfl, PySem.W.kitx_bool, trivial, (fun z => nomatch z), fun _ _ => trivial⟩
  | int i => obtain ⟨t, q⟩ := (show ∃ t, u = Value.int i t from rv); cases q; exact ⟨_, _, rfl, PySem.W.kitx_int, trivial, (fun z => nomatch z), fun _ _ => trivial⟩
  | str y => obtain ⟨t, q⟩ := (show ∃ t, u = Value.str y t from rv); cases q; exact ⟨_, _, rfl, PySem.W.kitx_str, trivial, (fun z => nomatch z), fun _ _ => trivial⟩
  | @lst a xs ds ea _ =>
    cases (show u = Value.ref a from rv)
    obtain ⟨_, _, n, _, h1⟩ := (show ObjOk X.prog X.w H s.heap a (.lst xs) from I.hok a _ ea)
    exact ⟨_, _, rfl, PySem.W.kitx_list, ⟨_, h1, rfl⟩, (fun z => nomatch z), fun h' e => ⟨_, e _ _ (fun z => by rw [z, hP] at ea; cases ea) h1, rfl⟩⟩
  | @dic a ps ea _ =>
    cases (show u = Value.ref a from rv)
    obtain ⟨_, _, vs, _, o, es, ep, h1, h2, _⟩ := (show ObjOk X.prog X.w H s.heap a (.dK (kvD ps)) from I.hok a _ ea)
    exact ⟨_, _, rfl, PySem.W.kitx_dict, ⟨o, h1, h2.1⟩, (fun z => nomatch z), fun h' e => ⟨o, e _ _ (fun z => by rw [z, hP] at ea; cases ea) h1, h2.1⟩⟩
  | @tupA a xs ds ea _ =>
    cases (show u = Value.ref a from rv)
    rcases ea with ea | ⟨o, its, n, hk, hc, _⟩
    case inr =>
      have h1 := I.kIn a o (hKF ▸ hk) 
      have hP1 : s.heap.get? P = some { cls := .none, data := .fields tb } := I.hok P _ hP
      exact ⟨_, _, rfl, PySem.W.kitx_tuple, ⟨o, h1, hc⟩, (fun z => nomatch z), fun h' e => ⟨o, e _ _ (fun z => by rw [z, hP1] at h1; cases h1; cases hc) h1, hc⟩⟩
    obtain ⟨_, _, _, o, h1, h2, _⟩ := (show ObjOk X.prog X.w H s.heap a (.tup xs) from I.hok a _ ea)
    exact ⟨_, _, rfl, PySem.W.kitx_tuple, ⟨o, h1, h2⟩, (fun z => nomatch z), fun h' e => ⟨o, e _ _ (fun z => by rw [z, hP] at ea; cases ea) h1, h2⟩⟩
def isIntD : PyData → Bool
  | .int _ => true
  | _ => false
def isIB : PyData → Bool
  | .int _ => true
  | .bool _ => true
  | _ => false
def isBD : PyData → Bool
  | .bool _ => true
  | _ => false
theorem Keeps.trans' {a b c : Shared} (x : Keeps a b) (y : Keeps b c) : Keeps a c := by
  obtain ⟨h1, t1, rfl, k1⟩ := x
  obtain ⟨h2, t2, rfl, k2⟩ := y
  exact ⟨h2, t2, rfl, fun b o e => k2 b o (k1 b o e)⟩
/-- the text of such a def -/
def isIntBody (q1 q2 q3 q4 q5 q6 q7 q8 q9 q10 q11 : Pos) : List Stmt :=
  [.Return (some (.BoolOp .And [.Call (.Name "isinstance" q1) [.Name "value" q2, .Name "int" q3] [] q4, .UnaryOp .Not (.Call (.Name "isinstance" q5) [.Name "value" q6, .Name "bool" q7] [] q8) q9] q10)) q11]
section
variable {prog : Program} {w : World} {F : PySem.W.Frag} {mg mb : Str → Option Value} {base : Heap}
structure BaseOk (F : PySem.W.Frag) (mg mb : Str → Option Value) (base : Heap) : Prop where
  kin : F.In base
  glob : base.Ns mainGlobals mg
  blt : base.Ns builtinsNs mb
  bb : ∀ x : Str, x ≠ "__name__" → mb x = bootBuiltins x
  lim : base.NoLimit
/-- isinstance(value, T) in a frame of such a def -/
theorem isi_raw {A : Around} {E : Value → Shared → Prop} {Q : Value → Shared → Prop} {env : Env} {T : Str} {tn : String} {p1 p2 p3 p4 : Pos} {s : Shared} {m : Str → Option Value} {v : Value} {d : PyData} {P : Addr} {r : Bool} (B : BaseOk F mg mb base) (hk : env.scope.kind = .function) (hg1 : env.kindOf "isinstance" = some .globalImplicit) (hgT : env.kindOf T = some .globalImplicit) (hl : env.kindOf "value" = some .local)
    (eg : env.globals = mainGlobals) (eb : env.builtins = builtinsNs) (m1 : mg "isinstance" = none) (m2 : mg T = none) (hT : bootBuiltins T = some (.type tn)) (nT : T ≠ "__name__") (dT : (T == ("__debug__" : Str)) = false)
    (kp : ∀ b o, base.get? b = some o → s.heap.get? b = some o) (hn : s.heap.Ns env.locals m) (hv : m "value" = some v) (kd : KitD F v d P s.heap) (hr : isiOf tn d = some r) (hQ : ∀ s', Keeps s s' → Q (.bool r) s') :
    wpAny (model prog w) A (eval (.Call (.Name "isinstance" p1) [.Name "value" p2, .Name T p3] [] p4) env) Q E s := by
  refine wpAny_Call_Name_kw (Calls.Name_function_global hk hg1 (Calls.loadGlobal_builtin (by rw [eg]; exact B.glob.keeps kp) m1 (by rw [eb]; exact B.blt.keeps kp) ((B.bb _ (by decide)).trans (show bootBuiltins "isinstance" = some (.builtin "isinstance") from by decide +kernel)) ?_) (by decide))
  refine PyProof.Rows.callWith_builtin1 ?_ (by rfl) (by rfl)
  show wpAny _ _ (spliced ((false, eval (.Name "value" p2) env) :: (false, eval (.Name T p3) env) :: [])) _ _ s
  refine Calls.spliced_cons (wpAny_Name (wpAny_loadName_local hk hl hn hv ?_) (by decide))
  refine Calls.spliced_cons (Calls.Name_function_global hk hgT (Calls.loadGlobal_builtin (by rw [eg]; exact B.glob.keeps kp) m2 (by rw [eb]; exact B.blt.keeps kp) ((B.bb _ nT).trans hT) ?_) dT)
  refine Calls.spliced_nil ?_
  obtain ⟨n, Pz, e1, Z, p, hx, _⟩ := kd
  unfold isiOf at hr
  rw [e1] at hr
  exact PySem.W.kia_one Z (B.kin.keeps kp) p (kit_ty hr) hx fun tk => hQ _ ⟨s.heap, tk, rfl, fun _ _ e => e⟩
theorem isInt_call {f : Addr} {x : Str} {params : Arguments} {sc : Scope} {dV kV doc pm cdv ct oc : Value} {an od : Option Addr} {osl : Array (Option Value)} {q1 q2 q3 q4 q5 q6 q7 q8 q9 q10 q11 : Pos} {A : Around} {R : Result → Shared → Prop} {s : Shared} {v : Value} {d : PyData} {P : Addr}
    (B : BaseOk F mg mb base) (lk : F.lookup f = some ⟨oc, od, .func (PySem.W.fnOf x x params (isIntBody q1 q2 q3 q4 q5 q6 q7 q8 q9 q10 q11) sc dV kV doc pm an cdv ct), osl⟩) (hcd : PySem.W.codeIn F cdv x = true)
    (m1 : mg "isinstance" = none) (m2 : mg "int" = none) (m3 : mg "bool" = none) (hb : BindsTo s (PySem.W.fnOf x x params (isIntBody q1 q2 q3 q4 q5 q6 q7 q8 q9 q10 q11) sc dV kV doc pm an cdv ct) ⟨[v], []⟩ [("value", v)])
    (hsc : sc = { kind := .function, names := [("value", .local), ("isinstance", .globalImplicit), ("int", .globalImplicit), ("bool", .globalImplicit)], isGenerator := false, isCoroutine := false })
    (hd : A.depth < recursionLimit) (kp : ∀ b o, base.get? b = some o → s.heap.get? b = some o) (kd : KitD F v d P s.heap) (hR : ∀ s', Keeps s s' → R (.ok (.ret (.bool (isIntD d)))) s') :
    codeAny (model prog w) A (.call (.ref f) ⟨[v], []⟩) R s := by
  subst hsc
  refine Att.call_fn (K := F) (B.kin.keeps kp) (B.lim.keeps kp) lk hcd hd hb rfl (fun s₁ IC => ?_) rfl rfl rfl
  obtain ⟨h₁, tk₁, rfl, k⟩ := IC.done
  have hn := IC.toInCall.ns
  have k0 : Keeps s { s with heap := h₁, toks := tk₁ } := ⟨h₁, tk₁, rfl, k⟩
  have kp1 : ∀ b o, base.get? b = some o → h₁.get? b = some o := fun b o e => k b o (kp b o e)
  have kd1 := kd.keep fun b o _ e => k b o e
  obtain ⟨n, Pz, e1, _⟩ := id kd
  have i1 : isiOf "int" d = some (isIB d) := by
    cases d <;> first | rfl | (cases e1)
  have i2 : isiOf "bool" d = some (isBD d) := by
    cases d <;> first | rfl | (cases e1)
  show wpAny _ _ (execs _ _) _ _ _
  refine wpAny_execs_cons (wpAny_Return_some (BoolOp_and ?_))
  refine isi_raw (s := { s with heap := h₁, toks := tk₁ }) (v := v) B rfl rfl rfl rfl rfl rfl m1 m2 (tn := "int") (by decide +kernel) (by decide) (by decide) kp1 hn (by first | rfl | with_unfolding_all rfl) kd1 i1 fun s2 k2 => ?_
  refine wpAny_truthy_bool ?_
  cases hd : isIB d with
  | false =>
    refine ite_ff ?_
    have e : isIntD d = false := by cases d <;> first | rfl | (cases hd)
    have z := hR s2 (Keeps.trans' k0 k2)
    rw [e] at z
    exact z
  | true =>
    refine ite_tt (BoolOp_one (UnaryOp_ ?_))
    obtain ⟨h2, t2, rfl, k2'⟩ := k2
    refine isi_raw (s := { s with heap := h2, toks := t2 }) (v := v) B rfl rfl rfl rfl rfl rfl m1 m3 (tn := "bool") (by decide +kernel) (by decide) (by decide) (fun b o e => k2' b o (kp1 b o e)) (hn.keeps k2') (by first | rfl | with_unfolding_all rfl) (kd1.keep fun b o _ e => k2' b o e) i2 fun s3 k3 => ?_
    refine PyProof.Rows.not_of (wpAny_truthy_bool ?_)
    have e : isIntD d = !(isBD d) := by cases d <;> first | rfl | (cases hd)
    have z := hR s3 (Keeps.trans' k0 (Keeps.trans' ⟨h2, t2, rfl, k2'⟩ k3))
    rw [e] at z
    exact z
end
end DL

set_option Elab.async false
set_option linter.all false
set_option maxRecDepth 100000
set_option maxHeartbeats 2000000
set_option autoImplicit false
namespace DL
open PySem PySem.Spec PyProof.Rows L2
section
variable {X : Cx} {pins : List (Addr × Obj)} {σ : L2.St} {H : Hp} {s : Shared}
theorem inv_gens {h' : Heap} {g' : Array GenState} {d' : Drawn} {t' : Nat} (I : Inv X pins σ H s) (k : ∀ b o, s.heap.get? b = some o → h'.get? b = some o) (hg : AllBare g') : Inv X pins σ H { s with heap := h', gens := g', drawn := d', toks := t' } :=
  I.step (g' := g') (d' := d') (ch := []) (fun b hb => absurd hb (by simp)) (fun b o _ _ _ e n => k b o e) (fun b o _ _ _ e n => ⟨o.slots, k b o e⟩) (fun b o _ e n => n) (fun b o _ e => ⟨o, k b o e⟩) (fun b xs e => e) (fun b o u e => e) (fun b qs e => ⟨#[], by simp [e]⟩)
    (fun m hn => let ⟨ob, es, ep, ho, r⟩ := hn; ⟨ob, es, ep, k _ ob ho, r⟩) (fun b u e => (I.hok b u e).stay (fun d v _ q => k d v q) (fun d q => q) fun d xs q => q) hg
theorem inv_table' {P c : Addr} {q : Str} {ps more : Array Value} {h' : Heap} {g' : Array GenState} {d' : Drawn} {t' : Nat} (I : Inv X pins σ H s) (hP : H P = some (.tbl ps)) (k : ∀ b o, b ≠ P → s.heap.get? b = some o → h'.get? b = some o)
    (hm : h'.get? P = some { cls := .none, data := .fields (ps ++ more) }) (hc : s.heap.objs.size ≤ c) (ho : ∃ (oc : Obj) (vs : Array Value) (t : Tok), h'.get? c = some oc ∧ oc.data = .fields vs ∧ vs[1]? = some (.str q t)) (hg : AllBare g') :
    Inv X pins σ (upd (upd H P (.tbl (ps ++ more))) c (LamX.CodeO c q)) { s with heap := h', gens := g', drawn := d', toks := t' } := by
  have nC : H c = none := I.hok.fresh hc
  have nPc : P ≠ c := ne_of_none hP nC
  have at_ : ∀ b, b ≠ P → b ≠ c → upd (upd H P (.tbl (ps ++ more))) c (LamX.CodeO c q) b = H b := fun b h1 h2 => by rw [upd_ne h2, upd_ne h1]
  have atP : upd (upd H P (.tbl (ps ++ more))) c (LamX.CodeO c q) P = some (.tbl (ps ++ more)) := by rw [upd_ne nPc, upd_same]
  have nP : ∀ b u, H b = some u → (∀ q, u ≠ .tbl q) → b ≠ P := fun b u e q z => by
    rw [z, hP] at e
    exact q ps (Option.some.inj e).symm
  have nN : ∀ b, H b = none → b ≠ P := fun b e z => by
    rw [z, hP] at e
    cases e
  have lt' : ∀ b o, s.heap.get? b = some o → b ≠ c := fun b o e z => by
    rw [z] at e
    exact Nat.lt_irrefl _ (Nat.lt_of_lt_of_le (Heap.lt_size e) hc)
  have sm : ∀ b u, H b = some u → b ≠ c := fun b u e => ne_of_none e nC
  refine I.step (g' := g') (d' := d') (ch := []) (fun b hb => absurd hb (by simp)) (fun b o _ _ _ e n => k b o (nN b n) e) (fun b o _ _ _ e n => ⟨o.slots, k b o (nN b n) e⟩)
    (fun b o _ e n => by rw [at_ b (nN b n) (lt' b o e)]; exact n) (fun b o _ e => ?_) (fun b xs e => by rw [at_ b (nP b _ e (fun q z => by cases z)) (sm b _ e)]; exact e) (fun b o u e => by rw [at_ b (nP b _ e (fun q z => by cases z)) (sm b _ e)]; exact e) (fun b qs e => ?_) (fun m hn => ?_) (fun b u e => ?_) hg
  · by_cases hb : b = P
    · rw [hb]
      exact ⟨_, hm⟩
    · exact ⟨o, k b o hb e⟩
  · by_cases hb : b = P
    · rw [hb, hP] at e
      cases e
      rw [hb, atP]
      exact ⟨more, rfl⟩
    · rw [at_ b hb (sm b _ e), e]
      exact ⟨#[], by simp⟩
  · obtain ⟨ob, es, ep, ho, r⟩ := hn
    exact ⟨ob, es, ep, k _ ob (nN _ I.free) ho, r⟩
  · by_cases hb : b = c
    · rw [hb, upd_same] at e
      cases e
      rw [hb]
      obtain ⟨oc, vs, t, e1, e2, e3⟩ := ho
      exact ⟨⟨oc, vs, t, e1, e2, e3⟩, ⟨oc, e1⟩, fun h1 h2 ⟨oc, vs, t, a, b, c⟩ st => ⟨oc, vs, t, st _ a, b, c⟩⟩
    · by_cases hb2 : b = P
      · rw [hb2, atP] at e
        cases e
        rw [hb2]
        exact hm
      · rw [at_ b hb2 hb] at e
        refine (I.hok b u e).stay (fun d v hd q => k d v ?_ q) (fun d q => by rw [at_ d (nP d _ q (fun q z => by cases z)) (sm d _ q)]; exact q) fun d xs q => by rw [at_ d (nP d _ q (fun q z => by cases z)) (sm d _ q)]; exact q
        rcases hd with z | z
        · rw [z]
          exact hb2
        · exact nP d _ z (fun q z => by cases z)
/-- a def that tells something of one value -/
def Tells (prog : Program) (w : World) (F : PySem.W.Frag) (base : Heap) (f : Addr) (b : PyData → Bool) : Prop := ∀ (A : Around) (R : Result → Shared → Prop) (s : Shared) (v : Value) (d : PyData) (P : Addr), A.depth < recursionLimit →
  (∀ b o, base.get? b = some o → s.heap.get? b = some o) → KitD F v d P s.heap → (∀ s', Keeps s s' → R (.ok (.ret (.bool (b d)))) s') → codeAny (model prog w) A (.call (.ref f) ⟨[v], []⟩) R s
def trD (b : PyData → Bool) (ds : List PyData) (j : Nat) : Bool := match ds[j]? with
  | some d => b d
  | none => false
theorem trD_some {b : PyData → Bool} {ds : List PyData} {j : Nat} {d : PyData} (h : ds[j]? = some d) : trD b ds j = b d := by
  unfold trD
  rw [h]
theorem all_trD (b : PyData → Bool) (ds : List PyData) : (List.range ds.length).all (trD b ds) = ds.all b := by
  rw [Bool.eq_iff_iff, List.all_eq_true, List.all_eq_true]
  constructor
  · intro h d hd
    obtain ⟨j, hj, e⟩ := List.getElem_of_mem hd
    have q := h j (List.mem_range.mpr hj)
    rw [trD_some (List.getElem?_eq_getElem hj), e] at q
    exact q
  · intro h j hj
    have hj' := List.mem_range.mp hj
    rw [trD_some (List.getElem?_eq_getElem hj')]
    exact h _ (List.getElem_mem hj')
/-- the generator g over ds, ready to be walked, in the state s5; H1: what was held before -/
def ReadyD (X : Cx) (pins : List (Addr × Obj)) (σ : L2.St) (H1 : Hp) (T : List (Addr × Str)) (b : PyData → Bool) (ds : List PyData) (g : Addr) (s5 : Shared) : Prop :=
  ∃ (fp wr : List Addr) (G : Array GenState → Array GenState → Prop) (F : Nat → Value → Prop) (St : Nat → Shared → Prop),
    WalksS X.prog X.w X.A.in1 g fp wr G ds.length F St ∧ St 0 s5 ∧ TruthOf X.prog X.w X.A.in1 F (trD b ds) ∧
    ∀ s', Moved wr G s5 s' → ∃ H2, (∀ b o, H1 b = some o → NT o → H2 b = some o) ∧ LamX.Tabs T H2 ∧ Inv X pins σ H2 s'
theorem gen_all {K : Kx} {c P f : Addr} {iter : Expr} {x fx : Str} {px gpos p1 p2 p3 : Pos} {scope : Scope} {te : TE} {k : Nat} {b : PyData → Bool} {Q' : Value → Shared → Prop} {R : List PyData → Hp → Prop} {T : List (Addr × Str)}
    (hr : Room (k + 2) X.A) (TB : LamX.TabB X.base X.mg c P) (hcode : X.env.code = .ref c) (S : GxR.GenS X.env scope x) (hi : PE X iter te) (hmT : (P, X.env.qual ++ "<genexpr>") ∈ T) (hu : ∀ p ∈ T, p.1 = P → p.2 = X.env.qual ++ "<genexpr>")
    (hfx : scope.names.lookup fx = some .globalImplicit) (hmf : X.mg fx = some (.ref f)) (hkf : PySem.W.keepIn X.K (.ref f) = true) (hT : L2.Mod X.K X.mg X.base → Tells X.prog X.w X.K X.base f b) (hdf : (fx == ("__debug__" : Str)) = false) (hdx : (x == ("__debug__" : Str)) = false)
    (hs : ∀ v, genFold iter X.env v = pure v) (hKF : K.F = X.K) (I : Inv X pins σ H s) (h : te σ H fun v H1 => ∃ a xs ds, v = .ref a ∧ SqT X.K H1 a xs ∧ RpL K H1 xs ds ∧ LamX.Tabs T H1 ∧ R ds H1)
    (hQ : ∀ ds H1 g s5, R ds H1 → ReadyD X pins σ H1 T b ds g s5 → Q' (.ref g) s5) :
    wpAny (model X.prog X.w) X.A (eval (.GeneratorExp (.Call (.Name fx p1) [.Name x p2] [] p3) [⟨.Name x px, iter, [], 0⟩] scope gpos) X.env) Q' X.xe s := by
  refine wpAny_GeneratorExp_walksQD hr.hd S.co (closure_ok S.free) S.cell S.dot S.loc S.kind (by have := hr.dp; omega) ?_ hs
  refine thn (hi.run pins s σ H _ I h) fun xv s1 ⟨v, H1, I1, r1, q1⟩ => ?_
  obtain ⟨a, xs, ds, rfl, ha, hds, hTs, q1⟩ := q1
  obtain rfl : xv = .ref a := r1
  obtain ⟨its, hvs, ht, _⟩ := I1.tuple ha
  have htI : s1.heap.IsTuple a its.toArray := by
    obtain ⟨o, e1, e2, e3⟩ := ht
    exact ⟨o, e1, e2, by first | exact e3 | exact ⟨_, e3⟩ | exact e3.1⟩
  obtain ⟨ps, hP, htr, hamong⟩ := hTs _ hmT
  refine wpAny_pyIter_tuple htI ?_
  have hPs : s1.heap.get? P = some { cls := .none, data := .fields ps } := I1.hok P _ hP
  have hPlt : P < s1.heap.objs.size := Heap.lt_size hPs
  have haP : a ≠ P := fun z => by
    obtain ⟨o, e1, e2, _⟩ := htI
    rw [z, hPs] at e1; cases e1; cases e2
  have hlen : its.length = ds.length := by rw [← hvs.length, hds.length]
  have hal : a < s1.heap.objs.size := let ⟨o, e, _⟩ := htI; Heap.lt_size e
  have hkit : ∀ (i : Nat) (u : Value), its[i]? = some u → ∃ d, ds[i]? = some d ∧ KitD X.K u d P s1.heap := fun i u e => by
    have hi := (List.getElem?_eq_some_iff.mp e).1
    have hd : ds[i]? = some (ds[i]'(by omega)) := List.getElem?_eq_getElem _
    obtain ⟨v, e1, rp⟩ := hds.get hd
    obtain ⟨u', e2, rv⟩ := hvs.get e1
    rw [e] at e2
    cases e2
    exact ⟨_, hd, kitD_of hKF I1 rv rp hP⟩
  generalize ho : ({ cls := .type "tuple_iterator", data := .fields #[.ref a, .int 0 0] } : Obj) = o
  have hP2 : (s1.heap.push o).get? P = some { cls := .none, data := .fields ps } := Heap.get?_push_of_some _ hPs
  have cd : PySem.W.CodeHd (s1.heap.push o) c P := TB.code.keeps fun b u e => Heap.get?_push_of_some _ (I1.bk b u e)
  have lim2 : (s1.heap.push o).NoLimit := I1.nolimit.push o
  have hit2 : (s1.heap.push o).IsTupleIter s1.heap.objs.size a 0 := ⟨o, Heap.get?_push_size _ (by rw [← ho]; rfl), by rw [← ho], by rw [← ho]; rfl⟩
  have hti2 : (s1.heap.push o).IsTuple a its.toArray := let ⟨u, e, r⟩ := htI; ⟨u, Heap.get?_push_of_some _ e, r⟩
  have sz2 : (s1.heap.push o).objs.size = s1.heap.objs.size + 1 := Heap.size_push ..
  -- behind the making of the code object: h3, with the code at `code`
  have cont : ∀ (code : Value) (h3 : Heap) (tk : Nat), Heap.ExtBut P (s1.heap.push o) h3 → (s1.heap.push o).objs.size ≤ h3.objs.size →
      (∀ s' : Shared, s'.os = s1.os → AllBare s'.gens → (∀ b u, b < h3.objs.size → b ≠ s1.heap.objs.size → h3.get? b = some u → s'.heap.get? b = some u) → ∃ H2, (∀ b o, H1 b = some o → NT o → H2 b = some o) ∧ LamX.Tabs T H2 ∧ Inv X pins σ H2 s') →
      wpAny (model X.prog X.w) X.A (builtinsFor X.env.globals X.env.builtins) (fun bi s₄ =>
        ∃ Ia fp wr n₀ Pf St₀ pz F, Value.ref s1.heap.objs.size = .ref Ia ∧ (∀ A' : Around, A'.handled = none → Walks X.prog X.w A' Ia fp wr n₀ Pf St₀) ∧ St₀ 0 s₄.heap ∧ (∀ b ∈ fp, b < s₄.heap.objs.size) ∧ s₄.heap.NoLimit ∧ cStatics ∉ wr ∧
          (∀ href : Heap, (∀ b o, s₄.heap.get? b = some o → href.get? b = some o) →
            QuietGenD X.prog X.w (genEnv scope (cloFrom X.env.cells scope.names []) s₄.heap.objs.size code bi X.env) x [] (.Call (.Name fx p1) [.Name x p2] [] p3) (List.range s₄.heap.objs.size) wr Pf pz F href (X.A.depth + 1) (X.A.units + 8)) ∧
          (∀ a h₅ tk gs, gs.bare = true → s₄.heap.objs.size < a → h₅.objs.size = a + 1 → (∀ b o, s₄.heap.get? b = some o → h₅.get? b = some o) →
            WalksS X.prog X.w X.A.in4 a (a :: s₄.heap.objs.size :: List.range s₄.heap.objs.size) (s₄.heap.objs.size :: wr) (GenOnlyQ s₄.gens.size) (passing pz n₀ 0).length
              (fun j y => ∃ i, (passing pz n₀ 0)[j]? = some i ∧ F i y) (GenAt X.prog X.w X.A.in4 a s₄.gens.size s₄.heap.objs.size (List.range s₄.heap.objs.size) wr pz n₀ F) →
            GenAt X.prog X.w X.A.in4 a s₄.gens.size s₄.heap.objs.size (List.range s₄.heap.objs.size) wr pz n₀ F 0 { s₄ with gens := s₄.gens.push gs, toks := tk, heap := h₅ } →
            Q' (.ref a) { s₄ with gens := s₄.gens.push gs, toks := tk, heap := h₅ })) X.xe { s1 with heap := h3, toks := tk } := by
    intro code h3 tk hx hsz hfin
    obtain ⟨bm, ob, e1, e2, e3, e4, e5, e6, e7, e8⟩ := TB.bm
    have hcP : cStatics ≠ P := fun e => by
      obtain ⟨_, hns, _⟩ := I1.nolimit
      obtain ⟨o', es, ep, ho, hd, _⟩ := hns
      rw [e, hPs] at ho
      cases ho
      cases hd
    have hcl : cStatics < s1.heap.objs.size := let ⟨_, hns, _⟩ := I1.nolimit; hns.lt
    have keep3 : ∀ b u, b ≠ P → s1.heap.get? b = some u → h3.get? b = some u := fun b u hb e => hx b u hb (Heap.get?_push_of_some _ e)
    have lim3 : h3.NoLimit := lim2.extBut hx hcP
    refine wpAny_builtinsFor (m := X.mg) (by rw [I1.ok.glob]; exact ((I1.mod.glob.keeps I1.bk).push o).extBut hx TB.gP) e1 e2 (keep3 _ _ e4 (I1.bk _ _ e5)) e6 e7 e8 ?_
    refine ⟨s1.heap.objs.size, [s1.heap.objs.size, a], [s1.heap.objs.size], its.toArray.size, (fun i v => its.toArray[i]? = some v), (fun i h => h.IsTupleIter s1.heap.objs.size a i ∧ h.IsTuple a its.toArray), (fun _ => true), (fun i y => ∃ d, ds[i]? = some d ∧ y = .bool (b d)), rfl,
      fun A' hA => Walks.tuple hA _ _ (Nat.ne_of_lt hal) _, ⟨?_, ?_⟩, ?_, lim3, ?_, ?_, ?_⟩
    · obtain ⟨u, e, r⟩ := hit2
      exact ⟨u, hx _ u (Nat.ne_of_gt hPlt) e, r⟩
    · obtain ⟨u, e, r⟩ := hti2
      exact ⟨u, hx _ u haP e, r⟩
    · intro b hb
      show b < h3.objs.size
      rcases List.mem_cons.mp hb with z | z
      · rw [z]; exact Nat.lt_of_lt_of_le (by rw [sz2]; exact Nat.lt_succ_self _) hsz
      · rcases List.mem_cons.mp z with z | z
        · rw [z]; exact Nat.lt_of_lt_of_le (Nat.lt_trans hal (by rw [sz2]; exact Nat.lt_succ_self _)) hsz
        · cases z
    · intro z
      rcases List.mem_cons.mp z with z | z
      · exact Nat.ne_of_lt hcl z
      · cases z
    · intro href hhref
      refine ⟨fun A' E' i v s₂ m₂ hA _ _ hPv hn hm hk => ?_, fun A' E' i v s₂ m₂ hA hdep huni hPv hp hn hm hk => ?_⟩
      · simp only [List.forIn_nil]
        exact wpAny_pure ⟨rfl, GxR.keeps_refl _⟩
      · have hPv' : its[i]? = some v := by rw [← List.getElem?_toArray]; exact hPv
        obtain ⟨d, hd, kd⟩ := hkit i v hPv'
        have up : ∀ b u, b ≠ P → s1.heap.get? b = some u → s₂.heap.get? b = some u := fun b u hb e => by
          have e3 := keep3 b u hb e
          have hl := Heap.lt_size e
          refine hk b (List.mem_range.mpr (Heap.lt_size e3)) (fun z => ?_) u (hhref b u e3)
          rcases List.mem_cons.mp z with z | z
          · rw [z] at hl; exact Nat.lt_irrefl _ hl
          · cases z
        have bsk : ∀ b u, X.base.get? b = some u → s₂.heap.get? b = some u := fun b u e => up b u (fun z => by
          have h0 := (I1.bs b u e).2
          have h1 : H1 P = some (.tbl ps) := hP
          rw [z, h1] at h0; cases h0) (I1.bk b u e)
        refine wpAny_Call_Name_kw (Calls.Name_function_global S.kind (show scope.names.lookup fx = some .globalImplicit from hfx) (Calls.loadGlobal_global (mg := X.mg) (show s₂.heap.Ns X.env.globals X.mg by rw [I1.ok.glob]; exact I1.mod.glob.keeps bsk) hmf ?_) hdf)
        refine PySem.W.callWith_K (h₀ := X.base) (K := X.K) I1.ok.mod.kin hkf ?_ (by rfl) (by rfl)
        show wpAny _ _ (spliced ((false, eval (.Name x p2) _) :: [])) _ _ s₂
        refine Calls.spliced_cons (wpAny_Name (wpAny_loadName_local S.kind (show scope.names.lookup x = some .local from S.loc) hn hm ?_) hdx)
        refine Calls.spliced_nil ⟨I1.ok.mod.kin.keeps bsk, ?_⟩
        have hlt : A'.depth < recursionLimit := by have := hr.dp; omega
        exact wpAny_call (hT I1.ok.mod A' _ s₂ v d P hlt bsk (kd.keep up) fun s' hs' => ⟨⟨d, hd, rfl⟩, hs'⟩)
    · intro g h5 tk5 gs hgb hag hsz5 hk5 W5 hat
      simp only [GxR.passing_true, List.length_range] at W5
      have hn0 : its.toArray.size = ds.length := by rw [List.size_toArray, hlen]
      rw [hn0] at W5 hat
      refine hQ ds H1 g _ q1 ⟨_, _, _, _, _, W5.in4_1, hat, ?_, fun s' hm => ?_⟩
      · intro j y sj Qj Ej hy hQj
        obtain ⟨i, hij, d, hd, rfl⟩ := hy
        obtain ⟨hj, ej⟩ := List.getElem?_eq_some_iff.mp hij
        rw [List.getElem_range] at ej
        subst ej
        have hQ2 : Qj (trD b ds j) sj := hQj
        rw [trD_some hd] at hQ2
        exact wpAny_truthy_bool hQ2
      · refine hfin s' hm.os (AllBare.movedS (I1.bare.push hgb) hm) fun b u hl hne e => hm.heap b u (fun z => ?_) (hk5 b u e)
        rcases List.mem_cons.mp z with z | z
        · rw [z] at hl
          exact Nat.lt_irrefl _ hl
        · rcases List.mem_cons.mp z with z | z
          · exact hne z
          · cases z
  refine ⟨lim2, ?_⟩
  cases hf : codeAmong gpos ps.toList with
  | none =>
    refine wpAny_genexprCodeX hcode (cd.code hP2 htr) (cd.tab hP2) hf fun c' h' tk hx hge hlt hco' hrec htab' _ => ?_
    obtain ⟨o1, vs, f1, tf, fl, tg, inF, tx, tt, op, _, _, _, _, _, _, _, _, _, htr', _⟩ := hco'
    refine cont _ h' tk hx (Nat.le_trans hge (Nat.le_of_lt hlt)) fun s' hos hgb hk => ?_
    have hge' : s1.heap.objs.size + 1 ≤ c' := Nat.le_trans (Nat.le_of_eq sz2.symm) hge
    have hcge : s1.heap.objs.size ≤ c' := Nat.le_trans (Nat.le_succ _) hge'
    have nC : H1 c' = none := I1.hok.fresh hcge
    obtain ⟨c2, oc, vs2, t2, e2, hoc, hdc, hvc⟩ := hrec
    cases e2
    have J := inv_table' (c := c') (q := X.env.qual ++ "<genexpr>") (more := #[rawInt gpos.line, rawInt gpos.col, .ref c']) (h' := s'.heap) (g' := s'.gens) (d' := s'.drawn) (t' := s'.toks) I1 hP
      (fun b u hb e => hk b u (Heap.lt_size (hx b u hb (Heap.get?_push_of_some _ e))) (Nat.ne_of_lt (Heap.lt_size e)) (hx b u hb (Heap.get?_push_of_some _ e)))
      (hk P _ (Nat.lt_trans (Nat.lt_of_lt_of_le hPlt hcge) hlt) (Nat.ne_of_lt hPlt) htab'.2) hcge ⟨oc, vs2, t2, hk c' _ hlt (Nat.ne_of_gt hge') hoc, hdc, hvc⟩ hgb
    rw [GxR.sh_eta s1 s' hos] at J
    refine ⟨_, fun b u e n => ?_, fun p hp => ?_, J⟩
    · rw [upd_ne (ne_of_none e nC), upd_ne (fun z => n ps (Option.some.inj (e.symm.trans (by rw [z]; exact hP))))]
      exact e
    · by_cases hb : p.1 = P
      · rw [hu p hp hb, hb]
        have eL : (ps ++ #[rawInt gpos.line, rawInt gpos.col, .ref c']).toList = ps.toList ++ [rawInt gpos.line, rawInt gpos.col, .ref c'] := by simp
        refine ⟨_, by rw [upd_ne (ne_of_none hP nC), upd_same], by rw [eL]; exact PySem.TriplesOk_snoc _ _ _ _ htr, fun p' cv hcv => ?_⟩
        rw [eL] at hcv
        rcases LamX.among_app _ htr hcv with z | z
        · obtain ⟨c0, e1, e2⟩ := hamong p' cv z
          refine ⟨c0, e1, ?_⟩
          rw [upd_ne (ne_of_none e2 nC), upd_ne (fun z => by rw [z] at e2; have h1 : H1 P = some (.tbl ps) := hP; rw [h1] at e2; exact LamX.codeO_ne ps (Option.some.inj e2).symm)]
          exact e2
        · exact ⟨c', z, upd_same⟩
      · obtain ⟨ps', a1, a2, a3⟩ := hTs p hp
        refine ⟨ps', by rw [upd_ne (ne_of_none a1 nC), upd_ne hb]; exact a1, a2, fun p' cv hcv => ?_⟩
        obtain ⟨c0, e1, e2⟩ := a3 p' cv hcv
        refine ⟨c0, e1, ?_⟩
        rw [upd_ne (ne_of_none e2 nC), upd_ne (fun z => by rw [z] at e2; have h1 : H1 P = some (.tbl ps) := hP; rw [h1] at e2; exact LamX.codeO_ne ps (Option.some.inj e2).symm)]
        exact e2
  | some cv =>
    refine wpAny_genexprCode_hit hcode (cd.code hP2 htr) hf ?_
    refine cont cv (s1.heap.push o) s1.toks (Heap.ExtBut.refl _ _) (Nat.le_refl _) fun s' hos hgb hk => ?_
    have J := inv_gens (h' := s'.heap) (g' := s'.gens) (d' := s'.drawn) (t' := s'.toks) I1 (fun b u e => hk b u (Nat.lt_trans (Heap.lt_size e) (by rw [sz2]; exact Nat.lt_succ_self _)) (Nat.ne_of_lt (Heap.lt_size e)) (Heap.get?_push_of_some _ e)) hgb
    rw [GxR.sh_eta s1 s' hos] at J
    exact ⟨H1, fun _ _ e _ => e, hTs, J⟩
def tAllG (F : PySem.W.Frag) (K : Kx) (T : List (Addr × Str)) (b : PyData → Bool) (te : TE) : TE := fun σ H Q => te σ H fun v H1 => ∃ a xs ds, v = .ref a ∧ SqT F H1 a xs ∧ RpL K H1 xs ds ∧ LamX.Tabs T H1 ∧
  ∀ H2, (∀ b o, H1 b = some o → NT o → H2 b = some o) → LamX.Tabs T H2 → Q (.bl (ds.all b)) H2
theorem pe_allG {K : Kx} {c P f : Addr} {iter : Expr} {x fx : Str} {px p pos gpos p1 p2 p3 : Pos} {scope : Scope} {te : TE} {k : Nat} {b : PyData → Bool} {T : List (Addr × Str)}
    (hr : Room (k + 2) X.A) (hg : Gl X "all") (hm : X.mg "all" = none) (TB : LamX.TabB X.base X.mg c P) (hcode : X.env.code = .ref c) (S : GxR.GenS X.env scope x) (hi : PE X iter te) (hmT : (P, X.env.qual ++ "<genexpr>") ∈ T) (hu : ∀ p ∈ T, p.1 = P → p.2 = X.env.qual ++ "<genexpr>")
    (hfx : scope.names.lookup fx = some .globalImplicit) (hmf : X.mg fx = some (.ref f)) (hkf : PySem.W.keepIn X.K (.ref f) = true) (hT : L2.Mod X.K X.mg X.base → Tells X.prog X.w X.K X.base f b) (hdf : (fx == ("__debug__" : Str)) = false) (hdx : (x == ("__debug__" : Str)) = false)
    (hs : ∀ v, genFold iter X.env v = pure v) (hKF : K.F = X.K := by assumption)
    (he : starEach [.GeneratorExp (.Call (.Name fx p1) [.Name x p2] [] p3) [⟨.Name x px, iter, [], 0⟩] scope gpos] X.env = (false, eval (.GeneratorExp (.Call (.Name fx p1) [.Name x p2] [] p3) [⟨.Name x px, iter, [], 0⟩] scope gpos) X.env) :: starEach [] X.env := by rfl) :
    PE X (.Call (.Name "all" p) [.GeneratorExp (.Call (.Name fx p1) [.Name x p2] [] p3) [⟨.Name x px, iter, [], 0⟩] scope gpos] [] pos) (tAllG X.K K T b te) := by
  refine ⟨fun pins s σ H Q I h => ?_⟩
  refine wpAny_Call_Name_kw (ld_blt I hg hm bb_all ?_)
  refine PyProof.Rows.callWith_builtin1 ?_ he (by rfl)
  rw [he]
  show wpAny _ _ (spliced ((false, eval (.GeneratorExp (.Call (.Name fx p1) [.Name x p2] [] p3) [⟨.Name x px, iter, [], 0⟩] scope gpos) X.env) :: backTo pos (starEach [] X.env))) _ _ s
  refine Calls.spliced_cons (gen_all (R := fun ds H1 => ∀ H2 : Hp, (∀ (b : Addr) (o : HO), H1 b = some o → NT o → H2 b = some o) → LamX.Tabs T H2 → Q (.bl (ds.all b)) H2) hr TB hcode S hi hmT hu hfx hmf hkf hT hdf hdx hs hKF I h fun ds H1 g s5 hR hG => ?_)
  obtain ⟨fp, wr, G, F, St, W, hst, htr, hI⟩ := hG
  refine Calls.spliced_nil ?_
  refine call_all_walkS (W.self 0 _ _ _ hst ⟨g, fp, wr, G, _, F, St, _, rfl, W, hst, htr, fun s' hmv => ?_⟩)
  obtain ⟨H2, hK, hT2, J⟩ := hI s' hmv
  refine ⟨.bl _, H2, J, rfl, ?_⟩
  rw [all_trD b ds]
  exact hR H2 hK hT2
def gAll (b : PyData → Bool) (g : GE) : GE := fun ρ cu => (g ρ cu).bind fun d cu1 => match d with
  | .tuple ds => .ok (.bool (ds.all b)) cu1
  | _ => .stuck
theorem pd_all {K : Kx} {E : XK} {c P f : Addr} {iter : Expr} {x fx : Str} {px p pos gpos p1 p2 p3 : Pos} {scope : Scope} {te : TE} {ge : GE} {k : Nat} {b : PyData → Bool}
    (hr : Room (k + 2) X.A) (hg : Gl X "all") (hm : X.mg "all" = none) (TB : LamX.TabB X.base X.mg c P) (hcode : X.env.code = .ref c) (S : GxR.GenS X.env scope x) (hi : PD X K E iter te ge) (hmT : (P, X.env.qual ++ "<genexpr>") ∈ K.T) (hu : ∀ p ∈ K.T, p.1 = P → p.2 = X.env.qual ++ "<genexpr>")
    (hfx : scope.names.lookup fx = some .globalImplicit) (hmf : X.mg fx = some (.ref f)) (hkf : PySem.W.keepIn X.K (.ref f) = true) (hT : L2.Mod X.K X.mg X.base → Tells X.prog X.w X.K X.base f b) (hdf : (fx == ("__debug__" : Str)) = false) (hdx : (x == ("__debug__" : Str)) = false)
    (hs : ∀ v, genFold iter X.env v = pure v) (hKF : K.F = X.K := by assumption)
    (he : starEach [.GeneratorExp (.Call (.Name fx p1) [.Name x p2] [] p3) [⟨.Name x px, iter, [], 0⟩] scope gpos] X.env = (false, eval (.GeneratorExp (.Call (.Name fx p1) [.Name x p2] [] p3) [⟨.Name x px, iter, [], 0⟩] scope gpos) X.env) :: starEach [] X.env := by rfl) :
    PD X K E (.Call (.Name "all" p) [.GeneratorExp (.Call (.Name fx p1) [.Name x p2] [] p3) [⟨.Name x px, iter, [], 0⟩] scope gpos] [] pos) (tAllG X.K K K.T b te) (gAll b ge) := by
  refine ⟨pe_allG hr hg hm TB hcode S hi.pe hmT hu hfx hmf hkf hT hdf hdx hs hKF he, fun c0 H0 G0 σ H G ρ cu Q s q => ?_⟩
  refine hi.sem c0 H0 G0 σ H G ρ cu _ s (q.bind.imp fun d H1 G1 cu1 x1 w1 q1 v rv => ?_)
  split at q1
  · rename_i ds
    obtain ⟨a, xs, rfl, e1, r1⟩ := rv.tup_of
    refine ⟨a, xs, ds, rfl, TupAt.sq' hKF (e1.mono w1.sub), r1.mono w1.sub, w1.tab, fun H2 k2 T2 => ?_⟩
    have x2 : Ext c0 H1 G1 H2 G1 := ⟨fun b o e n _ => k2 b o e n, fun b o e n => ⟨o, k2 b o e n, n⟩, fun _ _ e => e, fun _ _ _ _ e => e⟩
    have w2 : Wd K c0 H2 G1 cu1 := by
      refine ⟨fun b o e => k2 b o (w1.sub _ _ e) fun ps z => w1.nt b ps (by rw [← z]; exact e), T2, w1.nt, fun a ha => ?_⟩
      obtain ⟨h1, h2⟩ := w1.cup a ha
      exact ⟨k2 _ _ h1 nt_lst, h2⟩
    exact q1 H2 G1 x2 w2 _ (.bl _)
  · exact q1.elim
end
/-- the def is one that tells whether its value is an integer -/
theorem tells_int {prog : Program} {w : World} {F : PySem.W.Frag} {mg : Str → Option Value} {base : Heap} {st : Stmt} {f : Addr} {fd : FuncData} (M : L2.Mod F mg base) (Fn : Fun F "is_integer" "is_integer" st f fd) (hb : L2.Binds F fd ["value"] [])
    (hst : ∃ q1 q2 q3 q4 q5 q6 q7 q8 q9 q10 q11 : Pos, defBody st = isIntBody q1 q2 q3 q4 q5 q6 q7 q8 q9 q10 q11) (hsc : defScope st = { kind := .function, names := [("value", .local), ("isinstance", .globalImplicit), ("int", .globalImplicit), ("bool", .globalImplicit)], isGenerator := false, isCoroutine := false })
    (m1 : mg "isinstance" = none) (m2 : mg "int" = none) (m3 : mg "bool" = none) : Tells prog w F base f isIntD := by
  obtain ⟨q1, q2, q3, q4, q5, q6, q7, q8, q9, q10, q11, hst⟩ := hst
  obtain ⟨mb, hbl, hbb⟩ := M.blt
  have B : BaseOk F mg mb base := ⟨M.kin, M.glob, hbl, hbb, M.nolimit⟩
  obtain ⟨oc, od, kV, doc, pm, an, cdv, ct, osl, rfl, lk, hcd⟩ := Fn.ex
  rw [hst] at lk hb
  intro A R s v d P hd kp kd hR
  exact isInt_call B lk hcd m1 m2 m3 (hb s [v] (B.kin.keeps kp) rfl) hsc hd kp kd hR
theorem gens_by {env : Env} {scope : Scope} {x : Str} (h1 : scope.kind = .function) (h2 : scope.isCoroutine = false) (h3 : ∀ y ∈ scope.names, y.2 ≠ .cell ∧ y.2 ≠ .free) (h4 : scope.names.lookup (".0" : Str) = some NameKind.local) (h5 : scope.names.lookup x = some .local) : GxR.GenS env scope x :=
  ⟨h1, h2, fun y hy => (h3 y hy).1, h4, h5, fun y hy e => absurd e (h3 y hy).2⟩
/-- a def whose code object is known -/
structure FunK (K : PySem.W.Frag) (x qual : Str) (st : Stmt) (f : Addr) (fd : FuncData) (c : Addr) : Prop where
  ex : ∃ (oc : Value) (od : Option Addr) (kV doc pm : Value) (an : Option Addr) (ct : Value) (osl : Array (Option Value)),
    fd = PySem.W.fnOf x qual (defArgs st) (defBody st) (defScope st) .none kV doc pm an (.ref c) ct ∧ K.lookup f = some ⟨oc, od, .func fd, osl⟩ ∧ PySem.W.codeIn K (.ref c) qual = true
  kp : PySem.W.keepIn K (.ref f) = true
theorem FunK.fn {K : PySem.W.Frag} {x qual : Str} {st : Stmt} {f : Addr} {fd : FuncData} {c : Addr} (F : FunK K x qual st f fd c) : Fun K x qual st f fd := by
  obtain ⟨oc, od, kV, doc, pm, an, ct, osl, h1, h2, h3⟩ := F.ex
  exact ⟨⟨oc, od, kV, doc, pm, an, .ref c, ct, osl, h1, h2, h3⟩, F.kp⟩
theorem ok_defK {P : Program} {w : World} {F : PySem.W.Frag} {mg : Str → Option Value} {base : Heap} {K : Kx} {x qual : Str} {st : Stmt} {f c : Addr} {fd : FuncData} {N ps : List Str} {k : Nat} {g : GS} (Fn : FunK F x qual st f fd c) (S : FnScope N ps (defScope st))
    (hbody : ∀ (A : Around) (outer : List Env) (s : Shared) (H : Hp) (E : XK), Room k (A.deeper (envOfC qual (defScope st) s.heap.objs.size f (.ref c))) →
      ∃ t, PSsD (cxOf (L2.CX P w) P w F mg base N qual (defScope st) f (.ref c) A outer s H E) K E (defBody st) t g) :
    FnOk P w F mg base (L2.CX P w) (k + 1) f fd ps (spG K ps.length (gFn N.length g)) := by
  obtain ⟨oc, od, kV, doc, pm, an, ct, osl, rfl, lk, hcd⟩ := Fn.ex
  refine fn_of lk hcd S (fun vs H Q E h => ?_) (fun A outer s H vs Q E hr h => ?_)
  · obtain ⟨c, G, as, cu, h1, _, h3, _⟩ := h
    rw [h3.length, h1]
  · obtain ⟨c, G, as, cu, h1, wd, h3, q⟩ := h
    obtain ⟨t, ht⟩ := hbody A outer s H E hr
    refine ⟨t, ht.ps, ht.sem c H G (L2.start N vs) H G _ cu _ ⟨wd, Ext.refl, rep_start h3⟩ ?_⟩
    unfold gFn at q
    cases hg : g (as ++ List.replicate (N.length - as.length) .un) cu with
    | stuck => rw [hg] at q; exact q
    | exc k cu1 => rw [hg] at q; exact q
    | ok o cu1 =>
      rw [hg] at q
      cases o with
      | nx ρ' => exact fun σ' H' G' s' => q H' G' s'.ext s'.wd _ .non
      | ret d => exact fun v H' G' x w r => q H' G' x w v r
      | brk ρ' => exact q.elim
      | ct ρ' => exact q.elim
end DL

set_option Elab.async false
set_option linter.all false
set_option maxRecDepth 100000
set_option maxHeartbeats 2000000
set_option autoImplicit false
namespace DL
open PySem PySem.Spec PyProof.Rows L2
/-! ### at one state -/
def AtE (K : Kx) (E : XK) (c : Option Addr) (σ : L2.St) (H G : Hp) (t : TE) (r : Rs PyData) : Prop := ∀ Q : VK, Post K E c H G r (QD K Q) → t σ H Q
section
variable {K : Kx} {E : XK} {c : Option Addr} {H0 G0 H G : Hp} {σ : L2.St} {ρ : En} {cu : Cu} {ta tb : TE} {ra : Rs PyData}
theorem at_op {r : R2} {f : PyData → PyData → Option PyData} {gb : GE} (s : SRep K c H0 G0 σ H G ρ cu) (hf : OpD K r f) (ha : AtE K E c σ H G ta ra) (hb : SemE K E tb gb) :
    AtE K E c σ H G (tOp r ta tb) (ra.bind fun a cu1 => (gb ρ cu1).bind fun b cu2 => .ofO (f a b) cu2) := by
  intro Q q
  refine ha _ (q.bind.imp fun a H1 G1 cu1 x1 w1 q1 v rv => ?_)
  have s1 := s.go x1 w1
  refine hb c H0 G0 σ H1 G1 ρ cu1 _ s1 (q1.bind.imp fun b H2 G2 cu2 x2 w2 q2 w rw' => ?_)
  obtain ⟨z, e, q3⟩ := q2.ofO
  exact hf c H2 G2 cu2 v w a b z Q w2 (rv.mono x2.g) rw' e fun v' H' G' x w => q3 H' G' x w v'
theorem at_call1 {r : List V → Hp → VK → Prop} {f : List PyData → Option PyData} (hf : CallD K r f) (ha : AtE K E c σ H G ta ra) : AtE K E c σ H G (tCB r (tCons ta tNil)) (ra.bind fun a cu1 => .ofO (f [a]) cu1) := by
  intro Q q
  refine ha _ (q.bind.imp fun a H1 G1 cu1 x1 w1 q1 v rv => ?_)
  obtain ⟨z, ez, q2⟩ := q1.ofO
  exact hf c H1 G1 cu1 [v] [a] z Q w1 (.cons rv .nil) ez fun v' H' G' x w rr => q2 H' G' x w v' rr
end
/-! ### the cup -/
def cup0 (cell : Int) : Cu := (if cell ≥ 10 ^ 18 then cell.fdiv 67 else 0, (cell * 277 + 2609).fmod 2077503167 + 163)
def cell0 (ns : List Int) : Int := match ns with
  | [] => 0
  | i :: _ => if i < 0 then -i else i
theorem rpl_ints {K : Kx} {G : Hp} : ∀ ns : List Int, RpL K G (ns.map V.int) (ns.map PyData.int)
  | [] => .nil
  | i :: r => .cons (.int i) (rpl_ints r)
/-- list(script) -/
theorem at_script {K : Kx} {E : XK} {F : PySem.W.Frag} {H : Hp} {σ : L2.St} {a : Addr} {ns : List Int} {cu : Cu} {i : Nat} {G : Hp} (w : Wd K none H G cu) (hs : σ[i]? = some (some (V.ref a))) (hS : SqL F H a (ns.map V.int)) :
    AtE K E none σ H G (tCB (fun xs H Q => ∃ p ys, xs = [.ref p] ∧ (SqL F H p ys ∨ SqT F H p ys) ∧ ∀ l, H l = none → Q (.ref l) (upd H l (.lst ys))) (tCons (tVar i) tNil)) (.ok (.list (ns.map .int)) cu) :=
  fun Q q => ⟨_, hs, a, _, rfl, .inl hS, fun l hl => new_lst w (rpl_ints ns) (fun v' H' G' x w' r => q H' G' x w' v' r) hl⟩
/-- what is wanted of a def that makes the cup -/
def spCup (K : Kx) (F : PySem.W.Frag) : Sp := fun vs H Q _ => ∃ (a : Addr) (ns : List Int), vs = [.ref a] ∧ SqL F H a (ns.map V.int) ∧ ns.length ≤ 63 ∧ LamX.Tabs K.T H ∧
  ∀ (p : Addr) (H' : Hp), H' p = some (.lst [.int (cup0 (cell0 ns)).1, .int (cup0 (cell0 ns)).2]) → LamX.Tabs K.T H' → Q (.ref p) H'
/-- nothing known, no cup -/
theorem srep0 {K : Kx} {H : Hp} {σ : L2.St} {n : Nat} {cu : Cu} (hT : LamX.Tabs K.T H) (hl : σ.length = n) : SRep K none H (fun _ => none) σ H (fun _ => none) (List.replicate n .un) cu := by
  have un : ∀ (i : Nat) (s : Sl), (List.replicate n Sl.un)[i]? = some s → s = .un := fun i s e => by
    rw [List.getElem?_replicate] at e
    split at e
    · exact (Option.some.inj e).symm
    · cases e
  have w : Wd K none H (fun _ => none) cu := ⟨fun b o e => (nomatch e), hT, fun b ps z => (nomatch z), fun a z => (nomatch z)⟩
  refine ⟨w, Ext.refl, by rw [List.length_replicate, hl], fun i d e => (nomatch un i _ e), fun i e => (nomatch un i _ e), fun _ => 0, fun i ds e => (nomatch un i _ e), fun i j ds es e => (nomatch un i _ e)⟩
/-- a list that nothing else knows, as the cup -/
theorem sem_cup {K : Kx} {E : XK} {t : TE} {g : GI} (h : SemF K E t g) {c : Option Addr} {H0 G0 H G : Hp} {σ : L2.St} {ρ : En} {cu cu1 : Cu} {x y : Int} (s : SRep K c H0 G0 σ H G ρ cu) (hg : g ρ cu = .ok [.int x, .int y] cu1) {Q : VK}
    (hQ : ∀ (p : Addr) (H' : Hp), H' p = some (.lst [.int x, .int y]) → LamX.Tabs K.T H' → Q (.ref p) H') : t σ H Q := by
  refine h c H0 G0 σ H G ρ cu Q s ?_
  rw [hg]
  intro H' G' x' w a xs ha e r _
  obtain ⟨v, v2, rfl, r1, r2⟩ := r.two
  rw [r1.int_of, r2.int_of] at e
  exact hQ a H' e w.tab
theorem at_seq_set {K : Kx} {E : XK} {c : Option Addr} {σ : L2.St} {H G : Hp} {te : TE} {r : Rs PyData} {i : Nat} {u : TS} {D : Ends} (h : AtE K E c σ H G te r) (q : Post K E c H G r (fun d H1 G1 _ => ∀ v, Rp K G1 v d → u D (σ.set i (some v)) H1)) : tSeq (tAsg te (gName i)) u D σ H := h _ q
theorem ret_cup {K : Kx} {E : XK} {t : TE} {g : GI} (h : SemF K E t g) {c : Option Addr} {H0 G0 H G : Hp} {σ : L2.St} {ρ : En} {cu cu1 : Cu} {x y : Int} (s : SRep K c H0 G0 σ H G ρ cu) (hg : g ρ cu = .ok [.int x, .int y] cu1) {D : Ends}
    (hQ : ∀ (p : Addr) (H' : Hp), H' p = some (.lst [.int x, .int y]) → LamX.Tabs K.T H' → D.rt (.ref p) H') : tRet t D σ H := sem_cup h s hg hQ
theorem ret_own {X : Cx} {K : Kx} {E : XK} {e : Expr} {t : TE} {g : GI} {pos : Pos} (h : PFD X K E e t g) : ∃ t2, PSs X [.Return (some e) pos] (tRet t2) ∧ SemF K E t2 g := ⟨t, pss_one (ps_ret h.pe), h.sem⟩
theorem passLam {X : Cx} {A : Around} {outer : List Env} {s : Shared} {H : Hp} {E : XK} {scope : Scope} {f c' : Addr} : Passes (L2.CX (LamX.lamCx X A outer s H E scope f c').prog (LamX.lamCx X A outer s H E scope f c').w) (LamX.lamCx X A outer s H E scope f c') E := passes_call (takes_of rfl rfl rfl rfl) fun _ _ _ _ h => h
/-- what a law's own def keeps: the cup made of the script, then g -/
def spLaw (K : Kx) (F : PySem.W.Frag) : Sp := fun vs H Q _ => ∃ (a : Addr) (ns : List Int), vs = [.ref a] ∧ SqL F H a (ns.map V.int) ∧ ns.length ≤ 63 ∧ LamX.Tabs K.T H ∧ ∀ H', Q (.bl true) H'
theorem srep_cup {K : Kx} {H : Hp} {σ : L2.St} {n : Nat} {p : Addr} {x y : Int} (hT : LamX.Tabs K.T H) (hp : H p = some (.lst [.int x, .int y])) (hl : σ.length = n + 2) (hs : σ[1]? = some (some (V.ref p))) :
    SRep K (some p) H (fun _ => none) σ H (fun _ => none) (.un :: .cup :: List.replicate n .un) (x, y) := by
  have un : ∀ (i : Nat) (s : Sl), (Sl.un :: Sl.cup :: List.replicate n Sl.un)[i]? = some s → s = .un ∨ (s = .cup ∧ i = 1) := fun i s e => by
    match i, e with
    | 0, e => exact .inl (Option.some.inj e).symm
    | 1, e => exact .inr ⟨(Option.some.inj e).symm, rfl⟩
    | i + 2, e =>
      have e' : (List.replicate n Sl.un)[i]? = some s := e
      rw [List.getElem?_replicate] at e'
      split at e'
      · exact .inl (Option.some.inj e').symm
      · cases e'
  have w : Wd K (some p) H (fun _ => none) (x, y) := ⟨fun b o e => (nomatch e), hT, fun b ps z => (nomatch z), fun a z => by cases z; exact ⟨hp, rfl⟩⟩
  refine ⟨w, Ext.refl, ⟨by rw [hl]; simp, fun i d e => ?_, fun i e => ?_, fun _ => 0, fun i ds e => ?_, fun i j ds es e => ?_⟩⟩
  · rcases un i _ e with z | z
    · cases z
    · cases z.1
  · rcases un i _ e with z | z
    · cases z
    · rw [z.2]; exact ⟨p, rfl, hs⟩
  · rcases un i _ e with z | z
    · cases z
    · cases z.1
  · rcases un i _ e with z | z
    · cases z
    · cases z.1
theorem ok_law {P : Program} {w : World} {F : PySem.W.Frag} {mg : Str → Option Value} {base : Heap} {K : Kx} {st : Stmt} {f c fc : Addr} {fd fdc : FuncData} {N : List Str} {n k kc : Nat} {g : GS} {px pe pc pp sp : Pos} {rest : List Stmt}
    (Fn : FunK F "law" "law" st f fd c) (S : FnScope N ["_law_script"] (defScope st)) (hN : N.length = n + 2) (hN1 : N[1]? = some ("_law_cup_here" : Str)) (hN0 : N[0]? = some ("_law_script" : Str)) (hl1 : Loc (defScope st) ("_law_cup_here" : Str)) (hl0 : Vis (defScope st) ("_law_script" : Str))
    (hgl : (defScope st).names.lookup ("_law_cup" : Str) = some NameKind.globalImplicit)
    (hst : defBody st = .Assign [.Name "_law_cup_here" px] (.Call (.Name "_law_cup" pc) [.Name "_law_script" pe] [] pp) sp :: rest) (hcup : FnOk P w F mg base (L2.CX P w) kc fc fdc ["_law_script"] (spCup K F)) (hmc : mg "_law_cup" = some (.ref fc)) (hkc : PySem.W.keepIn F (.ref fc) = true) (hbc : L2.Binds F fdc ["_law_script"] []) (hkk : kc ≤ k)
    (hsw : ∀ (L : Nat), swapsWith (.Call (.Name "_law_cup" pc) [.Name "_law_script" pe] [] pp) (some (.Name "_law_cup_here" px)) sp.line (envOfC "law" (defScope st) L f (.ref c)) = pure false)
    (hbody : ∀ (A : Around) (outer : List Env) (s : Shared) (H : Hp) (E : XK), Room k (A.deeper (envOfC "law" (defScope st) s.heap.objs.size f (.ref c))) →
      ∃ t, PSsD (cxOf (L2.CX P w) P w F mg base N "law" (defScope st) f (.ref c) A outer s H E) K E rest t g)
    (hg : ∀ ns : List Int, ns.length ≤ 63 → ∃ cu, g (.un :: .cup :: List.replicate n .un) (cup0 (cell0 ns)) = .ok (.ret (.bool true)) cu) :
    FnOk P w F mg base (L2.CX P w) (k + 1) f fd ["_law_script"] (spLaw K F) := by
  obtain ⟨oc, od, kV, doc, pm, an, ct, osl, rfl, lk, hcd⟩ := Fn.ex
  refine fn_of lk hcd S (fun vs H Q E h => ?_) (fun A outer s H vs Q E hr h => ?_)
  · obtain ⟨a, ns, rfl, _⟩ := h
    rfl
  · obtain ⟨a, ns, rfl, hS, hl, hT, hQ⟩ := h
    obtain ⟨t, ht⟩ := hbody A outer s H E hr
    have hx : Passes (L2.CX P w) (cxOf (L2.CX P w) P w F mg base N "law" (defScope st) f (.ref c) A outer s H E) E := passes_call (takes_of rfl rfl rfl rfl) fun _ _ _ _ h => h
    rw [hst]
    refine ⟨_, pss_cons (ps_set (i := 1) S.nd hN1 hl1 (pe_call hcup (hr.mono hkk) hgl hmc hkc hbc .nil hx (pa_cons (pe_var (i := 0) hN0 hl0) pa_nil)) (hsw _) (.inl rfl)) ht.ps, ?_⟩
    have h0 : (L2.start N [V.ref a])[0]? = some (some (V.ref a)) := by
      unfold L2.start; rfl
    refine ⟨_, h0, a, ns, rfl, hS, hl, hT, fun p H' hp hT' => ?_⟩
    obtain ⟨cu, e⟩ := hg ns hl
    have hlen : (L2.start N [V.ref a]).length = n + 2 := by
      unfold L2.start
      rw [List.length_append, List.length_replicate, List.length_map, hN]
      simp
      omega
    refine ht.sem (some p) H' (fun _ => none) ((L2.start N [V.ref a]).set 1 (some (V.ref p))) H' (fun _ => none) (.un :: .cup :: List.replicate n .un) (cup0 (cell0 ns)) _ (srep_cup hT' hp (by rw [List.length_set]; exact hlen) (List.getElem?_set_self (by rw [hlen]; omega))) ?_
    rw [e]
    intro v H1 G1 _ _ rv
    rw [rv.bl_of]
    exact hQ H1
end DL

set_option Elab.async false
set_option linter.all false
set_option maxRecDepth 100000
set_option maxHeartbeats 2000000
set_option autoImplicit false
/-! reckoning: the functions of the layer at written environments -/
namespace DL
open PySem PySem.Spec L2
section
variable {α β : Type} {cu : Cu}
theorem Rs.bind_ok (a : α) (f : α → Cu → Rs β) : (Rs.ok a cu).bind f = f a cu := rfl
theorem Rs.bind_exc (k : Nat) (f : α → Cu → Rs β) : (Rs.exc k cu : Rs α).bind f = .exc k cu := rfl
theorem Rs.bind_stuck (f : α → Cu → Rs β) : (Rs.stuck : Rs α).bind f = .stuck := rfl
theorem Rs.ofO_some (a : α) : Rs.ofO (some a) cu = .ok a cu := rfl
theorem Rs.nox_ok (a : α) : (Rs.ok a cu).nox = .ok a cu := rfl
end
section
variable {ρ : En} {cu : Cu} {i j : Int} {x y : Str} {xs ys ds : List PyData} {a b c d : PyData} {k m n : Nat}
theorem gC_eq : gC d ρ cu = .ok d cu := rfl
theorem gVar_eq (h : ρ[n]? = some (.dat d)) : gVar n ρ cu = .ok d cu := by unfold gVar; rw [h]
theorem gVar_un : gVar n ρ cu = (match ρ[n]? with | some (.dat d) => .ok d cu | _ => .stuck) := rfl
theorem gCupF_un : gCup n false ρ cu = (match ρ[n]? with | some .cup => .ok (.int cu.1) cu | _ => .stuck) := rfl
theorem gCupT_un : gCup n true ρ cu = (match ρ[n]? with | some .cup => .ok (.int cu.2) cu | _ => .stuck) := rfl
theorem gCupF (h : ρ[n]? = some .cup) : gCup n false ρ cu = .ok (.int cu.1) cu := by unfold gCup; rw [h]; rfl
theorem gCupT (h : ρ[n]? = some .cup) : gCup n true ρ cu = .ok (.int cu.2) cu := by unfold gCup; rw [h]; rfl
theorem dAdd_int : dAdd (.int i) (.int j) = some (.int (i + j)) := rfl
theorem dAdd_lst (h : xs.length + ys.length ≤ 16777216) : dAdd (.list xs) (.list ys) = some (.list (xs ++ ys)) := if_pos h
theorem dAdd_tup (h : xs.length + ys.length ≤ 16777216) : dAdd (.tuple xs) (.tuple ys) = some (.tuple (xs ++ ys)) := if_pos h
theorem dMul_int (h : mulOk i j = true) : dMul (.int i) (.int j) = some (.int (i * j)) := if_pos h
theorem fI0_int {g : Int → Int → Int} : fI0 g (.int i) (.int j) = some (.int (g i j)) := rfl
theorem fB0_int {g : Int → Int → Bool} : fB0 g (.int i) (.int j) = some (.bool (g i j)) := rfl
theorem fI_int {C : Int → Int → Bool} {g : Int → Int → Int} (h : C i j = true) : fI C g (.int i) (.int j) = some (.int (g i j)) := if_pos h
theorem mulOk_l (h : i.natAbs < 2 ^ 64) : mulOk i j = true := by unfold mulOk; rw [decide_eq_true h]; rfl
theorem mulOk_r (h : j.natAbs < 2 ^ 64) : mulOk i j = true := by unfold mulOk; rw [decide_eq_true h, Bool.true_or, Bool.or_true]
theorem log2_lt {n k : Nat} (h : n < 2 ^ k) (hk : 0 < k) : n.log2 < k := by
  by_cases h0 : n = 0
  · rw [h0]; exact hk
  · exact (Nat.log2_lt h0).mpr h
theorem mulOk_b {p q : Nat} (hi : i.natAbs < 2 ^ p) (hj : j.natAbs < 2 ^ q) (hp : 0 < p) (hq : 0 < q) (h : p + q ≤ 1000000) : mulOk i j = true := by
  unfold mulOk
  have h1 := log2_lt hi hp
  have h2 := log2_lt hj hq
  rw [decide_eq_true (show i.natAbs.log2 + j.natAbs.log2 < 1000000 by omega), Bool.or_true, Bool.or_true]
theorem divOk_b {p : Nat} (h0 : j ≠ 0) (h : j.natAbs < 2 ^ p) (hp : 0 < p) (hq : p ≤ 9000) : divOk i j = true := by
  unfold divOk
  have h1 := log2_lt h hp
  rw [decide_eq_true h0, decide_eq_true (show j.natAbs.log2 < 9000 by omega)]; rfl
theorem modOk_b (h0 : j ≠ 0) : modOk i j = true := decide_eq_true h0
theorem powOk_b (h0 : 0 ≤ j) (h1 : j ≤ 1000000) (h2 : i.natAbs < 2 ^ 64) : powOk i j = true := by
  unfold powOk; rw [decide_eq_true h0, decide_eq_true h1, decide_eq_true h2]; rfl
theorem dEq_int : dEq (.int i) (.int j) = some (.bool (decide (i = j))) := rfl
theorem dNe_int : dNe (.int i) (.int j) = some (.bool (!decide (i = j))) := rfl
theorem dEq_str : dEq (.str x) (.str y) = some (.bool (decide (x = y))) := rfl
theorem dNe_str : dNe (.str x) (.str y) = some (.bool (!decide (x = y))) := rfl
theorem dEq_bl {p q : Bool} : dEq (.bool p) (.bool q) = some (.bool (decide (p = q))) := rfl
theorem dBool_bl {p : Bool} : dBool (.bool p) = some p := rfl
theorem dTru_bl {p : Bool} : dTru (.bool p) = some p := rfl
theorem dNeg_int : dNeg (.int i) = some (.int (-i)) := rfl
theorem dAbs_int : dAbs [.int i] = some (.int (if i < 0 then -i else i)) := rfl
theorem dToInt_int : dToInt [.int i] = some (.int i) := rfl
theorem dToInt_bl {p : Bool} : dToInt [.bool p] = some (.int (if p then 1 else 0)) := rfl
theorem dLen_tup : dLen [.tuple xs] = some (.int (xs.length : Int)) := rfl
theorem dLen_lst : dLen [.list xs] = some (.int (xs.length : Int)) := rfl
theorem dMin2_int : dMin2 [.int i, .int j] = some (.int (if j < i then j else i)) := rfl
theorem dToTup_lst : dToTup [.list xs] = some (.tuple xs) := rfl
theorem dToTup_tup : dToTup [.tuple xs] = some (.tuple xs) := rfl
theorem dToLst_lst : dToLst [.list xs] = some (.list xs) := rfl
theorem dToLst_tup : dToLst [.tuple xs] = some (.list xs) := rfl
theorem dats_nil : dats [] = some [] := rfl
theorem dats_cons {as : List Sl} : dats (.dat d :: as) = (dats as).map fun ds => d :: ds := rfl
theorem dIx_tup : dIx (.tuple xs) (.int i) = atI xs i := rfl
theorem dIx_lst : dIx (.list xs) (.int i) = atI xs i := rfl
theorem atI_at {α : Type} {xs : List α} {n : Nat} {z : α} (h : xs[n]? = some z) : atI xs (n : Int) = some z := atI_nat h
theorem atI0 {α : Type} {z : α} {r : List α} : atI (z :: r) (0 : Int) = some z := atI_nat (j := 0) rfl
theorem atI1 {α : Type} {z z1 : α} {r : List α} : atI (z :: z1 :: r) (1 : Int) = some z1 := atI_nat (j := 1) rfl
theorem atI2 {α : Type} {z z1 z2 : α} {r : List α} : atI (z :: z1 :: z2 :: r) (2 : Int) = some z2 := atI_nat (j := 2) rfl
theorem atI3 {α : Type} {z z1 z2 z3 : α} {r : List α} : atI (z :: z1 :: z2 :: z3 :: r) (3 : Int) = some z3 := atI_nat (j := 3) rfl
theorem atI4 {α : Type} {z z1 z2 z3 z4 : α} {r : List α} : atI (z :: z1 :: z2 :: z3 :: z4 :: r) (4 : Int) = some z4 := atI_nat (j := 4) rfl
theorem atI5 {α : Type} {z z1 z2 z3 z4 z5 : α} {r : List α} : atI (z :: z1 :: z2 :: z3 :: z4 :: z5 :: r) (5 : Int) = some z5 := atI_nat (j := 5) rfl
theorem dInt_int : dInt (.int i) = some i := rfl
end
end DL

set_option Elab.async false
set_option linter.all false
set_option maxRecDepth 100000
set_option maxHeartbeats 2000000
set_option autoImplicit false
/-! isinstance of each kind of data -/
namespace DL
open PySem
theorem isi_int_int {i : Int} : isiOf "int" (.int i) = some true := rfl
theorem isi_int_bool {i : Int} : isiOf "bool" (.int i) = some false := rfl
theorem isi_int_str {i : Int} : isiOf "str" (.int i) = some false := rfl
theorem isi_int_tuple {i : Int} : isiOf "tuple" (.int i) = some false := rfl
theorem isi_bool_int {b : Bool} : isiOf "int" (.bool b) = some true := rfl
theorem isi_bool_bool {b : Bool} : isiOf "bool" (.bool b) = some true := rfl
theorem isi_bool_str {b : Bool} : isiOf "str" (.bool b) = some false := rfl
theorem isi_bool_tuple {b : Bool} : isiOf "tuple" (.bool b) = some false := rfl
theorem isi_str_int {x : PySem.Str} : isiOf "int" (.str x) = some false := rfl
theorem isi_str_bool {x : PySem.Str} : isiOf "bool" (.str x) = some false := rfl
theorem isi_str_str {x : PySem.Str} : isiOf "str" (.str x) = some true := rfl
theorem isi_str_tuple {x : PySem.Str} : isiOf "tuple" (.str x) = some false := rfl
theorem isi_tup_int {xs : List PySem.PyData} : isiOf "int" (.tuple xs) = some false := rfl
theorem isi_tup_bool {xs : List PySem.PyData} : isiOf "bool" (.tuple xs) = some false := rfl
theorem isi_tup_str {xs : List PySem.PyData} : isiOf "str" (.tuple xs) = some false := rfl
theorem isi_tup_tuple {xs : List PySem.PyData} : isiOf "tuple" (.tuple xs) = some true := rfl
theorem isi_lst_int {xs : List PySem.PyData} : isiOf "int" (.list xs) = some false := rfl
theorem isi_lst_bool {xs : List PySem.PyData} : isiOf "bool" (.list xs) = some false := rfl
theorem isi_lst_str {xs : List PySem.PyData} : isiOf "str" (.list xs) = some false := rfl
theorem isi_lst_tuple {xs : List PySem.PyData} : isiOf "tuple" (.list xs) = some false := rfl
theorem isi_none_int : isiOf "int" .none = some false := rfl
theorem isi_none_bool : isiOf "bool" .none = some false := rfl
theorem isi_none_str : isiOf "str" .none = some false := rfl
theorem isi_none_tuple : isiOf "tuple" .none = some false := rfl
end DL

set_option Elab.async false
set_option linter.all false
set_option maxRecDepth 100000
set_option maxHeartbeats 2000000
set_option autoImplicit false
set_option exponentiation.threshold 4000
/-! whole numbers of a size, loops and comprehensions one item on -/
namespace DL
open PySem PySem.Spec L2
def Sm (x : Int) : Prop := x.natAbs < 2 ^ 2000
section
variable {a b m x y : Int} {cu : Cu} {ρ : En}
theorem mulOk_sm (ha : Sm a) (hb : Sm b) : mulOk a b = true := mulOk_b ha hb (by decide) (by decide) (by decide)
theorem divOk_sm (h0 : b ≠ 0) (hb : Sm b) : divOk a b = true := divOk_b h0 hb (by decide) (by decide)
theorem Sm.of {B : Nat} (h : x.natAbs ≤ B) (hB : B < 2 ^ 2000 := by decide) : Sm x := Nat.lt_of_le_of_lt h hB
theorem fdiv_lo (hm : 0 < m) : a.fdiv m * m ≤ a := by
  have h := Int.mul_fdiv_add_fmod a m
  have h2 := Int.fmod_nonneg_of_pos a hm
  rw [Int.mul_comm] at h
  omega
theorem fdiv_hi (hm : 0 < m) : a < a.fdiv m * m + m := by
  have h := Int.mul_fdiv_add_fmod a m
  have h2 := Int.fmod_lt_of_pos a hm
  rw [Int.mul_comm] at h
  omega
theorem fmod_spec : a.fmod m = a - a.fdiv m * m := by
  have h := Int.mul_fdiv_add_fmod a m
  rw [Int.mul_comm] at h
  omega
theorem fmod_lo (hm : 0 < m) : 0 ≤ a.fmod m := Int.fmod_nonneg_of_pos a hm
theorem fmod_hi (hm : 0 < m) : a.fmod m < m := Int.fmod_lt_of_pos a hm
/-- a rest is the only number of its kind between nought and the modulus -/
theorem rest_one {k : Int} (hm : 0 < m) (h0 : 0 ≤ a - k * m) (h1 : a - k * m < m) : a.fmod m = a - k * m ∧ a.fdiv m = k := by
  have e := Int.mul_fdiv_add_fmod a m
  have l0 := Int.fmod_nonneg_of_pos a hm
  have l1 := Int.fmod_lt_of_pos a hm
  have ek : a.fdiv m = k := by
    have z : m * (a.fdiv m - k) = (a - k * m) - a.fmod m := by rw [Int.mul_sub, Int.mul_comm m k]; omega
    have z1 : m * (a.fdiv m - k) < m * 1 := by omega
    have z2 : m * (-1) < m * (a.fdiv m - k) := by omega
    have z3 := Int.lt_of_mul_lt_mul_left z1 (Int.le_of_lt hm)
    have z4 := Int.lt_of_mul_lt_mul_left z2 (Int.le_of_lt hm)
    omega
  refine ⟨?_, ek⟩
  rw [ek, Int.mul_comm] at e
  omega
def ab (i : Int) : Int := if i < 0 then -i else i
theorem dAbs_ab : dAbs [.int x] = some (.int (ab x)) := rfl
theorem ab_nn : 0 ≤ ab x := by unfold ab; split <;> omega
theorem ab_le : ab x ≤ b ↔ -b ≤ x ∧ x ≤ b := by unfold ab; split <;> omega
theorem ab_lo (h : 0 ≤ x) : ab x = x := by unfold ab; split <;> omega
theorem ab_hi (h : x ≤ 0) : ab x = -x := by unfold ab; split <;> omega
theorem ab_neg : ab (-x) = ab x := by unfold ab; split <;> split <;> omega
theorem Sm.ab (h : Sm x) : Sm (ab x) := by unfold Sm DL.ab at *; split <;> omega
theorem Sm.neg (h : Sm x) : Sm (-x) := by unfold Sm at *; omega
theorem gForL_nil {gg : GG} {g : GS} : gForL gg g [] ρ cu = .ok (.nx ρ) cu := rfl
theorem gForL_cons {gg : GG} {g : GS} {d : PyData} {r : List PyData} : gForL gg g (d :: r) ρ cu = (Rs.ofO (gg d ρ) cu).bind fun ρ1 cu1 => (g ρ1 cu1).bind fun o cu2 => match o with
      | .nx ρ' => gForL gg g r ρ' cu2
      | .ct ρ' => gForL gg g r ρ' cu2
      | .brk ρ' => .ok (.nx ρ') cu2
      | .ret d => .ok (.ret d) cu2 := rfl
theorem gLcL_nil {gg : GG} {gt : GT} {ge : GE} : gLcL gg gt ge [] ρ cu = .ok [] cu := rfl
theorem gLcL_cons {gg : GG} {gt : GT} {ge : GE} {d : PyData} {r : List PyData} : gLcL gg gt ge (d :: r) ρ cu = (Rs.ofO (gg d ρ) cu).bind fun ρ1 cu1 => (gt ρ1 cu1).nox.bind fun b cu2 => if b = true then (ge ρ1 cu2).nox.bind fun y cu3 => (gLcL gg gt ge r ρ cu3).bind fun ys cu4 => .ok (y :: ys) cu4 else gLcL gg gt ge r ρ cu2 := rfl
/-- a comprehension that asks and tells without moving the cup -/
theorem gLcL_pure {gg : GG} {gt : GT} {ge : GE} (p : PyData → Bool) (f : PyData → PyData) : ∀ {ds : List PyData}, (∀ d ∈ ds, ∃ ρ1, gg d ρ = some ρ1 ∧ gt ρ1 cu = .ok (p d) cu ∧ (p d = true → ge ρ1 cu = .ok (f d) cu)) → gLcL gg gt ge ds ρ cu = .ok ((ds.filter p).map f) cu
  | [], _ => rfl
  | d :: r, h => by
    obtain ⟨ρ1, h1, h2, h3⟩ := h d (List.mem_cons_self ..)
    have ih := gLcL_pure (gg := gg) (gt := gt) (ge := ge) p f (ds := r) fun d hd => h d (List.mem_cons_of_mem _ hd)
    rw [gLcL_cons, h1, Rs.ofO_some, Rs.bind_ok, h2, Rs.nox_ok, Rs.bind_ok]
    cases hp : p d with
    | true => rw [if_pos rfl, h3 hp, Rs.nox_ok, Rs.bind_ok, ih, Rs.bind_ok, List.filter_cons_of_pos hp, List.map_cons]
    | false => rw [if_neg Bool.false_ne_true, ih, List.filter_cons_of_neg (by rw [hp]; exact Bool.false_ne_true)]
theorem gWhileF_zero {gt : GT} {g : GS} : gWhileF gt g 0 ρ cu = .stuck := rfl
theorem gWhileF_succ {gt : GT} {g : GS} {n : Nat} : gWhileF gt g (n + 1) ρ cu = (gt ρ cu).bind fun b cu1 => if b = true then (g ρ cu1).bind fun o cu2 => match o with
      | .nx ρ' => gWhileF gt g n ρ' cu2
      | .ct ρ' => gWhileF gt g n ρ' cu2
      | .brk ρ' => .ok (.nx ρ') cu2
      | .ret d => .ok (.ret d) cu2 else .ok (.nx ρ) cu1 := rfl
theorem dZip_tup {xs ys : List PyData} : dZip [.tuple xs, .tuple ys] = some (zipD xs ys) := rfl
theorem dZip_lst {xs ys : List PyData} : dZip [.list xs, .list ys] = some (zipD xs ys) := rfl
theorem zipD_cc {x y : PyData} {xs ys : List PyData} : zipD (x :: xs) (y :: ys) = .tuple [x, y] :: zipD xs ys := rfl
theorem zipD_nil : zipD [] [] = [] := rfl
theorem dRng1_ok (h : -(2 ^ 62) ≤ a ∧ a < 2 ^ 62) : dRng1 [.int a] = some (rngD 0 a.toNat) := if_pos h
theorem dRng2_ok (h : -(2 ^ 62) ≤ a ∧ a < 2 ^ 62 ∧ -(2 ^ 62) ≤ b ∧ b < 2 ^ 62) : dRng2 [.int a, .int b] = some (rngD a (b - a).toNat) := if_pos h
theorem cutD_1 {z : PyData} {r : List PyData} : cutD (z :: r) (some 1) none = r := by
  unfold cutD HT.sIx
  simp
theorem dCut_tup {xs : List PyData} {lo hi : Option Int} : dCut (.tuple xs) lo hi = some (.tuple (cutD xs lo hi)) := rfl
theorem dCut_lst {xs : List PyData} {lo hi : Option Int} : dCut (.list xs) lo hi = some (.list (cutD xs lo hi)) := rfl
end
end DL

set_option Elab.async false
set_option linter.all false
set_option maxRecDepth 100000
set_option maxHeartbeats 2000000
set_option autoImplicit false
/-! sum, max, min and all of a list -/
namespace DL
open PySem PySem.Spec PyProof.Rows L2
section
variable {X : Cx} {K : Kx}
def intsD : List PyData → Option (List Int)
  | [] => some []
  | .int i :: r => (intsD r).map fun ns => i :: ns
  | _ :: _ => none
def blsD : List PyData → Option (List Bool)
  | [] => some []
  | .bool i :: r => (blsD r).map fun ns => i :: ns
  | _ :: _ => none
theorem ints_rp {G : Hp} : ∀ {xs : List V} {ds : List PyData} {ns : List Int}, RpL K G xs ds → intsD ds = some ns → xs = ns.map V.int
  | _, _, _, .nil, e => by cases e; rfl
  | v :: vs, d :: ds, ns, .cons h r, e => by
    cases d with
    | int i =>
      rw [intsD] at e
      cases ei : intsD ds with
      | none => rw [ei] at e; cases e
      | some ms =>
        rw [ei] at e
        cases e
        rw [List.map_cons, h.int_of, ints_rp r ei]
    | _ => cases e
theorem bls_rp {G : Hp} : ∀ {xs : List V} {ds : List PyData} {ns : List Bool}, RpL K G xs ds → blsD ds = some ns → xs = ns.map V.bl
  | _, _, _, .nil, e => by cases e; rfl
  | v :: vs, d :: ds, ns, .cons h r, e => by
    cases d with
    | bool i =>
      rw [blsD] at e
      cases ei : blsD ds with
      | none => rw [ei] at e; cases e
      | some ms =>
        rw [ei] at e
        cases e
        rw [List.map_cons, h.bl_of, bls_rp r ei]
    | _ => cases e
def dSum : List PyData → Option PyData
  | [.list ds] => (intsD ds).map fun ns => .int ns.sum
  | _ => none
def dMaxL : List PyData → Option PyData
  | [.list ds] => (intsD ds).bind fun ns => ns.max?.map .int
  | _ => none
def dMinL : List PyData → Option PyData
  | [.list ds] => (intsD ds).bind fun ns => ns.min?.map .int
  | _ => none
def dAllL : List PyData → Option PyData
  | [.list ds] => (blsD ds).map fun bs => .bool (bs.all id)
  | _ => none
theorem callD_sum : CallD K (rSum X.K) dSum := by
  intro c H G cu vs ds z Q wd r hz q
  unfold dSum at hz
  split at hz
  · rename_i es
    obtain ⟨v, rfl, rv⟩ := r.one
    obtain ⟨a, xs, rfl, ha, ra⟩ := rv.lst_of
    cases ei : intsD es with
    | none => rw [ei] at hz; cases hz
    | some ns =>
      rw [ei] at hz
      cases hz
      refine ⟨a, ns, rfl, ?_, q _ H G Ext.refl wd (.int _)⟩
      rw [← ints_rp ra ei]
      exact SqL.of (wd.sub _ _ ha)
  · cases hz
theorem callD_maxL : CallD K (rMax X.K) dMaxL := by
  intro c H G cu vs ds z Q wd r hz q
  unfold dMaxL at hz
  split at hz
  · rename_i es
    obtain ⟨v, rfl, rv⟩ := r.one
    obtain ⟨a, xs, rfl, ha, ra⟩ := rv.lst_of
    cases ei : intsD es with
    | none => rw [ei] at hz; cases hz
    | some ns =>
      rw [ei] at hz
      have hz' : ns.max?.map PyData.int = some z := hz
      cases em : ns.max? with
      | none => rw [em] at hz'; cases hz'
      | some m =>
        rw [em] at hz'
        cases hz'
        obtain ⟨h1, h2⟩ := List.max?_eq_some_iff.mp em
        refine ⟨a, ns, rfl, ?_, List.length_pos_of_mem h1, fun m' k1 k2 => ?_⟩
        · rw [← ints_rp ra ei]
          exact SqL.of (wd.sub _ _ ha)
        · have : m' = m := Int.le_antisymm (h2 _ k1) (k2 _ h1)
          subst this
          exact q _ H G Ext.refl wd (.int _)
  · cases hz
theorem callD_minL : CallD K (rMin X.K) dMinL := by
  intro c H G cu vs ds z Q wd r hz q
  unfold dMinL at hz
  split at hz
  · rename_i es
    obtain ⟨v, rfl, rv⟩ := r.one
    obtain ⟨a, xs, rfl, ha, ra⟩ := rv.lst_of
    cases ei : intsD es with
    | none => rw [ei] at hz; cases hz
    | some ns =>
      rw [ei] at hz
      have hz' : ns.min?.map PyData.int = some z := hz
      cases em : ns.min? with
      | none => rw [em] at hz'; cases hz'
      | some m =>
        rw [em] at hz'
        cases hz'
        obtain ⟨h1, h2⟩ := List.min?_eq_some_iff.mp em
        refine ⟨a, ns, rfl, ?_, List.length_pos_of_mem h1, fun m' k1 k2 => ?_⟩
        · rw [← ints_rp ra ei]
          exact SqL.of (wd.sub _ _ ha)
        · have : m' = m := Int.le_antisymm (k2 _ h1) (h2 _ k1)
          subst this
          exact q _ H G Ext.refl wd (.int _)
  · cases hz
theorem callD_allL : CallD K (rAll X.K) dAllL := by
  intro c H G cu vs ds z Q wd r hz q
  unfold dAllL at hz
  split at hz
  · rename_i es
    obtain ⟨v, rfl, rv⟩ := r.one
    obtain ⟨a, xs, rfl, ha, ra⟩ := rv.lst_of
    cases ei : blsD es with
    | none => rw [ei] at hz; cases hz
    | some ns =>
      rw [ei] at hz
      cases hz
      refine ⟨a, ns, rfl, ?_, q _ H G Ext.refl wd (.bl _)⟩
      rw [← bls_rp ra ei]
      exact SqL.of (wd.sub _ _ ha)
  · cases hz
end
end DL

set_option Elab.async false
set_option linter.all false
set_option maxRecDepth 100000
set_option maxHeartbeats 2000000
set_option autoImplicit false
/-! a in range(..), tuples repeated, tuple(.. for .. in a tuple) of numbers -/
namespace DL
open PySem PySem.Spec PyProof.Rows L2
section
variable {X : Cx} {pins : List (Addr × Obj)} {σ : L2.St} {H : Hp} {s : Shared}
/-- a value told by what it holds, one tuple deep -/
def DV (h : Heap) (u : Value) : PyData → Prop
  | .int i => ∃ t, u = .int i t
  | .tuple ds => ∃ (a : Addr) (its : List Value), u = .ref a ∧ h.IsTuple a its.toArray ∧ its.length = ds.length ∧ ∀ (j : Nat) (i : Int), ds[j]? = some (.int i) → ∃ t, its[j]? = some (.int i t)
  | _ => True
theorem DV.keep {h h' : Heap} {u : Value} {P : Addr} {ps : Array Value} (hP : h.get? P = some { cls := .none, data := .fields ps }) (k : ∀ b o, b ≠ P → h.get? b = some o → h'.get? b = some o) {d : PyData} (x : DV h u d) : DV h' u d := by
  cases d with
  | int i => exact x
  | tuple ds =>
    obtain ⟨a, its, e, ⟨o, e1, e2, e3⟩, r⟩ := x
    exact ⟨a, its, e, ⟨o, k a o (fun z => by
      rw [z, hP] at e1
      cases e1
      cases e2) e1, e2, e3⟩, r⟩
  | _ => trivial
theorem dv_of {K : Kx} (hKF : K.F = X.K) {x : V} {u : Value} {d : PyData} (I : Inv X pins σ H s) (rv : RelV x u) (r : Rp K H x d) : DV s.heap u d := by
  cases r with
  | int i => obtain ⟨t, q⟩ := (show ∃ t, u = Value.int i t from rv); cases q; exact ⟨t, rfl⟩
  | @tupA a xs ds ea rl =>
    cases (show u = Value.ref a from rv)
    obtain ⟨its, hvs, ⟨o, h1, h2, h3⟩, _⟩ := I.tuple (ea.sq' hKF)
    refine ⟨a, its, rfl, ⟨o, h1, h2, by first | exact h3 | exact ⟨_, h3⟩ | exact h3.1⟩, by rw [← hvs.length, rl.length], fun j i e => ?_⟩
    obtain ⟨v, e1, rp⟩ := rl.get e
    obtain ⟨u', e2, rv'⟩ := hvs.get e1
    cases rp
    obtain ⟨t, rfl⟩ := (show ∃ t, u' = Value.int i t from rv')
    exact ⟨t, e2⟩
  | _ => trivial
/-- the numbers that the inner block reads of the def -/
def CellsOk (X : Cx) (scope : Scope) (σ : L2.St) (cells : List (Str × Addr)) (h : Heap) : Prop := ∀ (i : Nat) (y : Str) (zc : Int), X.N[i]? = some y → σ[i]? = some (some (.int zc)) → scope.names.lookup y = some .free → ∃ c t, cells.lookup y = some c ∧ h.IsCell c (some (.int zc t))
/-- the element of d is the number z -/
def EltZ (X : Cx) (scope : Scope) (x : Str) (elt : Expr) (σ : L2.St) (d : PyData) (z : Int) : Prop := ∀ (cenv : Env) (A' : Around) (E' : Value → Shared → Prop) (s₂ : Shared) (m₂ : Str → Option Value) (v : Value), cenv.scope = scope → CellsOk X scope σ cenv.cells s₂.heap →
  s₂.heap.Ns cenv.locals m₂ → m₂ x = some v → DV s₂.heap v d → wpAny (model X.prog X.w) A' (eval elt cenv) (fun y s₃ => (∃ t, y = .int z t) ∧ Keeps s₂ s₃) E' s₂
def EltsZ (X : Cx) (scope : Scope) (x : Str) (elt : Expr) (σ : L2.St) (ds : List PyData) (zs : List Int) : Prop := ds.length = zs.length ∧ ∀ (i : Nat) (d : PyData) (z : Int), ds[i]? = some d → zs[i]? = some z → EltZ X scope x elt σ d z
/-- the generator g over the numbers zs, ready to be walked -/
def ReadyZ (X : Cx) (pins : List (Addr × Obj)) (σ : L2.St) (H1 : Hp) (T : List (Addr × Str)) (zs : List Int) (g : Addr) (s5 : Shared) : Prop :=
  ∃ (fp wr : List Addr) (G : Array GenState → Array GenState → Prop) (F : Nat → Value → Prop) (St : Nat → Shared → Prop),
    WalksS X.prog X.w X.A.in1.in1.in1 g fp wr G zs.length F St ∧ St 0 s5 ∧ (∀ i s, St i s → s.TypeIs (.ref g) "generator") ∧ (∀ b ∈ fp, b < s5.heap.objs.size) ∧ g ∈ fp ∧ (∀ j y, F j y → ∃ z t, zs[j]? = some z ∧ y = .int z t) ∧
    ∀ s', Moved wr G s5 s' → ∃ H2, (∀ b o, H1 b = some o → NT o → H2 b = some o) ∧ LamX.Tabs T H2 ∧ Inv X pins σ H2 s'
theorem gen_tupz {K : Kx} {c P : Addr} {iter elt : Expr} {x : Str} {px gpos : Pos} {scope : Scope} {te : TE} {k : Nat} {Q' : Value → Shared → Prop} {R : List PyData → List Int → Hp → Prop} {T : List (Addr × Str)}
    (hr : Room (k + 2) X.A) (TB : LamX.TabB X.base X.mg c P) (hcode : X.env.code = .ref c) (S : GxR.GenS X.env scope x) (hfs : ∀ y ∈ scope.names, y.2 = .free → X.env.scope.names.lookup y.1 = some .cell ∨ X.env.scope.names.lookup y.1 = some .free) (hi : PE X iter te) (hmT : (P, X.env.qual ++ "<genexpr>") ∈ T) (hu : ∀ p ∈ T, p.1 = P → p.2 = X.env.qual ++ "<genexpr>")
    (hs : ∀ v, genFold iter X.env v = pure v) (hKF : K.F = X.K) (I : Inv X pins σ H s) (h : te σ H fun v H1 => ∃ a xs ds zs, v = .ref a ∧ SqT X.K H1 a xs ∧ RpL K H1 xs ds ∧ LamX.Tabs T H1 ∧ EltsZ X scope x elt σ ds zs ∧ R ds zs H1)
    (hQ : ∀ ds zs H1 g s5, ds.length = zs.length → R ds zs H1 → ReadyZ X pins σ H1 T zs g s5 → Q' (.ref g) s5) :
    wpAny (model X.prog X.w) X.A (eval (.GeneratorExp elt [⟨.Name x px, iter, [], 0⟩] scope gpos) X.env) Q' X.xe s := by
  refine wpAny_GeneratorExp_walksQD hr.hd S.co (closure_ok S.free) S.cell S.dot S.loc S.kind (by have := hr.dp; omega) ?_ hs
  refine thn (hi.run pins s σ H _ I h) fun xv s1 ⟨v, H1, I1, r1, q1⟩ => ?_
  obtain ⟨a, xs, ds, zs, rfl, ha, hds, hTs, ⟨hzl, helt⟩, q1⟩ := q1
  obtain rfl : xv = .ref a := r1
  obtain ⟨its, hvs, ht, _⟩ := I1.tuple ha
  have htI : s1.heap.IsTuple a its.toArray := by
    obtain ⟨o, e1, e2, e3⟩ := ht
    exact ⟨o, e1, e2, by first | exact e3 | exact ⟨_, e3⟩ | exact e3.1⟩
  obtain ⟨ps, hP, htr, hamong⟩ := hTs _ hmT
  refine wpAny_pyIter_tuple htI ?_
  have hPs : s1.heap.get? P = some { cls := .none, data := .fields ps } := I1.hok P _ hP
  have hPlt : P < s1.heap.objs.size := Heap.lt_size hPs
  have haP : a ≠ P := fun z => by
    obtain ⟨o, e1, e2, _⟩ := htI
    rw [z, hPs] at e1; cases e1; cases e2
  have hlen : its.length = ds.length := by rw [← hvs.length, hds.length]
  have hal : a < s1.heap.objs.size := let ⟨o, e, _⟩ := htI; Heap.lt_size e
  have hkit : ∀ (i : Nat) (u : Value), its[i]? = some u → ∃ d, ds[i]? = some d ∧ DV s1.heap u d := fun i u e => by
    have hi := (List.getElem?_eq_some_iff.mp e).1
    have hd : ds[i]? = some (ds[i]'(by omega)) := List.getElem?_eq_getElem _
    obtain ⟨v, e1, rp⟩ := hds.get hd
    obtain ⟨u', e2, rv⟩ := hvs.get e1
    rw [e] at e2
    cases e2
    exact ⟨_, hd, dv_of hKF I1 rv rp⟩
  generalize ho : ({ cls := .type "tuple_iterator", data := .fields #[.ref a, .int 0 0] } : Obj) = o
  have hP2 : (s1.heap.push o).get? P = some { cls := .none, data := .fields ps } := Heap.get?_push_of_some _ hPs
  have cd : PySem.W.CodeHd (s1.heap.push o) c P := TB.code.keeps fun b u e => Heap.get?_push_of_some _ (I1.bk b u e)
  have lim2 : (s1.heap.push o).NoLimit := I1.nolimit.push o
  have hit2 : (s1.heap.push o).IsTupleIter s1.heap.objs.size a 0 := ⟨o, Heap.get?_push_size _ (by rw [← ho]; rfl), by rw [← ho], by rw [← ho]; rfl⟩
  have hti2 : (s1.heap.push o).IsTuple a its.toArray := let ⟨u, e, r⟩ := htI; ⟨u, Heap.get?_push_of_some _ e, r⟩
  have sz2 : (s1.heap.push o).objs.size = s1.heap.objs.size + 1 := Heap.size_push ..
  -- behind the making of the code object: h3, with the code at `code`
  have cont : ∀ (code : Value) (h3 : Heap) (tk : Nat), Heap.ExtBut P (s1.heap.push o) h3 → (s1.heap.push o).objs.size ≤ h3.objs.size →
      (∀ s' : Shared, s'.os = s1.os → AllBare s'.gens → (∀ b u, b < h3.objs.size → b ≠ s1.heap.objs.size → h3.get? b = some u → s'.heap.get? b = some u) → ∃ H2, (∀ b o, H1 b = some o → NT o → H2 b = some o) ∧ LamX.Tabs T H2 ∧ Inv X pins σ H2 s') →
      wpAny (model X.prog X.w) X.A (builtinsFor X.env.globals X.env.builtins) (fun bi s₄ =>
        ∃ Ia fp wr n₀ Pf St₀ pz F, Value.ref s1.heap.objs.size = .ref Ia ∧ (∀ A' : Around, A'.handled = none → Walks X.prog X.w A' Ia fp wr n₀ Pf St₀) ∧ St₀ 0 s₄.heap ∧ (∀ b ∈ fp, b < s₄.heap.objs.size) ∧ s₄.heap.NoLimit ∧ cStatics ∉ wr ∧
          (∀ href : Heap, (∀ b o, s₄.heap.get? b = some o → href.get? b = some o) →
            QuietGenD X.prog X.w (genEnv scope (cloFrom X.env.cells scope.names []) s₄.heap.objs.size code bi X.env) x [] elt (List.range s₄.heap.objs.size) wr Pf pz F href (X.A.depth + 1) (X.A.units + 8)) ∧
          (∀ a h₅ tk gs, gs.bare = true → s₄.heap.objs.size < a → h₅.objs.size = a + 1 → (∀ b o, s₄.heap.get? b = some o → h₅.get? b = some o) →
            WalksS X.prog X.w X.A.in4 a (a :: s₄.heap.objs.size :: List.range s₄.heap.objs.size) (s₄.heap.objs.size :: wr) (GenOnlyQ s₄.gens.size) (passing pz n₀ 0).length
              (fun j y => ∃ i, (passing pz n₀ 0)[j]? = some i ∧ F i y) (GenAt X.prog X.w X.A.in4 a s₄.gens.size s₄.heap.objs.size (List.range s₄.heap.objs.size) wr pz n₀ F) →
            GenAt X.prog X.w X.A.in4 a s₄.gens.size s₄.heap.objs.size (List.range s₄.heap.objs.size) wr pz n₀ F 0 { s₄ with gens := s₄.gens.push gs, toks := tk, heap := h₅ } →
            Q' (.ref a) { s₄ with gens := s₄.gens.push gs, toks := tk, heap := h₅ })) X.xe { s1 with heap := h3, toks := tk } := by
    intro code h3 tk hx hsz hfin
    obtain ⟨bm, ob, e1, e2, e3, e4, e5, e6, e7, e8⟩ := TB.bm
    have hcP : cStatics ≠ P := fun e => by
      obtain ⟨_, hns, _⟩ := I1.nolimit
      obtain ⟨o', es, ep, ho, hd, _⟩ := hns
      rw [e, hPs] at ho
      cases ho
      cases hd
    have hcl : cStatics < s1.heap.objs.size := let ⟨_, hns, _⟩ := I1.nolimit; hns.lt
    have keep3 : ∀ b u, b ≠ P → s1.heap.get? b = some u → h3.get? b = some u := fun b u hb e => hx b u hb (Heap.get?_push_of_some _ e)
    have lim3 : h3.NoLimit := lim2.extBut hx hcP
    refine wpAny_builtinsFor (m := X.mg) (by rw [I1.ok.glob]; exact ((I1.mod.glob.keeps I1.bk).push o).extBut hx TB.gP) e1 e2 (keep3 _ _ e4 (I1.bk _ _ e5)) e6 e7 e8 ?_
    refine ⟨s1.heap.objs.size, [s1.heap.objs.size, a], [s1.heap.objs.size], its.toArray.size, (fun i v => its.toArray[i]? = some v), (fun i h => h.IsTupleIter s1.heap.objs.size a i ∧ h.IsTuple a its.toArray), (fun _ => true), (fun i y => ∃ z t, zs[i]? = some z ∧ y = .int z t), rfl,
      fun A' hA => Walks.tuple hA _ _ (Nat.ne_of_lt hal) _, ⟨?_, ?_⟩, ?_, lim3, ?_, ?_, ?_⟩
    · obtain ⟨u, e, r⟩ := hit2
      exact ⟨u, hx _ u (Nat.ne_of_gt hPlt) e, r⟩
    · obtain ⟨u, e, r⟩ := hti2
      exact ⟨u, hx _ u haP e, r⟩
    · intro b hb
      show b < h3.objs.size
      rcases List.mem_cons.mp hb with z | z
      · rw [z]; exact Nat.lt_of_lt_of_le (by rw [sz2]; exact Nat.lt_succ_self _) hsz
      · rcases List.mem_cons.mp z with z | z
        · rw [z]; exact Nat.lt_of_lt_of_le (Nat.lt_trans hal (by rw [sz2]; exact Nat.lt_succ_self _)) hsz
        · cases z
    · intro z
      rcases List.mem_cons.mp z with z | z
      · exact Nat.ne_of_lt hcl z
      · cases z
    · intro href hhref
      refine ⟨fun A' E' i v s₂ m₂ hA _ _ hPv hn hm hk => ?_, fun A' E' i v s₂ m₂ hA hdep huni hPv hp hn hm hk => ?_⟩
      · simp only [List.forIn_nil]
        exact wpAny_pure ⟨rfl, GxR.keeps_refl _⟩
      · have hPv' : its[i]? = some v := by rw [← List.getElem?_toArray]; exact hPv
        obtain ⟨d, hd, kd⟩ := hkit i v hPv'
        have up : ∀ b u, b ≠ P → s1.heap.get? b = some u → s₂.heap.get? b = some u := fun b u hb e => by
          have e3 := keep3 b u hb e
          have hl := Heap.lt_size e
          refine hk b (List.mem_range.mpr (Heap.lt_size e3)) (fun z => ?_) u (hhref b u e3)
          rcases List.mem_cons.mp z with z | z
          · rw [z] at hl; exact Nat.lt_irrefl _ hl
          · cases z
        have bsk : ∀ b u, X.base.get? b = some u → s₂.heap.get? b = some u := fun b u e => up b u (fun z => by
          have h0 := (I1.bs b u e).2
          have h1 : H1 P = some (.tbl ps) := hP
          rw [z, h1] at h0; cases h0) (I1.bk b u e)
        have hz : zs[i]? = some (zs[i]'(by have := (List.getElem?_eq_some_iff.mp hd).1; omega)) := List.getElem?_eq_getElem _
        refine wpAny_mono (helt i d _ hd hz _ A' E' s₂ m₂ v rfl (fun j y zc f1 f2 f3 => ?_) hn hm (kd.keep hPs up)) (fun y s₃ hy => ?_) fun _ _ e => e
        · obtain ⟨m, hn1, hl1⟩ := I1.loc
          have hvis : Vis X.env.scope y := (hfs _ (PySem.mem_of_lookup f3) rfl).elim (fun k => .inr (.inl k)) (fun k => .inr (.inr k))
          obtain ⟨w', r, q⟩ := hl1 j y (.int zc) f1 f2 hvis
          obtain ⟨t, rfl⟩ := r
          obtain ⟨c2, h2⟩ : ∃ c2, (cloFrom X.env.cells scope.names []).lookup y = some c2 := mem_lookup (cloFrom_has (cells := X.env.cells) (acc := []) (PySem.mem_of_lookup f3))
          refine ⟨c2, t, h2, ?_⟩
          have c1 : X.env.cells.lookup y = some c2 := by
            rcases cloFrom_mem (PySem.mem_of_lookup h2) with hm' | ⟨_, g2⟩
            · cases hm'
            · obtain ⟨c1, hc⟩ := S.free _ (PySem.mem_of_lookup f3) rfl
              have hc : X.env.cells.lookup y = some c1 := hc
              have e2 : c2 = c1 := by
                rw [g2, hc] <;> rfl
              rw [e2]
              exact hc
          rcases q with ⟨k', _⟩ | ⟨_, c3, e', ⟨o3, g3, g4⟩⟩
          · have k' : X.env.scope.names.lookup y = some .local := k'
            rcases hfs _ (PySem.mem_of_lookup f3) rfl with k2 | k2 <;> rw [show X.env.scope.names.lookup y = _ from k2] at k' <;> cases k'
          · rw [c1] at e'
            cases e'
            exact ⟨o3, up _ _ (fun z => by rw [z, hPs] at g3; cases g3; cases g4) g3, g4⟩
        · obtain ⟨⟨t, rfl⟩, hk3⟩ := hy
          exact ⟨⟨_, t, hz, rfl⟩, hk3⟩
    · intro g h5 tk5 gs hgb hag hsz5 hk5 W5 hat
      simp only [GxR.passing_true, List.length_range] at W5
      have hn0 : its.toArray.size = ds.length := by rw [List.size_toArray, hlen]
      rw [hn0] at W5 hat
      have W6 := W5.in4_3
      rw [hzl] at W6 hat
      refine hQ ds zs H1 g _ hzl q1 ⟨_, _, _, _, _, W6, hat, fun i s' h' => ?_, fun b hb => ?_, List.mem_cons_self .., ?_, fun s' hm => ?_⟩
      · exact Heap.IsGen.typeIs h'.1
      · show b < h5.objs.size
        rw [hsz5]
        rcases List.mem_cons.mp hb with z | z
        · rw [z]; exact Nat.lt_succ_self _
        · rcases List.mem_cons.mp z with z | z
          · rw [z]; exact Nat.lt_succ_of_lt hag
          · exact Nat.lt_succ_of_lt (Nat.lt_trans (List.mem_range.mp z) hag)
      · intro j y hy
        obtain ⟨i, hij, z, t, hz, rfl⟩ := hy
        obtain ⟨hj, ej⟩ := List.getElem?_eq_some_iff.mp hij
        rw [List.getElem_range] at ej
        subst ej
        exact ⟨z, t, hz, rfl⟩
      · refine hfin s' hm.os (AllBare.movedS (I1.bare.push hgb) hm) fun b u hl hne e => hm.heap b u (fun z => ?_) (hk5 b u e)
        rcases List.mem_cons.mp z with z | z
        · rw [z] at hl
          exact Nat.lt_irrefl _ hl
        · rcases List.mem_cons.mp z with z | z
          · exact hne z
          · cases z
  refine ⟨lim2, ?_⟩
  cases hf : codeAmong gpos ps.toList with
  | none =>
    refine wpAny_genexprCodeX hcode (cd.code hP2 htr) (cd.tab hP2) hf fun c' h' tk hx hge hlt hco' hrec htab' _ => ?_
    obtain ⟨o1, vs, f1, tf, fl, tg, inF, tx, tt, op, _, _, _, _, _, _, _, _, _, htr', _⟩ := hco'
    refine cont _ h' tk hx (Nat.le_trans hge (Nat.le_of_lt hlt)) fun s' hos hgb hk => ?_
    have hge' : s1.heap.objs.size + 1 ≤ c' := Nat.le_trans (Nat.le_of_eq sz2.symm) hge
    have hcge : s1.heap.objs.size ≤ c' := Nat.le_trans (Nat.le_succ _) hge'
    have nC : H1 c' = none := I1.hok.fresh hcge
    obtain ⟨c2, oc, vs2, t2, e2, hoc, hdc, hvc⟩ := hrec
    cases e2
    have J := inv_table' (c := c') (q := X.env.qual ++ "<genexpr>") (more := #[rawInt gpos.line, rawInt gpos.col, .ref c']) (h' := s'.heap) (g' := s'.gens) (d' := s'.drawn) (t' := s'.toks) I1 hP
      (fun b u hb e => hk b u (Heap.lt_size (hx b u hb (Heap.get?_push_of_some _ e))) (Nat.ne_of_lt (Heap.lt_size e)) (hx b u hb (Heap.get?_push_of_some _ e)))
      (hk P _ (Nat.lt_trans (Nat.lt_of_lt_of_le hPlt hcge) hlt) (Nat.ne_of_lt hPlt) htab'.2) hcge ⟨oc, vs2, t2, hk c' _ hlt (Nat.ne_of_gt hge') hoc, hdc, hvc⟩ hgb
    rw [GxR.sh_eta s1 s' hos] at J
    refine ⟨_, fun b u e n => ?_, fun p hp => ?_, J⟩
    · rw [upd_ne (ne_of_none e nC), upd_ne (fun z => n ps (Option.some.inj (e.symm.trans (by rw [z]; exact hP))))]
      exact e
    · by_cases hb : p.1 = P
      · rw [hu p hp hb, hb]
        have eL : (ps ++ #[rawInt gpos.line, rawInt gpos.col, .ref c']).toList = ps.toList ++ [rawInt gpos.line, rawInt gpos.col, .ref c'] := by simp
        refine ⟨_, by rw [upd_ne (ne_of_none hP nC), upd_same], by rw [eL]; exact PySem.TriplesOk_snoc _ _ _ _ htr, fun p' cv hcv => ?_⟩
        rw [eL] at hcv
        rcases LamX.among_app _ htr hcv with z | z
        · obtain ⟨c0, e1, e2⟩ := hamong p' cv z
          refine ⟨c0, e1, ?_⟩
          rw [upd_ne (ne_of_none e2 nC), upd_ne (fun z => by rw [z] at e2; have h1 : H1 P = some (.tbl ps) := hP; rw [h1] at e2; exact LamX.codeO_ne ps (Option.some.inj e2).symm)]
          exact e2
        · exact ⟨c', z, upd_same⟩
      · obtain ⟨ps', a1, a2, a3⟩ := hTs p hp
        refine ⟨ps', by rw [upd_ne (ne_of_none a1 nC), upd_ne hb]; exact a1, a2, fun p' cv hcv => ?_⟩
        obtain ⟨c0, e1, e2⟩ := a3 p' cv hcv
        refine ⟨c0, e1, ?_⟩
        rw [upd_ne (ne_of_none e2 nC), upd_ne (fun z => by rw [z] at e2; have h1 : H1 P = some (.tbl ps) := hP; rw [h1] at e2; exact LamX.codeO_ne ps (Option.some.inj e2).symm)]
        exact e2
  | some cv =>
    refine wpAny_genexprCode_hit hcode (cd.code hP2 htr) hf ?_
    refine cont cv (s1.heap.push o) s1.toks (Heap.ExtBut.refl _ _) (Nat.le_refl _) fun s' hos hgb hk => ?_
    have J := inv_gens (h' := s'.heap) (g' := s'.gens) (d' := s'.drawn) (t' := s'.toks) I1 (fun b u e => hk b u (Nat.lt_trans (Heap.lt_size e) (by rw [sz2]; exact Nat.lt_succ_self _)) (Nat.ne_of_lt (Heap.lt_size e)) (Heap.get?_push_of_some _ e)) hgb
    rw [GxR.sh_eta s1 s' hos] at J
    exact ⟨H1, fun _ _ e _ => e, hTs, J⟩theorem vals_ints : ∀ (zs : List Int) (ys : List Value), ys.length = zs.length → (∀ (j : Nat) (y : Value), ys[j]? = some y → ∃ z t, zs[j]? = some z ∧ y = .int z t) → Vals (zs.map V.int) ys
  | [], [], _, _ => .nil
  | [], _ :: _, h, _ => by cases h
  | _ :: _, [], h, _ => by cases h
  | z :: zs, y :: ys, h, k => by
    obtain ⟨z', t, e1, e2⟩ := k 0 y rfl
    cases e1
    exact .cons ⟨t, e2⟩ (vals_ints zs ys (Nat.succ.inj h) fun j y' e => by
      obtain ⟨z', t', e1, e2⟩ := k (j + 1) y' (by simpa using e)
      exact ⟨z', t', by simpa using e1, e2⟩)
def tTupZ (X : Cx) (K : Kx) (scope : Scope) (x : Str) (elt : Expr) (T : List (Addr × Str)) (te : TE) : TE := fun σ H Q => te σ H fun v H1 => ∃ a xs ds zs, v = .ref a ∧ SqT X.K H1 a xs ∧ RpL K H1 xs ds ∧ LamX.Tabs T H1 ∧ EltsZ X scope x elt σ ds zs ∧
  (zs.length ≤ sizeLine ∧ ∀ H2, (∀ b o, H1 b = some o → NT o → H2 b = some o) → LamX.Tabs T H2 → ∀ q, H2 q = none → Q (.ref q) (upd H2 q (.tup (zs.map V.int))))
end
section
variable {X : Cx}
def gxB (sc scope : Scope) (x : Str) : Bool :=
  decide (scope.kind = .function) && !scope.isCoroutine && decide (scope.names.lookup (".0" : Str) = some .local) && decide (scope.names.lookup x = some .local) && scope.names.all fun y => !decide (y.2 = .cell) && (!decide (y.2 = .free) || decide (sc.names.lookup y.1 = some .cell) || decide (sc.names.lookup y.1 = some .free))
theorem gx_of {scope : Scope} {x : Str} (ok : X.Ok) (h : gxB X.env.scope scope x = true) : GxR.GenS X.env scope x ∧ ∀ y ∈ scope.names, y.2 = .free → X.env.scope.names.lookup y.1 = some .cell ∨ X.env.scope.names.lookup y.1 = some .free := by
  unfold gxB at h
  simp only [Bool.and_eq_true, Bool.or_eq_true, Bool.not_eq_true', decide_eq_true_eq, decide_eq_false_iff_not, List.all_eq_true] at h
  obtain ⟨⟨⟨⟨h1, h2⟩, h3⟩, h4⟩, h5⟩ := h
  have hf : ∀ y ∈ scope.names, y.2 = .free → X.env.scope.names.lookup y.1 = some .cell ∨ X.env.scope.names.lookup y.1 = some .free := fun y hy e => by
    rcases (h5 y hy).2 with (z | z) | z
    · exact absurd e z
    · exact .inl z
    · exact .inr z
  exact ⟨⟨h1, h2, fun y hy => (h5 y hy).1, h3, h4, fun y hy e => (hf y hy e).elim (fun k => ok.has _ (.inl k)) (fun k => ok.has _ (.inr k))⟩, hf⟩
theorem pe_tupZ {K : Kx} {c P : Addr} {iter elt : Expr} {x : Str} {px p pos gpos : Pos} {scope : Scope} {te : TE} {k : Nat} {T : List (Addr × Str)}
    (hr : Room (k + 2) X.A) (hg : Gl X "tuple") (hm : X.mg "tuple" = none) (TB : LamX.TabB X.base X.mg c P) (hcode : X.env.code = .ref c) (S0 : gxB X.env.scope scope x = true) (hi : PE X iter te)
    (hmT : (P, X.env.qual ++ "<genexpr>") ∈ T) (hu : ∀ p ∈ T, p.1 = P → p.2 = X.env.qual ++ "<genexpr>") (hs : ∀ v, genFold iter X.env v = pure v) (hKF : K.F = X.K := by assumption)
    (he : starEach [.GeneratorExp elt [⟨.Name x px, iter, [], 0⟩] scope gpos] X.env = (false, eval (.GeneratorExp elt [⟨.Name x px, iter, [], 0⟩] scope gpos) X.env) :: starEach [] X.env := by rfl) :
    PE X (.Call (.Name "tuple" p) [.GeneratorExp elt [⟨.Name x px, iter, [], 0⟩] scope gpos] [] pos) (tTupZ X K scope x elt T te) := by
  refine ⟨fun pins s σ H Q I h => ?_⟩
  obtain ⟨S, hfs⟩ := gx_of I.ok S0
  refine wpAny_Call_Name_kw (ld_blt I hg hm bb_tuple ?_)
  refine PyProof.Rows.callWith_type1 ?_ he rfl
  rw [he]
  show wpAny _ _ (spliced ((false, eval (.GeneratorExp elt [⟨.Name x px, iter, [], 0⟩] scope gpos) X.env) :: backTo pos (starEach [] X.env))) _ _ s
  refine Calls.spliced_cons (gen_tupz (R := fun ds zs H1 => zs.length ≤ sizeLine ∧ ∀ H2 : Hp, (∀ (b : Addr) (o : HO), H1 b = some o → NT o → H2 b = some o) → LamX.Tabs T H2 → ∀ q, H2 q = none → Q (.ref q) (upd H2 q (.tup (zs.map V.int)))) hr TB hcode S hfs hi hmT hu hs hKF I h fun ds zs H1 g s5 hl hR hG => ?_)
  obtain ⟨fp, wr, G, F, St, W, hst, hT, hfp, hgf, hF, hI⟩ := hG
  refine Calls.spliced_nil ?_
  refine call_tuple_gen (hsz := hR.1) W hT hst hfp hgf fun s' acc hmv hacc => ?_
  obtain ⟨H2, hK, hT2, J⟩ := hI s' hmv
  refine ⟨.ref s'.heap.objs.size, upd H2 s'.heap.objs.size (.tup (zs.map V.int)), J.laid (t' := s'.toks) (fun b o e => Heap.get?_push_of_some _ e) (Nat.le_refl _) ?_, rfl, hR.2 H2 hK hT2 _ (J.hok.fresh (Nat.le_refl _))⟩
  refine ⟨by rw [List.length_map]; exact hR.1, acc.toList, vals_ints zs acc.toList (by rw [Array.length_toList]; exact hacc.1) fun j y e => hF j y (hacc.2 j y (by simpa using e)), ?_⟩
  exact ⟨_, Heap.get?_push_size _ rfl, rfl, 0, by simp⟩
/-! the elements -/
def EltD (X : Cx) (scope : Scope) (x : Str) (elt : Expr) (f : En → PyData → Option Int) : Prop := ∀ (K : Kx) (c : Option Addr) (H0 : Hp) (σ : L2.St) (H G : Hp) (ρ : En), Rep K c H0 σ H G ρ → ∀ d z, f ρ d = some z → EltZ X scope x elt σ d z
section
variable {scope : Scope} {x y : Str} {p p1 p2 : Pos} {fa fb ft : En → PyData → Option Int} {a b e : Expr}
theorem ei_item (hk : scope.kind = .function) (hl : scope.names.lookup x = some .local) (hd : (x == ("__debug__" : Str)) = false := by decide) : EltD X scope x (.Name x p) (fun _ d => dInt d) := by
  intro KK c H0 σ H G ρ r d z hz cenv A' E' s m v hsc hc hn hm hv
  have hz : dInt d = some z := hz
  have ed : d = .int z := by cases d <;> first | (cases hz; rfl) | cases hz
  subst ed
  obtain ⟨t, rfl⟩ := (show ∃ t, v = Value.int z t from hv)
  exact wpAny_Name (wpAny_loadName_local (by rw [hsc]; exact hk) (show cenv.scope.names.lookup x = some .local by rw [hsc]; exact hl) hn hm ⟨⟨t, rfl⟩, GxR.keeps_refl _⟩) hd
def atZ (i : Nat) (ρ : En) : Option Int := match ρ[i]? with
  | some (.dat (.int z)) => some z
  | _ => none
theorem ei_cell {i : Nat} (hk : scope.kind = .function) (hN : X.N[i]? = some y) (hl : scope.names.lookup y = some .free) (hd : (y == ("__debug__" : Str)) = false := by decide) (hcd : (y == ("__classdict__" : Str)) = false := by decide) : EltD X scope x (.Name y p) (fun ρ _ => atZ i ρ) := by
  intro KK c H0 σ H G ρ r d z hz cenv A' E' s m v hsc hc hn hm hv
  have e : ρ[i]? = some (.dat (.int z)) := by
    have hz : atZ i ρ = some z := hz
    unfold atZ at hz
    split at hz
    · rename_i e; cases hz; exact e
    · cases hz
  obtain ⟨w, e1, rw'⟩ := r.dat i _ e
  have ew := rw'.int_of
  subst ew
  obtain ⟨cc, t, h1, h2⟩ := hc i y z hN e1 hl
  exact wpAny_Name (wpAny_loadName_free (by rw [hsc]; exact hk) (show cenv.scope.names.lookup y = some .free by rw [hsc]; exact hl) h1 h2 ⟨⟨t, rfl⟩, GxR.keeps_refl _⟩ hcd) hd
theorem ei_const {i : Int} {j : Nat} : EltD X scope x (.Constant (.int i) j p) (fun _ _ => some i) := by
  intro KK c H0 σ H G ρ r d z hz cenv A' E' s m v hsc hc hn hm hv
  cases hz
  exact wpAny_Constant_int ⟨⟨_, rfl⟩, GxR.keeps_tok _ _⟩
theorem CellsOk.keep {σ : L2.St} {cells : List (Str × Addr)} {h h' : Heap} (k : CellsOk X scope σ cells h) (e : ∀ b o, h.get? b = some o → h'.get? b = some o) : CellsOk X scope σ cells h' := fun i y z h1 h2 h3 =>
  let ⟨c, t, e1, e2⟩ := k i y z h1 h2 h3
  ⟨c, t, e1, e2.keeps e⟩
theorem DV.keeps {h h' : Heap} {u : Value} (k : ∀ b o, h.get? b = some o → h'.get? b = some o) {d : PyData} (x : DV h u d) : DV h' u d := by
  cases d with
  | int i => exact x
  | tuple ds =>
    obtain ⟨a, its, e, ⟨o, e1, e2, e3⟩, r⟩ := x
    exact ⟨a, its, e, ⟨o, k a o e1, e2, e3⟩, r⟩
  | _ => trivial
theorem ei_div (ha : EltD X scope x a fa) (hb : EltD X scope x b fb) : EltD X scope x (.BinOp a .FloorDiv b p) (fun ρ d => (fa ρ d).bind fun i => (fb ρ d).bind fun j => if divOk i j = true then some (i.fdiv j) else none) := by
  intro KK c H0 σ H G ρ r d z hz cenv A' E' s m v hsc hc hn hm hv
  obtain ⟨i, e1, hz⟩ := Option.bind_eq_some_iff.mp hz
  obtain ⟨j, e2, hz⟩ := Option.bind_eq_some_iff.mp hz
  split at hz
  case isFalse => cases hz
  rename_i ho
  cases hz
  unfold divOk at ho
  rw [Bool.and_eq_true, decide_eq_true_eq, decide_eq_true_eq] at ho
  refine wpAny_BinOp (wpAny_mono (ha KK c H0 σ H G ρ r d i e1 cenv A' E' s m v hsc hc hn hm hv) (fun u s1 hu => ?_) fun _ _ e => e)
  obtain ⟨⟨t, rfl⟩, h1, t1, rfl, k1⟩ := hu
  refine wpAny_mono (hb KK c H0 σ H G ρ r d j e2 cenv A' E' _ m v hsc (hc.keep k1) (hn.keeps k1) hm (hv.keeps k1)) (fun u s1 hu => ?_) fun _ _ e => e
  obtain ⟨⟨t2, rfl⟩, h2, t3, rfl, k2⟩ := hu
  exact floordiv_int ho.1 ⟨⟨_, rfl⟩, ⟨h2, _, rfl, fun b o e => k2 b o (k1 b o e)⟩⟩ (.inl (PyProof.noPylong_of_log2 ho.2))
theorem ei_ifc (ht : EltD X scope x e ft) (ha : EltD X scope x a fa) (hb : EltD X scope x b fb) (he : ∀ (cenv : Env) whole, isTrue e cenv whole = (do let v ← whole; standAt e.pos; holding [v] (truthy v)) := by intro _ _; rfl) :
    EltD X scope x (.IfExp e a b p) (fun ρ d => (ft ρ d).bind fun i => if i ≠ 0 then fa ρ d else fb ρ d) := by
  intro KK c H0 σ H G ρ r d z hz cenv A' E' s m v hsc hc hn hm hv
  obtain ⟨i, e1, hz⟩ := Option.bind_eq_some_iff.mp hz
  refine wpAny_IfExp (isTrue_plain (wpAny_mono (ht KK c H0 σ H G ρ r d i e1 cenv A' E' s m v hsc hc hn hm hv) (fun u s1 hu => ?_) fun _ _ e => e) (he _ _))
  obtain ⟨⟨t, rfl⟩, h1, t1, rfl, k1⟩ := hu
  refine PySem.P.truthy_int ?_
  by_cases h0 : i = 0
  · rw [if_neg (fun z => z h0)] at hz
    subst h0
    refine wpAny_mono (hb KK c H0 σ H G ρ r d z hz cenv A' E' _ m v hsc (hc.keep k1) (hn.keeps k1) hm (hv.keeps k1)) (fun u s1 hu => ?_) fun _ _ e => e
    obtain ⟨⟨t2, rfl⟩, h2, t3, rfl, k2⟩ := hu
    exact ⟨⟨_, rfl⟩, ⟨h2, _, rfl, fun b o e => k2 b o (k1 b o e)⟩⟩
  · rw [if_pos h0] at hz
    have hb' : (i != 0) = true := by simpa using h0
    rw [hb']
    refine wpAny_mono (ha KK c H0 σ H G ρ r d z hz cenv A' E' _ m v hsc (hc.keep k1) (hn.keeps k1) hm (hv.keeps k1)) (fun u s1 hu => ?_) fun _ _ e => e
    obtain ⟨⟨t2, rfl⟩, h2, t3, rfl, k2⟩ := hu
    exact ⟨⟨_, rfl⟩, ⟨h2, _, rfl, fun b o e => k2 b o (k1 b o e)⟩⟩
def pickZ (k : Nat) : PyData → Option Int
  | .tuple ds => (match ds[k]? with
    | some (.int z) => some z
    | _ => none)
  | _ => none
theorem ei_pick {k : Nat} {j : Nat} (hk : scope.kind = .function) (hl : scope.names.lookup x = some .local) (h63 : k < 1000) (hd : (x == ("__debug__" : Str)) = false := by decide) : EltD X scope x (.Subscript (.Name x p1) (.Constant (.int k) j p2) p) (fun _ d => pickZ k d) := by
  intro KK c H0 σ H G ρ r d z hz cenv A' E' s m v hsc hc hn hm hv
  cases d with
  | tuple ds =>
    have e : ds[k]? = some (.int z) := by
      have hz : pickZ k (.tuple ds) = some z := hz
      unfold pickZ at hz
      dsimp only at hz
      split at hz
      · rename_i e; cases hz; exact e
      · cases hz
    obtain ⟨a, its, rfl, ht, hlen, hz2⟩ := hv
    obtain ⟨t, ei⟩ := hz2 k z e
    refine Subscript_ (wpAny_Name (wpAny_loadName_local (by rw [hsc]; exact hk) (show cenv.scope.names.lookup x = some .local by rw [hsc]; exact hl) hn hm ?_) hd)
    refine wpAny_Constant_int ?_
    have hlt : k < its.length := (List.getElem?_eq_some_iff.mp ei).1
    refine subscriptTail_builtinR (s := { s with toks := s.toks + 1 }) (x := .int z t) (IsTup.typeIs ht) slot_tuple_getitem.lookup
      (getItem_tuple (j := k) (Q := fun r s' => r = .int z t ∧ ((∃ t, r = .int z t) ∧ Keeps s s')) ht (by omega) (by omega) ?_ (by simpa using ei) ⟨rfl, ⟨t, rfl⟩, GxR.keeps_tok _ _⟩) rfl
    rw [List.size_toArray]
    unfold seqIndex?
    have h1 : ¬ ((k : Int) < 0) := by omega
    simp [h1]
    omega
  | _ => cases hz
end
def mapO (f : PyData → Option Int) : List PyData → Option (List Int)
  | [] => some []
  | d :: r => (f d).bind fun z => (mapO f r).map fun zs => z :: zs
theorem mapO_get {f : PyData → Option Int} : ∀ {ds : List PyData} {zs : List Int}, mapO f ds = some zs → ds.length = zs.length ∧ ∀ (i : Nat) (d : PyData) (z : Int), ds[i]? = some d → zs[i]? = some z → f d = some z
  | [], zs, h => by cases h; exact ⟨rfl, fun i d z e => by simp at e⟩
  | d :: r, zs, h => by
    obtain ⟨z, e1, h⟩ := Option.bind_eq_some_iff.mp h
    obtain ⟨zs', e2, rfl⟩ := Option.map_eq_some_iff.mp h
    obtain ⟨h1, h2⟩ := mapO_get e2
    refine ⟨by simp [h1], fun i d' z' e3 e4 => ?_⟩
    cases i with
    | zero => cases e3; cases e4; exact e1
    | succ i => exact h2 i d' z' (by simpa using e3) (by simpa using e4)
def gTupZ (f : En → PyData → Option Int) (g : GE) : GE := fun ρ cu => (g ρ cu).bind fun d cu1 => match d with
  | .tuple ds => .ofO ((mapO (f ρ) ds).bind fun zs => if zs.length ≤ 16777216 then some (.tuple (zs.map .int)) else none) cu1
  | _ => .stuck
theorem pd_tupZ {K : Kx} {E : XK} {c P : Addr} {iter elt : Expr} {x : Str} {px p pos gpos : Pos} {scope : Scope} {te : TE} {ge : GE} {k : Nat} {f : En → PyData → Option Int}
    (hr : Room (k + 2) X.A) (hg : Gl X "tuple") (hm : X.mg "tuple" = none) (TB : LamX.TabB X.base X.mg c P) (hcode : X.env.code = .ref c) (S0 : gxB X.env.scope scope x = true) (hi : PD X K E iter te ge)
    (hmT : (P, X.env.qual ++ "<genexpr>") ∈ K.T) (hu : ∀ p ∈ K.T, p.1 = P → p.2 = X.env.qual ++ "<genexpr>") (hel : EltD X scope x elt f) (hs : ∀ v, genFold iter X.env v = pure v) (hKF : K.F = X.K := by assumption)
    (he : starEach [.GeneratorExp elt [⟨.Name x px, iter, [], 0⟩] scope gpos] X.env = (false, eval (.GeneratorExp elt [⟨.Name x px, iter, [], 0⟩] scope gpos) X.env) :: starEach [] X.env := by rfl) :
    PD X K E (.Call (.Name "tuple" p) [.GeneratorExp elt [⟨.Name x px, iter, [], 0⟩] scope gpos] [] pos) (tTupZ X K scope x elt K.T te) (gTupZ f ge) := by
  refine ⟨pe_tupZ hr hg hm TB hcode S0 hi.pe hmT hu hs hKF he, fun c0 H0 G0 σ H G ρ cu Q s q => ?_⟩
  refine hi.sem c0 H0 G0 σ H G ρ cu _ s (q.bind.imp fun d H1 G1 cu1 x1 w1 q1 v rv => ?_)
  split at q1
  · rename_i ds
    obtain ⟨a, xs, rfl, e1, r1⟩ := rv.tup_of
    obtain ⟨z, ez, q2⟩ := q1.ofO
    obtain ⟨zs, em, ez⟩ := Option.bind_eq_some_iff.mp ez
    split at ez
    case isFalse => cases ez
    rename_i hle
    cases ez
    obtain ⟨m1, m2⟩ := mapO_get em
    refine ⟨a, xs, ds, zs, rfl, TupAt.sq' hKF (e1.mono w1.sub), r1.mono w1.sub, w1.tab, ⟨m1, fun i d z e2 e3 => hel K c0 H0 σ H G ρ s.rep d z (m2 i d z e2 e3)⟩, hle, fun H2 k2 T2 l hl => ?_⟩
    have x2 : Ext c0 H1 G1 H2 G1 := ⟨fun b o e n _ => k2 b o e n, fun b o e n => ⟨o, k2 b o e n, n⟩, fun _ _ e => e, fun _ _ _ _ e => e⟩
    have w2 : Wd K c0 H2 G1 cu1 := by
      refine ⟨fun b o e => k2 b o (w1.sub _ _ e) fun ps z => w1.nt b ps (by rw [← z]; exact e), T2, w1.nt, fun a ha => ?_⟩
      obtain ⟨h1, h2⟩ := w1.cup a ha
      exact ⟨k2 _ _ h1 nt_lst, h2⟩
    have rz : RpL K G1 (zs.map V.int) (zs.map PyData.int) := rpl_ints zs
    exact new_tup (Q := Q) w2 rz (fun v' H' G' x w r => q2 H' G' (x2.trans x) w v' r) hl
  · exact q1.elim
end
end DL

set_option Elab.async false
set_option linter.all false
set_option maxRecDepth 100000
set_option maxHeartbeats 2000000
set_option autoImplicit false
/-! a in range(..), tuples repeated -/
namespace DL
open PySem PySem.Spec PyProof.Rows L2
section
variable {X : Cx} {K : Kx} {E : XK} {a : Expr} {ta : TE} {ga : GE} {pos : Pos}
theorem Post.ofB {c : Option Addr} {H G : Hp} {α β : Type} {o : Option α} {f : α → Option β} {cu : Cu} {Q : β → Hp → Hp → Cu → Prop} (h : Post K E c H G (Rs.ofO (o.bind f) cu) Q) : ∃ a b, o = some a ∧ f a = some b ∧ ∀ H' G', Ext c H G H' G' → Wd K c H' G' cu → Q b H' G' cu := by
  obtain ⟨b, e, q⟩ := h.ofO
  obtain ⟨x, e1, e2⟩ := Option.bind_eq_some_iff.mp e
  exact ⟨x, b, e1, e2, q⟩
def dInR : PyData → List PyData → Option PyData
  | .int i, [.int lo, .int hi] => some (.bool (decide (lo ≤ i ∧ i < hi)))
  | _, _ => none
def gInR (ga : GE) (g : GA) : GE := fun ρ cu => (ga ρ cu).bind fun d cu1 => (g ρ cu1).bind fun as cu2 => .ofO ((dats as).bind fun ds => dInR d ds) cu2
abbrev rInR : R2 := fun x y H Q => ∃ i a lo hi, x = V.int i ∧ y = V.ref a ∧ H a = some (.rng lo hi) ∧ Q (.bl (decide (lo ≤ i ∧ i < hi))) H
abbrev rRg2 : List V → Hp → VK → Prop := fun vs H Q => ∃ i j, vs = [V.int i, V.int j] ∧ ∀ p, H p = none → Q (.ref p) (upd H p (.rng i j))
theorem sem_inR {t : TA} {g : GA} (ha : SemE K E ta ga) (hb : SemA K E t g) : SemE K E (tOp rInR ta (tCB rRg2 t)) (gInR ga g) := by
  intro c H0 G0 σ H G ρ cu Q s q
  refine ha c H0 G0 σ H G ρ cu _ s (q.bind.imp fun d H1 G1 cu1 x1 w1 q1 v rv => ?_)
  have s1 := s.go x1 w1
  refine hb c H0 G0 σ H1 G1 ρ cu1 _ s1 (q1.bind.imp fun as H2 G2 cu2 x2 w2 q2 vs rvs => ?_)
  obtain ⟨ds, z, e1, e2, q3⟩ := q2.ofB
  have rr := dats_rp rvs e1
  unfold dInR at e2
  split at e2
  · rename_i i lo hi
    cases e2
    obtain ⟨v1, v2, rfl, r1, r2⟩ := rr.two
    refine ⟨lo, hi, by rw [r1.int_of, r2.int_of], fun p hp => ?_⟩
    have hp2 : H2 p = none := hp
    obtain ⟨x3, w3, _⟩ := w2.newH (o := .rng lo hi) hp2
    exact ⟨i, p, lo, hi, rv.int_of, rfl, upd_same, q3 _ _ x3 w3 _ (.bl _)⟩
  · cases e2
section
variable {b d : Expr} {p : Pos} {pos2 : Pos} {t : TA} {g : GA}
theorem pd_inR (ha : PD X K E a ta ga) (hg : Gl X "range") (hm : X.mg "range" = none) (hb : PAD X K E [b, d] t g) (hmk : behindInMarks .In (.Call (.Name "range" p) [b, d] [] pos2) = false := by rfl)
    (he : starEach [b, d] X.env = (false, eval b X.env) :: starEach [d] X.env := by rfl) (hpl : (backTo pos2 (starEach [d] X.env)).any (·.1) = false := by rfl) :
    PD X K E (.Compare a [.In] [.Call (.Name "range" p) [b, d] [] pos2] pos) (tOp rInR ta (tCB rRg2 t)) (gInR ga g) :=
  ⟨pe_cmpR op_in_rng ha.pe (pe_callTy cr_range2 hg hm (show bootBuiltins "range" = some (.type "range") from by decide +kernel) hb.pa (by decide) (by decide) he hpl) hmk, sem_inR ha.sem hb.sem⟩
theorem ptd_inR (ha : PD X K E a ta ga) (hg : Gl X "range") (hm : X.mg "range" = none) (hb : PAD X K E [b, d] t g) (hmk : behindInMarks .In (.Call (.Name "range" p) [b, d] [] pos2) = false := by rfl)
    (he : starEach [b, d] X.env = (false, eval b X.env) :: starEach [d] X.env := by rfl) (hpl : (backTo pos2 (starEach [d] X.env)).any (·.1) = false := by rfl) :
    PTD X K E (.Compare a [.In] [.Call (.Name "range" p) [b, d] [] pos2] pos) (tTest (tOp rInR ta (tCB rRg2 t))) (gBool (gInR ga g)) :=
  ⟨pt_cmpR op_in_rng ha.pe (pe_callTy cr_range2 hg hm (show bootBuiltins "range" = some (.type "range") from by decide +kernel) hb.pa (by decide) (by decide) he hpl) hmk, sem_test (sem_inR ha.sem hb.sem)⟩
end
/-! tuples repeated -/
def dMulT : PyData → PyData → Option PyData
  | .tuple xs, .int k => if 2 ≤ k ∧ k ≤ 1000 ∧ xs.length ≤ 1000 ∧ xs ≠ [] then some (.tuple (List.replicate k.toNat xs).flatten) else none
  | d, e => dMul d e
theorem op_mulDT : OpR X (binaryOp .Mult) (fun x y H Q => rMulD x y H Q ∨ rRepT X.K x y H Q) := OpR.or op_mulD op_repT
theorem opD_mulT (hKF : K.F = X.K := by assumption) : OpD K (fun x y H Q => rMulD x y H Q ∨ rRepT X.K x y H Q) dMulT := by
  intro c H G cu v w d e z Q wd r1 r2 hz q
  unfold dMulT at hz
  split at hz
  · split at hz
    · rename_i xs k hc
      cases hz
      obtain ⟨a, vs, rfl, ha, ra⟩ := r1.tup_of
      have hl := ra.length
      refine .inr ⟨a, k, vs, rfl, r2.int_of, TupAt.sq' hKF (TupAt.mono wd.sub ha), fun z => hc.2.2.2 ?_, hc.1, hc.2.1, by omega, fun p hp => new_tup wd (ra.rep _) q hp⟩
      rw [z] at hl
      exact List.eq_nil_of_length_eq_zero (by rw [← hl]; rfl)
    · cases hz
  · exact .inl (opD_mul c H G cu v w d e z Q wd r1 r2 hz q)
theorem dMulT_int {i j : Int} (h : mulOk i j = true) : dMulT (.int i) (.int j) = some (.int (i * j)) := if_pos h
end
end DL

set_option Elab.async false
set_option linter.all false
set_option maxRecDepth 100000
set_option maxHeartbeats 2000000
set_option autoImplicit false
set_option exponentiation.threshold 4000
/-! reckoning: tuples and lists of numbers -/
namespace DL
open PySem PySem.Spec L2
abbrev tupI (zs : List Int) : PyData := .tuple (zs.map .int)
abbrev lstI (zs : List Int) : PyData := .list (zs.map .int)
section
variable {i j lo hi : Int} {xs ys ds : List PyData} {zs ws : List Int} {n : Nat} {cu : Cu} {ρ : En}
theorem dMax2_int : dMax2 [.int i, .int j] = some (.int (if j > i then j else i)) := rfl
theorem dInR_int : dInR (.int i) [.int lo, .int hi] = some (.bool (decide (lo ≤ i ∧ i < hi))) := rfl
theorem cutD_take (h : n ≤ xs.length) : cutD xs none (some (n : Int)) = xs.take n := by
  unfold cutD
  rw [HT.sIx_none, HT.sIx_nat, List.drop_zero, Nat.min_eq_left h, Nat.sub_zero]
theorem cutD_drop (h : n ≤ xs.length) : cutD xs (some (n : Int)) none = xs.drop n := by
  unfold cutD
  rw [HT.sIx_nat, HT.sIx_none, Nat.min_eq_left h, ← List.length_drop, List.take_length]
theorem cutI_take (h0 : 0 ≤ i) (h : i ≤ zs.length) : cutD (zs.map .int) none (some i) = (zs.take i.toNat).map .int := by
  have := cutD_take (xs := zs.map PyData.int) (n := i.toNat) (by rw [List.length_map]; omega)
  rw [Int.toNat_of_nonneg h0] at this
  rw [this, List.map_take]
theorem cutI_drop (h0 : 0 ≤ i) (h : i ≤ zs.length) : cutD (zs.map .int) (some i) none = (zs.drop i.toNat).map .int := by
  have := cutD_drop (xs := zs.map PyData.int) (n := i.toNat) (by rw [List.length_map]; omega)
  rw [Int.toNat_of_nonneg h0] at this
  rw [this, List.map_drop]
theorem intsD_map : intsD (zs.map .int) = some zs := by
  induction zs with
  | nil => rfl
  | cons z r ih => rw [List.map_cons, intsD, ih]; rfl
theorem dSum_ints : dSum [lstI zs] = some (.int zs.sum) := by
  show (intsD (zs.map .int)).map _ = _
  rw [intsD_map]; rfl
theorem dMaxL_of {m : Int} (h1 : m ∈ zs) (h2 : ∀ z ∈ zs, z ≤ m) : dMaxL [lstI zs] = some (.int m) := by
  show (intsD (zs.map .int)).bind _ = _
  rw [intsD_map]
  show (zs.max?.map PyData.int) = _
  rw [List.max?_eq_some_iff.mpr ⟨h1, h2⟩]; rfl
theorem dMinL_of {m : Int} (h1 : m ∈ zs) (h2 : ∀ z ∈ zs, m ≤ z) : dMinL [lstI zs] = some (.int m) := by
  show (intsD (zs.map .int)).bind _ = _
  rw [intsD_map]
  show (zs.min?.map PyData.int) = _
  rw [List.min?_eq_some_iff.mpr ⟨h1, h2⟩]; rfl
theorem all_ints : (zs.map PyData.int).all isIntD = true := by
  rw [List.all_eq_true]
  intro d hd
  obtain ⟨z, _, rfl⟩ := List.mem_map.mp hd
  rfl
theorem blsD_map {bs : List Bool} : blsD (bs.map .bool) = some bs := by
  induction bs with
  | nil => rfl
  | cons z r ih => rw [List.map_cons, blsD, ih]; rfl
theorem dAllL_bls {bs : List Bool} : dAllL [.list (bs.map .bool)] = some (.bool (bs.all id)) := by
  show (blsD (bs.map .bool)).map _ = _
  rw [blsD_map]; rfl
theorem zipI : zipD (zs.map .int) (ws.map .int) = (List.zip zs ws).map fun p => .tuple [.int p.1, .int p.2] := by
  unfold zipD
  induction zs generalizing ws with
  | nil => rfl
  | cons z r ih =>
    cases ws with
    | nil => rfl
    | cons w s => simp only [List.map_cons, List.zipWith_cons_cons, List.zip_cons_cons, ih]
theorem dZip_ints : dZip [tupI zs, tupI ws] = some ((List.zip zs ws).map fun p => .tuple [.int p.1, .int p.2]) := by
  show some (zipD _ _) = _
  rw [zipI]
theorem dLen_tupI : dLen [tupI zs] = some (.int zs.length) := by
  show some (PyData.int ((zs.map PyData.int).length : Int)) = _
  rw [List.length_map]
theorem atI_map {n : Nat} {z : Int} (h : zs[n]? = some z) : atI (zs.map PyData.int) (n : Int) = some (.int z) := atI_nat (by rw [List.getElem?_map, h]; rfl)
/-- a comprehension whose element is a number -/
theorem gLcL_map {gg : GG} {ge : GE} (f : PyData → PyData) (h : ∀ d ∈ ds, ∃ ρ1, gg d ρ = some ρ1 ∧ ge ρ1 cu = .ok (f d) cu) : gLcL gg gYes ge ds ρ cu = .ok (ds.map f) cu := by
  have z := gLcL_pure (gg := gg) (gt := gYes) (ge := ge) (cu := cu) (ρ := ρ) (fun _ => true) f (ds := ds) fun d hd => by
    obtain ⟨ρ1, h1, h2⟩ := h d hd
    exact ⟨ρ1, h1, rfl, fun _ => h2⟩
  rw [z, List.filter_eq_self.mpr fun _ _ => rfl]
theorem eqL_nil' : dNe (.list []) (.list []) = some (.bool false) := rfl
theorem eqL_nil2 : dEq (.list []) (.list []) = some (.bool true) := rfl
theorem lay_ints : ∀ {ds : List PyData}, (∀ d ∈ ds, ∃ i, d = .int i) → PyData.canLayAll0 ds = true ∧ PyData.depthAll ds = 0
  | [], _ => by simp [PyData.canLayAll0, PyData.depthAll]
  | d :: r, h => by
    obtain ⟨i, rfl⟩ := h d (List.mem_cons_self ..)
    have := lay_ints (ds := r) fun d hd => h d (List.mem_cons_of_mem _ hd)
    simp [PyData.canLayAll0, PyData.depthAll, PyData.canLay0, PyData.depth, this]
theorem shaped_lst (h : ∀ d ∈ ds, ∃ i, d = .int i) : SeqAt.shaped (.list ds) = true := by
  obtain ⟨h1, h2⟩ := lay_ints h
  cases ds with
  | nil => simp [SeqAt.shaped, PyData.canLay0, PyData.canLayAll0, PyData.depth, PyData.depthAll]
  | cons d r =>
    unfold SeqAt.shaped
    rw [show (PyData.list (d :: r)).canLay0 = PyData.canLayAll0 (d :: r) from by simp only [PyData.canLay0], h1, show (PyData.list (d :: r)).depth = PyData.depthAll (d :: r) + 1 from by simp only [PyData.depth], h2]
    rfl
theorem dNe_nil {ds : List PyData} (h : ∀ d ∈ ds, ∃ i, d = .int i) : dNe (.list ds) (.list []) = some (.bool (!ds.isEmpty)) := by
  have s1 := shaped_lst h
  have s2 : SeqAt.shaped (.list []) = true := shaped_lst (ds := []) fun d hd => nomatch hd
  cases ds with
  | nil => rfl
  | cons d r => simp [dNe, eqD, s1, s2, PyData.eqv, PyData.eqvAll]
theorem dEq_nil {ds : List PyData} (h : ∀ d ∈ ds, ∃ i, d = .int i) : dEq (.list ds) (.list []) = some (.bool ds.isEmpty) := by
  have s1 := shaped_lst h
  have s2 : SeqAt.shaped (.list []) = true := shaped_lst (ds := []) fun d hd => nomatch hd
  cases ds with
  | nil => rfl
  | cons d r => simp [dEq, eqD, s1, s2, PyData.eqv, PyData.eqvAll]
theorem rng_mem {lo : Int} {n : Nat} {d : PyData} : d ∈ rngD lo n ↔ ∃ i : Nat, i < n ∧ d = .int (lo + (i : Int)) := by
  unfold rngD
  rw [List.mem_map]
  constructor
  · rintro ⟨i, hi, rfl⟩; exact ⟨i, List.mem_range.mp hi, rfl⟩
  · rintro ⟨i, hi, rfl⟩; exact ⟨i, List.mem_range.mpr hi, rfl⟩
theorem rng_len {lo : Int} {n : Nat} : (rngD lo n).length = n := by unfold rngD; rw [List.length_map, List.length_range]
end
theorem up {x : Int} {n m : Nat} (h : x.natAbs < 2 ^ n) (hm : n ≤ m := by decide) : x.natAbs < 2 ^ m := Nat.lt_of_lt_of_le h (Nat.pow_le_pow_right (by decide) hm)
theorem le_mul1 {a b : Int} (ha : 1 ≤ a) (hb : 0 ≤ b) : b ≤ a * b := by
  have := Int.mul_le_mul_of_nonneg_right ha hb
  omega
theorem pos_l {a b : Int} (h : 0 < a * b) (hb : 0 ≤ b) : 1 ≤ a := by
  have hb' : 0 < b := by
    rcases Int.lt_or_eq_of_le hb with h1 | h1
    · exact h1
    · rw [← h1, Int.mul_zero] at h; omega
  have := Int.pos_of_mul_pos_left h hb'
  omega
end DL

set_option Elab.async false
set_option linter.all false
set_option maxRecDepth 100000
set_option maxHeartbeats 2000000
set_option autoImplicit false
/-! enumerate of a tuple; min, max of a tuple; is None -/
namespace DL
open PySem PySem.Spec PyProof.Rows L2
open AutoSeq1 (wpAny_loadPart')
theorem meets_enumerate_newT (l : Addr) (items : Array Value) (n : Nat) (dct : Option Addr) (sl : Array (Option Value)) :
    Meets (Builtin.«enumerate.__new__» ⟨[.type "enumerate", .ref l], []⟩) (fun _ R s => s.heap.get? l = some { cls := .type "tuple", dict := dct, data := .seq items n, slots := sl } ∧
      R (.ok (.ret (.ref (s.heap.push { cls := .type "tuple_iterator", data := .fields #[.ref l, .int 0 0] }).objs.size)))
        { s with heap := (s.heap.push { cls := .type "tuple_iterator", data := .fields #[.ref l, .int 0 0] }).push { cls := .type "enumerate", data := .fields #[.none, .bool false, .ref s.heap.objs.size, rawInt 0, .none, .none] } }) :=
  .of_wp fun prog w A R s h => by
    obtain ⟨hp, g, d, tk, os⟩ := s; obtain ⟨hl, h⟩ := h
    have hsub := sub_enumerate
    have hL : Heap.IsTuple (Shared.heap ⟨hp, g, d, tk, os⟩) l items := ⟨_, hl, rfl, n, rfl⟩
    wp_walk using wpAny_loadPart' hl
    refine wpAny_stack_any fun st => wpAny_pure ?_
    split
    · rename_i c _ _ _ _ _
      cases (c == Value.type "enumerate")
      · wp_walk using wpAny_loadPart' hl, wpAny_pyIter_tuple hL
        exact ⟨_, rfl, h⟩
      · wp_walk using wpAny_loadPart' hl, wpAny_pyIter_tuple hL
        exact ⟨_, rfl, h⟩
    · wp_walk using wpAny_loadPart' hl, wpAny_pyIter_tuple hL
      exact ⟨_, rfl, h⟩
section
variable {prog : Program} {w : World} {A : Around} {E : Value → Shared → Prop} {s : Shared}
theorem call_enumerate_tuple {l : Addr} {items : Array Value} {Q : Value → Shared → Prop} (hL : s.heap.IsTuple l items)
    (h : ∀ h', IsEnum h' (s.heap.objs.size + 1) s.heap.objs.size 0 .none → h'.IsTupleIter s.heap.objs.size l 0 → h'.objs.size = s.heap.objs.size + 2 →
      (∀ b o, s.heap.get? b = some o → h'.get? b = some o) → Q (.ref (s.heap.objs.size + 1)) { s with heap := h' }) :
    wpAny (model prog w) A (call (.type "enumerate") [.ref l]) Q E s := by
  obtain ⟨⟨c, dct, dt, sl⟩, hl, hc, n, hd⟩ := hL
  replace hc : c = .type "tuple" := hc
  replace hd : dt = .seq items n := hd
  subst hc hd
  refine callType_new F.called_enumerate (by decide) (F.typeCall_enumerate_1 _) (F.newCall_enumerate_1 _) (fun obj => F.args_object_init_2 obj _) F.entry_enumerate_new
    (meets_enumerate_newT l items n dct sl) ⟨hl, ?_⟩
  have hz : (s.heap.push { cls := .type "tuple_iterator", data := .fields #[.ref l, .int 0 0] }).objs.size = s.heap.objs.size + 1 := Heap.size_push ..
  show _ ∧ _
  rw [hz]
  have he : IsEnum ((s.heap.push { cls := .type "tuple_iterator", data := .fields #[.ref l, .int 0 0] }).push
      { cls := .type "enumerate", data := .fields #[.none, .bool false, .ref s.heap.objs.size, rawInt 0, .none, .none] }) (s.heap.objs.size + 1) s.heap.objs.size 0 .none := by
    have := Heap.get?_push_size (s.heap.push { cls := .type "tuple_iterator", data := .fields #[.ref l, .int 0 0] })
      (o := { cls := .type "enumerate", data := .fields #[.none, .bool false, .ref s.heap.objs.size, rawInt 0, .none, .none] }) rfl
    rw [hz] at this; exact this
  refine ⟨⟨_, he, rfl⟩, h _ he ⟨_, Heap.get?_push_of_some _ (Heap.get?_push_size _ rfl), rfl, rfl⟩ (by rw [Heap.size_push, hz]) fun b o x => Heap.get?_push_of_some _ (Heap.get?_push_of_some _ x)⟩
end
/-- the tuple at a, each item in a new pair with its place -/
def IteT (K : PySem.W.Frag) (a : Addr) : It :=
  ⟨fun i H => ∃ (xs : List V) (x : V), SqT K H a xs ∧ xs[i]? = some x, fun i H v H' => ∃ T x, v = .ref T ∧ H T = none ∧ H' = upd H T (.tup [.int (i : Nat), x]) ∧ ∀ xs, SqT K H a xs → xs[i]? = some x, fun i H => ∃ xs : List V, SqT K H a xs ∧ xs.length ≤ i⟩
section
variable {prog : Program} {w : World} {A : Around} {E : Value → Shared → Prop} {s : Shared}
theorem next_enumT_end {e it l : Addr} {i : Nat} {items : Array Value} {old : Value} {Q : Option Value → Shared → Prop} (hh : A.handled = none)
    (he : IsEnum s.heap e it i old) (hit : s.heap.IsTupleIter it l i) (hl : s.heap.IsTuple l items) (hx : items[i]? = none)
    (hQ : ∀ h', Heap.ExtBut it s.heap h' → Q none { s with heap := h' }) : wpAny (model prog w) A (pyNext (.ref e)) Q E s := by
  have hT : s.TypeIs (.ref e) "enumerate" := ⟨_, he, rfl⟩
  unfold pyNext
  refine wpAny_bind (wpAny_attempt (wpAny_callSpecial?_slot (name := Str.ofString "__next__") hT F.slot_enumerate_next
    (wpAny_call_entry F.slot_enumerate_next hT F.entry_enumerate_next ?_ (F.args_enumerate_next_1 _))))
  show wpAny _ _ (field (.ref e) 2 >>= _) _ _ _
  refine wpAny_bind (wpAny_field he rfl (x := .ref it) rfl ?_)
  refine wpAny_bind (wpAny_nextOf_tuple_end hh hit hl hx fun h' x he' hx' => ?_)
  obtain ⟨o, ho, hc⟩ := hx'
  refine wpAny_bind (wpAny_isInstance (T := "StopIteration") (b := true) ⟨o, ho, hc⟩ isSubtype_stop ?_)
  exact wpAny_pure (hQ _ he')
end
theorem turn_enumT {P : Program} {w : World} {K : PySem.W.Frag} {elts : List Expr} {kk : Nat} {tpos : Pos} (a e it : Addr) :
    Turn P w K (.Tuple elts kk tpos) (IteT K a) [e, it] e (fun i h => (∃ old, IsEnum h e it ((i : Nat) : Int) old) ∧ h.IsTupleIter it a i ∧ e ≠ it) where
  mem := by simp
  obj := fun i h st b hb => by
    obtain ⟨⟨old, he⟩, ⟨o, ho, hc, hd⟩, _⟩ := st
    have e' : b = e ∨ b = it := by simpa using hb
    rcases e' with z | z
    · rw [z]; exact ⟨_, he, fun v q => nomatch q⟩
    · rw [z]; exact ⟨o, ho, fun v q => by rw [hd] at q; cases q⟩
  keep := fun i h h' st k => let ⟨⟨old, he⟩, hi, hne⟩ := st; ⟨⟨old, k e (by simp) _ he⟩, hi.at fun o q => k it (by simp) o q, hne⟩
  item := by
    intro X hP hw hK hc i pins s σ H E I hf st hg
    subst hP hw hK
    obtain ⟨⟨old, he⟩, hit, hne⟩ := st
    obtain ⟨xs, x, hq, hx⟩ := hg
    obtain ⟨its, rv, p, hz⟩ := I.tuple hq
    obtain ⟨u, hu, ru⟩ := rv.get hx
    have hel : e < s.heap.objs.size := Heap.lt_size he
    have hil : it < s.heap.objs.size := by obtain ⟨_, q, _⟩ := hit; exact Heap.lt_size q
    have hai : a ≠ it := fun z => by
      obtain ⟨o1, q1, c1, _⟩ := hit
      obtain ⟨o2, q2, c2, _⟩ := p
      rw [z, q1] at q2; cases q2; rw [c1] at c2; exact absurd c2 (by decide)
    have hae : e ≠ a := fun z => by
      obtain ⟨o2, q2, c2, _⟩ := p
      rw [← z, he] at q2; cases q2; exact absurd (show Value.type "enumerate" = Value.type "tuple" from c2) (by decide)
    have hef : e ∉ [it, a] := fun hm => by
      rcases List.mem_cons.mp hm with z | z
      · exact hne z
      · exact hae (List.mem_singleton.mp z)
    have hii : i < its.toArray.size := by
      have := (List.getElem?_eq_some_iff.mp hu).1
      rw [List.size_toArray]; exact this
    refine wpAny_pyNext_enum_itemD (Draws.tuple (A := X.A.in1) (I.ok.hd hc) it a hai its.toArray) he ⟨hit, p⟩ hii hne hef fun u' h' tk hPx ho hst' hT hsz hk => ?_
    have eu : u' = u := by
      have hPx : its.toArray[i]? = some u' := hPx
      rw [List.getElem?_toArray, hu] at hPx
      exact (Option.some.inj hPx).symm
    subst eu
    have hit' := hst'.1
    refine ⟨_, rfl, wpAny_letOwnedTupleGo_enum (s := { s with heap := h', toks := tk + 1 }) ho fun h'' he' sb => ?_⟩
    have hT2 : h''.get? s.heap.objs.size = some { cls := .type "tuple", data := .seq #[.int i tk, u'] } := (sb.2 _ (Nat.ne_of_gt hel)).trans hT
    have new : ObjOk X.prog X.w (upd H s.heap.objs.size (.tup [.int (i : Nat), x])) h'' s.heap.objs.size (.tup [.int (i : Nat), x]) :=
      ⟨by show 2 ≤ sizeLine; decide, [.int i tk, u'], .cons ⟨_, rfl⟩ (.cons ru .nil), ⟨_, hT2, rfl, _, rfl⟩⟩
    have I1 : Inv X pins σ (upd H s.heap.objs.size (.tup [.int (i : Nat), x])) { s with heap := h'', toks := tk + 1 } :=
      I.turnedNew (ch := [e, it]) (fun b ob hb q => (sb.2 b (fun z => hb (by simp [z]))).trans (hk b ob (fun z => hb (by simp [z])) (fun z => hb (by simp [z])) q)) hf (Nat.le_refl _) new
    refine ⟨.ref s.heap.objs.size, _, I1, rfl, ⟨_, x, rfl, I.hok.fresh (Nat.le_refl _), rfl, fun ys hy => by rw [I.tuple_inj hy hq]; exact hx⟩, ⟨⟨u', ?_⟩, hit'.at fun o q => (sb.2 it (Ne.symm hne)).trans q, hne⟩, fun b hb => ?_⟩
    · have e1 : ((i + 1 : Nat) : Int) = (i : Int) + 1 := by omega
      rw [e1]; exact he'
    · have hb' : b < s.heap.objs.size := by
        have e' : b = e ∨ b = it := by simpa using hb
        rcases e' with z | z
        · rw [z]; exact hel
        · rw [z]; exact hil
      rw [upd_ne (Nat.ne_of_lt hb')]
      exact (hf b hb).1
  done := by
    intro X hP hw hK hc i pins s σ H E I hf st hg
    subst hP hw hK
    obtain ⟨⟨old, he⟩, hit, hne⟩ := st
    obtain ⟨xs, hq, hx⟩ := hg
    obtain ⟨its, rv, p, hz⟩ := I.tuple hq
    obtain ⟨f0, f1, f2, f3, f4, f5⟩ := hf it (by simp)
    have hl := rv.length
    exact next_enumT_end (I.ok.hd hc) he hit p (by simp; omega) fun h' eb => ⟨rfl, I.turned (t' := s.toks) (fun b o hb q => eb b o hb q) f0 f1 f3 f4 f5⟩
  self := fun A i s Q E st h => let ⟨⟨_, he⟩, _⟩ := st; wpAny_pyIter_enum he h
def iEnumT (K : PySem.W.Frag) (ta : TA) : TI := fun σ H R => ta σ H fun vs H1 => ∃ a xs, vs = [.ref a] ∧ SqT K H1 a xs ∧ R (IteT K a) H1
theorem pi_enumT {X : Cx} {e : Expr} {ta : TA} {p pos tpos : Pos} {elts : List Expr} {kk : Nat} (hg : Gl X "enumerate") (hm : X.mg "enumerate" = none) (ha : PA X [e] ta) (hs : starEach [e] X.env = [(false, eval e X.env)] := by rfl) :
    PI X (.Tuple elts kk tpos) (.Call (.Name "enumerate" p) [e] [] pos) (iEnumT X.K ta) := by
  refine ⟨fun pins s σ H R I h => ?_⟩
  refine Call_ (ld_blt I hg hm boot_enumerate (PyProof.Rows.callWith_type1 (thn (ha.run pos pins s σ H _ I h) fun us s1 ⟨vs, H1, I1, r1, q1⟩ => ?_) hs rfl))
  obtain ⟨a, xs, ex, hq, q⟩ := q1
  subst ex
  cases r1 with
  | cons r rr =>
    cases rr
    cases r
    obtain ⟨its, rv, p', hz⟩ := I1.tuple hq
    refine call_enumerate_tuple p' fun h' he hit hsz hk => wpAny_pyIter_enum he ?_
    have I2 : Inv X pins σ H1 { s1 with heap := h' } := I1.kept (t' := s1.toks) hk
    refine ⟨s1.heap.objs.size + 1, [s1.heap.objs.size + 1, s1.heap.objs.size], _, _, H1, rfl, I2, turn_enumT a (s1.heap.objs.size + 1) s1.heap.objs.size, ⟨⟨.none, he⟩, hit, Nat.succ_ne_self _⟩, fun b hb => ?_, q⟩
    have e' : b = s1.heap.objs.size + 1 ∨ b = s1.heap.objs.size := by simpa using hb
    have hle : s1.heap.objs.size ≤ b := by
      rcases e' with z | z
      · rw [z]; exact Nat.le_add_right _ _
      · rw [z]; exact Nat.le_refl _
    exact I1.fpOk hle (I1.hok.fresh hle)
/-! on the data -/
def enumF : Nat → List PyData → List PyData
  | _, [] => []
  | i, d :: r => .tuple [.int (i : Int), d] :: enumF (i + 1) r
theorem enumF_len : ∀ {i : Nat} {ds : List PyData}, (enumF i ds).length = ds.length
  | _, [] => rfl
  | i, d :: r => by rw [enumF, List.length_cons, List.length_cons, enumF_len]
theorem enumF_get : ∀ {i j : Nat} {ds : List PyData} {z : PyData}, (enumF i ds)[j]? = some z → ∃ d, ds[j]? = some d ∧ z = .tuple [.int ((i + j : Nat) : Int), d]
  | _, _, [], _, h => by simp [enumF] at h
  | i, 0, d :: r, z, h => by
    rw [enumF, List.getElem?_cons_zero] at h
    exact ⟨d, rfl, (Option.some.inj h).symm⟩
  | i, j + 1, d :: r, z, h => by
    rw [enumF, List.getElem?_cons_succ] at h
    obtain ⟨d', h1, h2⟩ := enumF_get h
    refine ⟨d', by rw [List.getElem?_cons_succ]; exact h1, ?_⟩
    rw [h2]
    have : i + 1 + j = i + (j + 1) := by omega
    rw [this]
def dEnum : List PyData → Option (List PyData)
  | [.tuple ds] => some (enumF 0 ds)
  | _ => none
section
variable {X : Cx} {K : Kx} {E : XK} {a : Expr} {ta : TA} {ga : GA} {pos : Pos}
theorem wk_enumT {F : PySem.W.Frag} (hKF : K.F = F) {G1 : Hp} {a : Addr} {xs : List V} {ds : List PyData} (h : TupAt K.F G1 a xs) (r : RpL K G1 xs ds) : Wk K (IteT F a) G1 (enumF 0 ds) := by
  intro c H G cu k w
  have hH : SqT F H a xs := TupAt.sq' hKF ((h.mono k).mono w.sub)
  refine ⟨fun i d e => ?_, ⟨xs, hH, by rw [enumF_len]; exact Nat.le_of_eq r.length⟩⟩
  obtain ⟨d', e1, rfl⟩ := enumF_get e
  rw [Nat.zero_add]
  obtain ⟨v, e2, rv⟩ := r.get e1
  refine ⟨⟨xs, v, hH, e2⟩, fun x H' y => ?_⟩
  obtain ⟨T, x', rfl, hT, rfl, hx⟩ := y
  have ev : v = x' := Option.some.inj (e2.symm.trans (hx xs hH))
  subst ev
  obtain ⟨x1, w1⟩ := w.new (o := .tup [.int (i : Int), v]) hT
  exact ⟨_, x1, w1, .tup upd_same ((RpL.cons (.int _) (.cons (rv.mono k) .nil)).upd (w.gp hT))⟩
theorem pid_enumT {elts : List Expr} {kk : Nat} {tpos p : Pos} (hg : Gl X "enumerate") (hm : X.mg "enumerate" = none) (ha : PAD X K E [a] ta ga) (hs : starEach [a] X.env = [(false, eval a X.env)] := by rfl) (hKF : K.F = X.K := by assumption) :
    PID X K E (.Tuple elts kk tpos) (.Call (.Name "enumerate" p) [a] [] pos) (iEnumT X.K ta) (giArg dEnum ga) := by
  refine ⟨pi_enumT hg hm ha.pa hs, fun c H0 G0 σ H G ρ cu R s q => ?_⟩
  refine ha.sem c H0 G0 σ H G ρ cu _ s (q.bind.imp fun as H1 G1 cu1 x1 w1 q1 vs rvs => ?_)
  obtain ⟨z, e1, q2⟩ := q1.ofO
  obtain ⟨ds, e2, e3⟩ := Option.bind_eq_some_iff.mp e1
  have rr := dats_rp rvs e2
  unfold dEnum at e3
  split at e3
  · rename_i ds'
    cases e3
    obtain ⟨v, rfl, rv⟩ := rr.one
    obtain ⟨b, xs, rfl, hb, rb⟩ := rv.tup_of
    exact ⟨b, xs, rfl, TupAt.sq' hKF (TupAt.mono w1.sub hb), q2 H1 G1 Ext.refl w1 _ (wk_enumT hKF hb rb)⟩
  · cases e3
end
/-! is None -/
section
variable {K : Kx}
def isNoneD : PyData → Bool
  | .none => true
  | _ => false
def dIsN : PyData → PyData → Option PyData
  | d, .none => some (.bool (isNoneD d))
  | _, _ => none
def dNotN : PyData → PyData → Option PyData
  | d, .none => some (.bool (!isNoneD d))
  | _, _ => none
theorem isNoneD_rp {G : Hp} {v : V} {d : PyData} (r : Rp K G v d) : decide (v = .non) = isNoneD d := by
  cases r <;> first | rfl | (apply decide_eq_false; intro z; cases z)
theorem Rp.none_of {G : Hp} {v : V} (r : Rp K G v .none) : v = .non := by cases r; rfl
theorem opD_isN : OpD K (fun x y H Q => y = .non ∧ Q (.bl (decide (x = .non))) H) dIsN := by
  intro c H G cu v w d e z Q wd r1 r2 hz q
  unfold dIsN at hz
  split at hz
  · cases hz
    refine ⟨r2.none_of, q _ H G Ext.refl wd ?_⟩
    rw [isNoneD_rp r1]; exact .bl _
  · cases hz
theorem opD_notN : OpD K (fun x y H Q => y = .non ∧ Q (.bl (!decide (x = .non))) H) dNotN := by
  intro c H G cu v w d e z Q wd r1 r2 hz q
  unfold dNotN at hz
  split at hz
  · cases hz
    refine ⟨r2.none_of, q _ H G Ext.refl wd ?_⟩
    rw [isNoneD_rp r1]; exact .bl _
  · cases hz
end
end DL

set_option Elab.async false
set_option linter.all false
set_option maxRecDepth 100000
set_option maxHeartbeats 2000000
set_option autoImplicit false
/-! min, max of a tuple of numbers -/
namespace DL
open PySem PySem.Spec PyProof.Rows L2
section
variable {prog : Program} {w : World} {A : Around} {E : Value → Shared → Prop} {s : Shared} {l : Addr} {its : List Value} {ns : List Int} {Q : Value → Shared → Prop}
theorem iter_tupI {xs : Array Value} {R : Value → Shared → Prop} (hl : s.heap.IsTuple l xs)
    (h : ∀ s₂, s₂ = { s with heap := s.heap.push { cls := .type "tuple_iterator", data := .fields #[.ref l, .int 0 0] } } → s₂.heap.IsTupleIter s.heap.objs.size l 0 → s₂.heap.IsTuple l xs → (∀ b ∈ [s.heap.objs.size, l], b < s₂.heap.objs.size) → l ≠ s.heap.objs.size → R (.ref s.heap.objs.size) s₂) :
    wpAny (model prog w) A (pyIter (.ref l)) R E s := by
  have hal : l < s.heap.objs.size := let ⟨o, e, _⟩ := hl; Heap.lt_size e
  refine wpAny_pyIter_tuple hl ?_
  refine h _ rfl ⟨_, Heap.get?_push_size _ rfl, rfl, rfl⟩ (let ⟨u, e, r⟩ := hl; ⟨u, Heap.get?_push_of_some _ e, r⟩) (fun b hb => ?_) (Nat.ne_of_lt hal)
  show b < (s.heap.push _).objs.size
  rw [Heap.size_push]
  rcases List.mem_cons.mp hb with z | z
  · rw [z]; exact Nat.lt_succ_self _
  · rw [List.mem_singleton.mp z]; exact Nat.lt_succ_of_lt hal
theorem keptT {o : Obj} {h' : Heap} (hk : ∀ b u, b ∉ [s.heap.objs.size] → (s.heap.push o).get? b = some u → h'.get? b = some u) :
    ∀ b u, s.heap.get? b = some u → h'.get? b = some u := fun b u e => by
  refine hk b u (fun hm => ?_) (Heap.get?_push_of_some _ e)
  rcases List.mem_cons.mp hm with e1 | hm
  · exact absurd (e1 ▸ Heap.lt_size e) (Nat.lt_irrefl _)
  · cases hm
theorem max_rawT (hh : A.handled = none) (hl : s.heap.IsTuple l its.toArray) (hi : IntsAre its ns) (hne : 0 < ns.length)
    (h : ∀ h' tk M t', (∀ b o, s.heap.get? b = some o → h'.get? b = some o) → M ∈ ns → (∀ a, a ∈ ns → a ≤ M) → Q (.int M t') { s with heap := h', toks := tk }) : wpAny (model prog w) A (call (.builtin "max") [.ref l]) Q E s := by
  obtain ⟨xs, e⟩ := hi.allInts.items
  have hn : numsOf (intItems xs).toList = ns := by rw [← e]; exact hi.numsOf
  rw [nums_intItems] at hn
  subst hn
  rw [e] at hl
  have hsz : 0 < xs.size := by simpa using hne
  refine call_max_walk (iter_tupI hl fun s₂ es st1 st2 hfp hlI => ?_)
  subst es
  refine ⟨_, _, _, _, _, _, _, rfl, Walks.tuple (A := A.in1) hh _ l hlI (intItems xs), ⟨st1, st2⟩, hfp, by simpa [intItems] using hsz, CmpOf.ints_gt (numAt xs) (fun _ _ => intItems_at), fun v h' tk hP hk => ?_⟩
  have hv : (intItems xs)[argBest (fun i j => decide (numAt xs i > numAt xs j)) (xs.size - 1)]? = some v := by simpa [intItems] using hP
  obtain ⟨t, rfl⟩ := intItems_at hv
  obtain ⟨h1, h2⟩ := argBest_gt (numAt xs) (xs.size - 1)
  refine h h' tk _ t (keptT hk) ?_ fun a ha => ?_
  · rw [numAt_eq]; exact PySem.getD_mem (by rw [List.length_map, Array.length_toList]; omega)
  · obtain ⟨j, hj, rfl⟩ := mem_getD ha
    rw [List.length_map, Array.length_toList] at hj
    rw [← numAt_eq]; exact h2 j (by omega)
theorem min_rawT (hh : A.handled = none) (hl : s.heap.IsTuple l its.toArray) (hi : IntsAre its ns) (hne : 0 < ns.length)
    (h : ∀ h' tk M t', (∀ b o, s.heap.get? b = some o → h'.get? b = some o) → M ∈ ns → (∀ a, a ∈ ns → M ≤ a) → Q (.int M t') { s with heap := h', toks := tk }) : wpAny (model prog w) A (call (.builtin "min") [.ref l]) Q E s := by
  obtain ⟨xs, e⟩ := hi.allInts.items
  have hn : numsOf (intItems xs).toList = ns := by rw [← e]; exact hi.numsOf
  rw [nums_intItems] at hn
  subst hn
  rw [e] at hl
  have hsz : 0 < xs.size := by simpa using hne
  refine call_min_walk (iter_tupI hl fun s₂ es st1 st2 hfp hlI => ?_)
  subst es
  refine ⟨_, _, _, _, _, _, _, rfl, Walks.tuple (A := A.in1) hh _ l hlI (intItems xs), ⟨st1, st2⟩, hfp, by simpa [intItems] using hsz, CmpOf.ints_lt (numAt xs) (fun _ _ => intItems_at), fun v h' tk hP hk => ?_⟩
  have hv : (intItems xs)[argBest (fun i j => decide (numAt xs i < numAt xs j)) (xs.size - 1)]? = some v := by simpa [intItems] using hP
  obtain ⟨t, rfl⟩ := intItems_at hv
  obtain ⟨h1, h2⟩ := argBest_lt (numAt xs) (xs.size - 1)
  refine h h' tk _ t (keptT hk) ?_ fun a ha => ?_
  · rw [numAt_eq]; exact PySem.getD_mem (by rw [List.length_map, Array.length_toList]; omega)
  · obtain ⟨j, hj, rfl⟩ := mem_getD ha
    rw [List.length_map, Array.length_toList] at hj
    rw [← numAt_eq]; exact h2 j (by omega)
end
section
variable {X : Cx} {K : Kx}
def rMaxT (F : PySem.W.Frag) : List V → Hp → VK → Prop := fun vs H Q => ∃ (a : Addr) (ns : List Int), vs = [V.ref a] ∧ SqT F H a (ns.map V.int) ∧ 0 < ns.length ∧ ∀ m, m ∈ ns → (∀ y, y ∈ ns → y ≤ m) → Q (.int m) H
def rMinT (F : PySem.W.Frag) : List V → Hp → VK → Prop := fun vs H Q => ∃ (a : Addr) (ns : List Int), vs = [V.ref a] ∧ SqT F H a (ns.map V.int) ∧ 0 < ns.length ∧ ∀ m, m ∈ ns → (∀ y, y ∈ ns → m ≤ y) → Q (.int m) H
theorem cr_maxT (hc : X.calm = true) : CallR X (.builtin "max") (rMaxT X.K) := by
  intro pins s σ H vs us Q I r h
  obtain ⟨a, ns, rfl, hs, hne, q⟩ := h
  obtain ⟨its, rv, hl, _⟩ := I.tuple hs
  rw [Vals.ref1 r]
  exact max_rawT (I.ok.hd hc) hl rv.ints hne fun h' tk m t' hk h1 h2 => ⟨.int _, H, I.kept hk, ⟨_, rfl⟩, q m h1 h2⟩
theorem cr_minT (hc : X.calm = true) : CallR X (.builtin "min") (rMinT X.K) := by
  intro pins s σ H vs us Q I r h
  obtain ⟨a, ns, rfl, hs, hne, q⟩ := h
  obtain ⟨its, rv, hl, _⟩ := I.tuple hs
  rw [Vals.ref1 r]
  exact min_rawT (I.ok.hd hc) hl rv.ints hne fun h' tk m t' hk h1 h2 => ⟨.int _, H, I.kept hk, ⟨_, rfl⟩, q m h1 h2⟩
def dMaxT : List PyData → Option PyData
  | [.tuple ds] => (intsD ds).bind fun ns => ns.max?.map .int
  | _ => none
def dMinT : List PyData → Option PyData
  | [.tuple ds] => (intsD ds).bind fun ns => ns.min?.map .int
  | _ => none
theorem callD_maxT (hKF : K.F = X.K := by assumption) : CallD K (rMaxT X.K) dMaxT := by
  intro c H G cu vs ds z Q wd r hz q
  unfold dMaxT at hz
  split at hz
  · rename_i es
    obtain ⟨v, rfl, rv⟩ := r.one
    obtain ⟨a, xs, rfl, ha, ra⟩ := rv.tup_of
    obtain ⟨ns, ei, hz⟩ := Option.bind_eq_some_iff.mp hz
    obtain ⟨m, em, rfl⟩ := Option.map_eq_some_iff.mp hz
    obtain ⟨h1, h2⟩ := List.max?_eq_some_iff.mp em
    refine ⟨a, ns, rfl, ?_, List.length_pos_of_mem h1, fun m' k1 k2 => ?_⟩
    · rw [← ints_rp ra ei]
      exact TupAt.sq' hKF (TupAt.mono wd.sub ha)
    · have : m' = m := Int.le_antisymm (h2 _ k1) (k2 _ h1)
      subst this
      exact q _ H G Ext.refl wd (.int _)
  · cases hz
theorem callD_minT (hKF : K.F = X.K := by assumption) : CallD K (rMinT X.K) dMinT := by
  intro c H G cu vs ds z Q wd r hz q
  unfold dMinT at hz
  split at hz
  · rename_i es
    obtain ⟨v, rfl, rv⟩ := r.one
    obtain ⟨a, xs, rfl, ha, ra⟩ := rv.tup_of
    obtain ⟨ns, ei, hz⟩ := Option.bind_eq_some_iff.mp hz
    obtain ⟨m, em, rfl⟩ := Option.map_eq_some_iff.mp hz
    obtain ⟨h1, h2⟩ := List.min?_eq_some_iff.mp em
    refine ⟨a, ns, rfl, ?_, List.length_pos_of_mem h1, fun m' k1 k2 => ?_⟩
    · rw [← ints_rp ra ei]
      exact TupAt.sq' hKF (TupAt.mono wd.sub ha)
    · have : m' = m := Int.le_antisymm (k2 _ h1) (h2 _ k1)
      subst this
      exact q _ H G Ext.refl wd (.int _)
  · cases hz
end
end DL

set_option Elab.async false
set_option linter.all false
set_option maxRecDepth 100000
set_option maxHeartbeats 2000000
set_option autoImplicit false
/-! x op= e; bit_length; reversed of a list; a builtin held by a name; a thing in a list -/
namespace DL
open PySem PySem.Spec PyProof.Rows L2
section
variable {X : Cx}
theorem bits_of_log {i : Int} {k : Nat} (h : i.natAbs.log2 ≤ k) : Builtin.Int.intBits i ≤ k + 1 := by
  unfold Builtin.Int.intBits
  split <;> omega
theorem bits_64 {i : Int} (h : i.natAbs < 2 ^ 64) : Builtin.Int.intBits i ≤ 64 := bits_of_log (k := 63) (by have := log2_lt (k := 64) h (by decide); omega)
theorem mulOk_bits {i j : Int} (hc : mulOk i j = true) : IntMulOk i j := by
  unfold mulOk at hc
  rw [Bool.or_eq_true, Bool.or_eq_true, decide_eq_true_eq, decide_eq_true_eq, decide_eq_true_eq] at hc
  rcases hc with hc | hc | hc
  · exact IntMulOk.of_left (bits_64 hc)
  · exact IntMulOk.of_right (bits_64 hc)
  · exact IntMulOk.of_le (bits_of_log (Nat.le_refl _)) (bits_of_log (Nat.le_refl _)) (by omega)
theorem ip_mulD : PIp X .Mult (rI CMulD fun i j => .int (i * j)) := opI (f := inplaceOp .Mult) fun i j _ _ _ _ _ hc q => imul_int q (mulOk_bits hc)
theorem ip_divD : PIp X .FloorDiv (rI CDivD fun i j => .int (i.fdiv j)) := opI (f := inplaceOp .FloorDiv) fun i j _ _ _ _ _ hc q => by
  have hc : divOk i j = true := hc
  unfold divOk at hc
  rw [Bool.and_eq_true, decide_eq_true_eq, decide_eq_true_eq] at hc
  exact ifloordiv_int hc.1 q (.inl (PyProof.noPylong_of_log2 hc.2))
theorem ip_addD : PIp X .Add (rI0 fun i j => .int (i + j)) := ip_add
theorem ip_subD : PIp X .Sub (rI0 fun i j => .int (i - j)) := ip_sub
end
section
variable {X : Cx} {K : Kx} {E : XK} {e : Expr} {te : TE} {ge : GE} {pos : Pos}
/-! x op= e -/
def gAug (i : Nat) (f : PyData → PyData → Option PyData) (g : GE) : GS := fun ρ cu => match ρ[i]? with
  | some (.dat d) => (g ρ cu).bind fun z cu1 => (Rs.ofO (f d z) cu1).bind fun y cu2 => .ok (.nx (ρ.set i (.dat y))) cu2
  | _ => .stuck
theorem psd_aug {i : Nat} {x : Str} {pos' : Pos} {op : Operator} {ti : TIp} {f : PyData → PyData → Option PyData} (hN : X.N.Nodup) (hi : X.N[i]? = some x) (hx : Loc X.env.scope x) (ho : PIp X op ti) (hf : OpD K ti f) (he : PD X K E e te ge)
    (hl : X.fn x = true ∨ X.env.scope.names.lookup x = some .local := by first | exact .inl rfl | exact .inr rfl | assumption) :
    PSD X K E (.AugAssign (.Name x pos') op e pos) (tAug i te ti) (gAug i f ge) := by
  refine ⟨ps_aug hN hi hx he.pe ho hl, fun c H0 G0 σ H G ρ cu D s q => ?_⟩
  unfold gAug at q
  split at q
  · rename_i d ed
    obtain ⟨v, ev, rv⟩ := s.rep.dat i d ed
    refine ⟨v, ev, ?_⟩
    refine he.sem c H0 G0 σ H G ρ cu _ s ((q.exp s).imp fun z H1 G1 cu1 x1 w1 q1 u ru => ?_)
    obtain ⟨y, e2, q2⟩ := PostS.ofO q1
    exact hf c H1 G1 cu1 v u d z y _ w1 (rv.mono x1.g) ru e2 fun v' H' G' x2 w2 r2 => q2 _ H' G' (((s.go x1 w1).go x2 w2).set r2)
  · exact q.elim
end
/-! bit_length -/
def dBits : PyData → Option PyData
  | .int i => some (.int (Builtin.Int.intBits i : Nat))
  | _ => none
def gBits (g : GE) : GE := fun ρ cu => (g ρ cu).bind fun d cu1 => .ofO (dBits d) cu1
section
variable {X : Cx} {K : Kx} {E : XK} {e o : Expr} {te : TE} {ge : GE} {pos apos : Pos}
theorem pd_bits (h : PD X K E o te ge) (h1 : attributeBase o "bit_length" X.env (eval o X.env) = eval o X.env := by rfl) (h2 : (apos.endLine == pos.line) = true := by rfl) : PD X K E (.Call (.Attribute o "bit_length" apos) [] [] pos) (tBits te) (gBits ge) := by
  refine ⟨pe_bits h.pe h1 h2, fun c H0 G0 σ H G ρ cu Q s q => ?_⟩
  refine h.sem c H0 G0 σ H G ρ cu _ s (q.bind.imp fun d H1 G1 cu1 x1 w1 q1 v rv => ?_)
  obtain ⟨z, e1, q2⟩ := q1.ofO
  unfold dBits at e1
  split at e1
  · cases e1
    exact ⟨_, rv.int_of, q2 H1 G1 Ext.refl w1 _ (.int _)⟩
  · cases e1
/-! reversed of a list -/
def dRevL : PyData → Option (List PyData)
  | .list ds => some ds.reverse
  | _ => none
def giRev (g : GE) : GI := fun ρ cu => (g ρ cu).bind fun d cu1 => .ofO (dRevL d) cu1
theorem wk_revL {F : PySem.W.Frag} {G1 : Hp} {a : Addr} {xs : List V} {ds : List PyData} (h : G1 a = some (.lst xs)) (r : RpL K G1 xs ds) : Wk K (Itv F a xs.length) G1 ds.reverse := by
  intro c H G cu k w
  have hH : SqL F H a xs := SqL.of (w.sub _ _ (k _ _ h))
  have hl := r.length
  refine ⟨fun i d e => ?_, by show xs.length ≤ ds.reverse.length; rw [List.length_reverse]; exact Nat.le_of_eq hl⟩
  have hi : i < ds.length := by
    have := (List.getElem?_eq_some_iff.mp e).1
    rwa [List.length_reverse] at this
  rw [List.getElem?_reverse hi] at e
  obtain ⟨v, e1, rv⟩ := r.get e
  rw [← hl] at e1
  refine ⟨⟨by omega, xs, v, hH, e1⟩, fun x H' y => ?_⟩
  obtain ⟨rfl, y⟩ := y
  have ev : v = x := Option.some.inj (e1.symm.trans (y xs hH))
  subst ev
  exact ⟨G, Ext.refl, w, rv.mono k⟩
theorem pid_rev {tg : Expr} {p : Pos} (hg : Gl X "reversed") (hm : X.mg "reversed" = none) (h : PD X K E e te ge) (hs : starEach [e] X.env = (false, eval e X.env) :: starEach [] X.env := by rfl) :
    PID X K E tg (.Call (.Name "reversed" p) [e] [] pos) (RT.iRevA X.K te) (giRev ge) := by
  refine ⟨RT.pi_revA hg hm h.pe hs, fun c H0 G0 σ H G ρ cu R s q => ?_⟩
  refine h.sem c H0 G0 σ H G ρ cu _ s (q.bind.imp fun d H1 G1 cu1 x1 w1 q1 v rv => ?_)
  obtain ⟨ds, ed, q2⟩ := q1.ofO
  unfold dRevL at ed
  split at ed
  · cases ed
    obtain ⟨a, xs, rfl, ha, ra⟩ := rv.lst_of
    exact ⟨a, xs, rfl, .inl ⟨SqL.of (w1.sub _ _ ha), q2 H1 G1 Ext.refl w1 _ (wk_revL ha ra)⟩⟩
  · cases ed
/-! isqrt -/
def rIsq : List V → Hp → VK → Prop := fun vs H Q => ∃ i : Int, vs = [V.int i] ∧ 0 ≤ i ∧ i < 2 ^ 64 ∧ Q (.int ((Float64.isqrt i.toNat : Nat) : Int)) H
theorem cr_isqrt : CallR X (.builtin "math.isqrt") rIsq := by
  intro pins s σ H xs us Q I vs h
  obtain ⟨i, rfl, h0, h1, q⟩ := h
  cases vs with
  | cons h r =>
    cases r
    obtain ⟨t, rfl⟩ := h
    exact PySem.W.mg_isqrt h0 h1 ⟨.int _, H, I.kept fun b u e => e, ⟨_, rfl⟩, q⟩
def dIsq : List PyData → Option PyData
  | [.int i] => if 0 ≤ i ∧ i < 2 ^ 64 then some (.int ((Float64.isqrt i.toNat : Nat) : Int)) else none
  | _ => none
theorem callD_isq : CallD K rIsq dIsq := by
  intro c H G cu vs ds z Q wd r hz q
  unfold dIsq at hz
  split at hz
  · rename_i i
    obtain ⟨v, rfl, rv⟩ := r.one
    split at hz
    · rename_i hi
      cases hz
      rw [rv.int_of]
      exact ⟨i, rfl, hi.1, hi.2, q _ H G Ext.refl wd (.int _)⟩
    · cases hz
  · cases hz
theorem pd_callBf {es : List Expr} {t : TA} {g : GA} {id : String} {x : Str} {p : Pos} {r : List V → Hp → VK → Prop} {f : List PyData → Option PyData} (hc : CallR X (.builtin id) r) (hf : CallD K r f) (hg : Gl X x) (hm : X.mg x = some (.builtin id)) (ha : PAD X K E (e :: es) t g)
    (hdb : (x == ("__debug__" : Str)) = false := by decide)
    (he : starEach (e :: es) X.env = (false, eval e X.env) :: starEach es X.env := by rfl) (hpl : (backTo pos (starEach es X.env)).any (·.1) = false := by rfl) : PD X K E (.Call (.Name x p) (e :: es) [] pos) (tCB r t) (gCall f g) :=
  ⟨pe_callBfun hc hg hm ha.pa hdb he hpl, sem_callB hf ha.sem⟩
/-! a thing in a list -/
def dInL : PyData → PyData → Option PyData
  | d, .list ds => if SeqAt.shaped d = true ∧ SeqAt.shaped (.list ds) = true then some (.bool (ds.any fun z => PyData.eqv z d)) else none
  | _, _ => none
theorem opD_inL (hKF : K.F = X.K := by assumption) : OpD K (rInD X.K) dInL := by
  intro c H G cu v w d e z Q wd r1 r2 hz q
  unfold dInL at hz
  split at hz
  · split at hz
    · rename_i hs
      cases hz
      exact ⟨_, _, (r1.mono wd.sub).dpS hKF hs.1, (r2.mono wd.sub).dpS hKF hs.2, hs.1, hs.2, q _ H G Ext.refl wd (.bl _)⟩
    · cases hz
  · cases hz
/-! x, y = [..], e, where x is one's own list -/
def gParO (i j : Nat) (g1 : GI) (g2 : GE) : GS := fun ρ cu => (g1 ρ cu).bind fun ds cu1 => (g2 ρ cu1).bind fun d cu2 => .ok (.nx ((ρ.set i (.own ds)).set j (.dat d))) cu2
theorem psd_parO {i j : Nat} {x y : Str} {a b : Expr} {ta tb : TE} {g1 : GI} {g2 : GE} {px py pt : Pos} {kt k2 : Nat} {pt2 : Pos} (hc : X.calm = true) (hN : X.N.Nodup) (hi : X.N[i]? = some x) (hj : X.N[j]? = some y) (hij : i ≠ j)
    (hx : X.env.scope.names.lookup x = some .local) (hy : X.env.scope.names.lookup y = some .local) (ha : PFD X K E a ta g1) (hb : PD X K E b tb g2)
    (hw : swappedStores [.Tuple [.Name x px, .Name y py] kt pt] (.Tuple [a, b] k2 pt2) X.env = pure (some [x, y]) := by rfl)
    (hs : swapsWithSole [.Tuple [.Name x px, .Name y py] kt pt] (.Tuple [a, b] k2 pt2) pos.line X.env = pure false := by rfl)
    (h1 : starEach [a, b] X.env = (false, eval a X.env) :: starEach [b] X.env := by rfl) (h2 : starEach [b] X.env = (false, eval b X.env) :: starEach [] X.env := by rfl) :
    PSD X K E (.Assign [.Tuple [.Name x px, .Name y py] kt pt] (.Tuple [a, b] k2 pt2) pos) (tPar i j (tCons ta (tCons tb tNil))) (gParO i j g1 g2) := by
  refine ⟨ps_par hc hN hi hj hij hx hy (pa_cons ha.pe (pa_cons hb.pe pa_nil h2) h1) hw hs, fun c H0 G0 σ H G ρ cu D s q => ?_⟩
  refine ha.sem c H0 G0 σ H G ρ cu _ s ((q.exp s).imp fun ds H1 G1 cu1 x1 w1 q1 p xs hp hp' r gp => ?_)
  refine hb.sem c H0 G0 σ H1 G1 ρ cu1 _ (s.go x1 w1) ((q1.exp (s.go x1 w1)).imp fun d H2 G2 cu2 x2 w2 q2 v rv => ?_)
  exact ⟨_, _, rfl, q2 _ H2 G2 ((s.setO (x1.trans x2) w2 hp (x2.h p _ hp' nt_lst (s.wd.nc hp)) (r.mono x2.g) (x2.n p _ hp' nt_lst gp)).set rv)⟩
end
end DL

set_option Elab.async false
set_option linter.all false
set_option maxRecDepth 100000
set_option maxHeartbeats 2000000
set_option autoImplicit false
/-! a tuple from its end to its head -/
namespace DL
open PySem PySem.Spec PyProof.Rows L2
section
variable {prog : Program} {w : World} {A : Around} {E : Value → Shared → Prop} {s : Shared}
theorem sliceApplied_rev {sl : Addr} {n : Nat} {u : Tok} {Q : Int × Int × Nat → Shared → Prop} (h : s.heap.IsSliceOf sl .none .none (.int (-1) u)) (q : Q ((n : Int) - 1, -1, n) s) :
    wpAny (model prog w) A (Builtin.Slice.sliceApplied (.ref sl) (pure (n : Int))) Q E s := by
  obtain ⟨o, h1, h2, h3⟩ := h
  unfold Builtin.Slice.sliceApplied
  refine wpAny_bind ?_
  unfold Builtin.Slice.sliceFields
  refine wpAny_bind (wpAny_field h1 h3 rfl (wpAny_bind (wpAny_field h1 h3 rfl (wpAny_bind (wpAny_field h1 h3 rfl (wpAny_pure ?_))))))
  refine wpAny_bind (slicePart_int ?_)
  show wpAny (model prog w) A (if ((-1 : Int) == 0) = true then _ else _) Q E s
  rw [if_neg (by decide)]
  refine wpAny_bind (slicePart_none (wpAny_bind (slicePart_none (wpAny_bind (wpAny_pure ?_)))))
  have ha : Builtin.Slice.sliceAdjust none none (-1) (n : Int) = ((n : Int) - 1, -1) := rfl
  have hp : Builtin.Slice.slicePlaces ((n : Int) - 1) (-1) (-1) = n := by
    unfold Builtin.Slice.slicePlaces
    rw [if_neg (by decide)]
    by_cases h : (n : Int) - 1 > -1
    · rw [if_pos h, Int.neg_neg, Int.ediv_one]; omega
    · rw [if_neg h]; omega
  show wpAny (model prog w) A (match Builtin.Slice.sliceAdjust none none (-1) (n : Int) with | (lo, hi) => pure (lo, (-1 : Int), Builtin.Slice.slicePlaces lo hi (-1))) Q E s
  rw [ha]
  refine wpAny_pure ?_
  show Q ((n : Int) - 1, -1, Builtin.Slice.slicePlaces ((n : Int) - 1) (-1) (-1)) s
  rw [hp]
  exact q
theorem filterMap_eq {α β : Type} {f g : α → Option β} : ∀ {l : List α}, (∀ x ∈ l, f x = g x) → l.filterMap f = l.filterMap g
  | [], _ => rfl
  | x :: l, h => by
    rw [List.filterMap_cons, List.filterMap_cons, h x (List.mem_cons_self ..), filterMap_eq fun y hy => h y (List.mem_cons_of_mem _ hy)]
theorem pick_rev (xs : Array Value) : (List.filterMap (fun (k : Nat) => xs[((xs.size : Int) - 1 + (k : Int) * -1).toNat]?) (List.range xs.size)).toArray = xs.toList.reverse.toArray := by
  have h := pick_from xs.toList.reverse.toArray 0 (Nat.zero_le _)
  rw [List.drop_zero] at h
  have hs : xs.toList.reverse.toArray.size - 0 = xs.size := by simp
  rw [hs] at h
  have hc : List.filterMap (fun (k : Nat) => xs[((xs.size : Int) - 1 + (k : Int) * -1).toNat]?) (List.range xs.size) = List.filterMap (fun (k : Nat) => xs.toList.reverse.toArray[(((0 : Nat) : Int) + (k : Int) * 1).toNat]?) (List.range xs.size) := by
    refine filterMap_eq fun k hk => ?_
    have hk := List.mem_range.mp hk
    have e1 : ((xs.size : Int) - 1 + (k : Int) * -1).toNat = xs.size - 1 - k := by omega
    have e2 : (((0 : Nat) : Int) + (k : Int) * 1).toNat = k := by omega
    have hk2 : k < xs.toList.length := by rw [Array.length_toList]; exact hk
    have h5 := List.getElem?_reverse hk2
    rw [Array.length_toList] at h5
    have e4 : xs.toList.reverse.toArray[k]? = xs.toList.reverse[k]? := by simp
    have e5 : xs[xs.size - 1 - k]? = xs.toList[xs.size - 1 - k]? := by simp
    rw [e1, e2, e4, h5, e5]
  rw [hc, h]
theorem getItem_tuple_rev {t sl : Addr} {items : Array Value} {u : Tok} {Q : Value → Shared → Prop} (ht : IsTup s.heap t items) (h : s.heap.IsSliceOf sl .none .none (.int (-1) u))
    (q : Q (.ref s.heap.objs.size) { heap := s.heap.push { cls := .type "tuple", data := .seq items.toList.reverse.toArray }, gens := s.gens, drawn := s.drawn, toks := s.toks, os := s.os }) (hz : items.size ≤ sizeLine) :
    wpAny (model prog w) A (getItem (.ref t) (.ref sl)) Q E s := by
  have hts : s.TypeIs (.ref sl) "slice" := by
    obtain ⟨o, h1, h2, _⟩ := h
    exact ⟨o, h1, h2⟩
  unfold getItem
  refine wpAny_holding (wpAny_bind (wpAny_sequenceKey ht.typeIs (by decide) ?_))
  refine wpAny_bind (wpAny_callSpecial?_slot ht.typeIs slot_tuple_getitem ?_)
  refine wpAny_call_entry slot_tuple_getitem ht.typeIs entry_tuple_getitem ?_ (args_tuple_getitem _ _)
  unfold Builtin.«tuple.__getitem__»
  show wpAny (model prog w) A.in1 (Builtin.Tuple.tupleItemsOf (.ref t) >>= _) _ E s
  refine wpAny_bind (tupleItemsOf_ ht (wpAny_bind (wpAny_typeOf hts ?_)))
  rw [if_pos (by decide)]
  refine wpAny_bind (sliceApplied_rev h ?_)
  show wpAny (model prog w) A.in1 (if (((items.size : Int) - 1 == 0) && ((-1 : Int) == 1) && (items.size == items.size)) = true then _ else _) _ E s
  rw [if_neg (by simp)]
  refine wpAny_bind ?_
  unfold Builtin.Tuple.tupleExact
  rw [pick_rev]
  refine wpAny_newObj_type ?_ ?_
  · exact wpAny_pure ⟨_, rfl, wpAny_pure q⟩
  · show items.toList.reverse.toArray.size ≤ sizeLine
    simpa using hz
end
section
variable {X : Cx} {K : Kx} {E : XK} {e : Expr} {te : TE} {ge : GE} {pos : Pos}
theorem RpL.rev {G : Hp} : ∀ {xs : List V} {ds : List PyData}, RpL K G xs ds → RpL K G xs.reverse ds.reverse
  | _, _, .nil => .nil
  | _, _, .cons h r => by
    rw [List.reverse_cons, List.reverse_cons]
    exact (RpL.rev r).app (.cons h .nil)
theorem units65 {k : Nat} {A : Around} (h : Room k A) : A.units + 65 < cLine := by have := h.un; omega
def dRevT : PyData → Option PyData
  | .tuple ds => some (.tuple ds.reverse)
  | _ => none
def tRevT (K : PySem.W.Frag) (te : TE) : TE := fun σ H Q => te σ H fun x H1 => ∃ a xs, x = .ref a ∧ SqT K H1 a xs ∧ ∀ p, H1 p = none → Q (.ref p) (upd H1 p (.tup xs.reverse))
theorem pe_revT {k : Nat} {p1 p2 p3 : Pos} (h : PE X e te) : PE X (.Subscript e (.Slice none none (some (.UnaryOp .USub (.Constant (.int 1) k p1) p2)) p3) pos) (tRevT X.K te) := by
  refine ⟨fun pins s σ H Q I q => ?_⟩
  refine Subscript_ (thn (h.run pins s σ H _ I q) ?_)
  rintro o s1 ⟨v, H1, I1, rv, a, xs, rfl, hs, q1⟩
  cases rv
  refine wpAny_Slice (thn (po_none.run pins s1 σ H1 (fun o H' => o = none ∧ H' = H1) I1 ⟨rfl, rfl⟩) ?_)
  rintro u1 s2 ⟨o1, H2, I2, p1', rfl, rfl⟩
  cases p1'
  refine thn (po_none.run pins s2 σ H2 (fun o H' => o = none ∧ H' = H2) I2 ⟨rfl, rfl⟩) ?_
  rintro u2 s3 ⟨o2, H3, I3, p2', rfl, rfl⟩
  cases p2'
  refine thn ((po_some (pe_un un_neg pe_int)).run pins s3 σ H3 (fun o H' => o = some (-1) ∧ H' = H3) I3 ⟨1, rfl, -1, rfl, rfl, rfl⟩) ?_
  rintro u3 s4 ⟨o3, H4, I4, p3', rfl, rfl⟩
  cases p3' with
  | int i t =>
    have I5 := I4.kept (h' := s4.heap.push { cls := .type "slice", data := .fields #[.none, .none, .int (-1) t] }) (t' := s4.toks) (fun b u e => Heap.get?_push_of_some _ e)
    obtain ⟨its, vs, ht, hz⟩ := I5.tuple hs
    have hlen := vs.length
    refine tail_any ht.typeIs slot_tuple_getitem.lookup (getItem_tuple_rev ht (Heap.IsSliceOf.new ..) ?_ (by rw [List.size_toArray, ← hlen]; exact hz)) rfl
    refine ⟨.ref _, upd H4 _ (.tup xs.reverse), I5.laid (t' := s4.toks) (fun b o e => Heap.get?_push_of_some _ e) (Nat.le_refl _) ?_, rfl, q1 _ (I5.hok.fresh (Nat.le_refl _))⟩
    refine ⟨by rw [List.length_reverse]; exact hz, its.reverse, vs.reverse, ?_⟩
    exact ⟨_, Heap.get?_push_size _ rfl, rfl, 0, rfl⟩
theorem pd_revT {k : Nat} {p1 p2 p3 : Pos} (h : PD X K E e te ge) (hKF : K.F = X.K := by assumption) : PD X K E (.Subscript e (.Slice none none (some (.UnaryOp .USub (.Constant (.int 1) k p1) p2)) p3) pos) (tRevT X.K te) (gUn dRevT ge) := by
  refine ⟨pe_revT h.pe, fun c H0 G0 σ H G ρ cu Q s q => ?_⟩
  refine h.sem c H0 G0 σ H G ρ cu _ s (q.bind.imp fun d H1 G1 cu1 x1 w1 q1 v rv => ?_)
  obtain ⟨z, e1, q2⟩ := q1.ofO
  unfold dRevT at e1
  split at e1
  · cases e1
    obtain ⟨a, xs, rfl, ha, ra⟩ := rv.tup_of
    exact ⟨a, xs, rfl, TupAt.sq' hKF (TupAt.mono w1.sub ha), fun p hp => new_tup w1 ra.rev (fun v' H' G' x w r => q2 H' G' x w v' r) hp⟩
  · cases e1
end
end DL

set_option Elab.async false
set_option linter.all false
set_option maxRecDepth 100000
set_option maxHeartbeats 2000000
set_option autoImplicit false
/-! the head: facts by names, tables of code objects -/
namespace DL
open PySem PySem.Spec PyProof.Rows L2
def tabP (K : PySem.W.Frag) (x : Str) : Addr × Addr := match PySem.W.tabIn K x with
  | some q => q
  | none => (0, 0)
def tabB (K : PySem.W.Frag) (x : Str) : Bool := match PySem.W.tabIn K x with
  | some (c, P) => PySem.W.codeHdIn K c P && (K.lookup P).isNone
  | none => false
abbrev AlT : Type := He.AlD × (Bool × List (Option Obj))
def tabO (xs : List Str) (K : PySem.W.Frag) (g : Addr → Option Obj) : Bool × List (Option Obj) := ((xs.all fun x => tabB K x) && decide (xs.map fun x => (tabP K x).2).Nodup, xs.map fun x => g (tabP K x).2)
def tabV (xs : List Str) : Bool × List (Option Obj) := (true, xs.map fun _ => some (PySem.W.tabObj #[]))
def obsT (n : Nat) (fa : List He.Fa) (fn : List He.DefD) (xs : List Str) (g : Addr → Option Obj) : AlT := (He.obsD fa fn (He.frG g (He.asD g n)), tabO xs (He.frG g (He.asD g n)) g)
structure SaysT (fa : List He.Fa) (fn : List He.DefD) (xs : List Str) (K : PySem.W.Frag) (h : Heap) : Prop where
  kin : K.In h
  facts : He.SaysD fa fn K
  tab : ∀ x ∈ xs, tabB K x = true ∧ h.get? (tabP K x).2 = some (PySem.W.tabObj #[])
  nd : (xs.map fun x => (tabP K x).2).Nodup
def hookT (n : Nat) (fa : List He.Fa) (fn : List He.DefD) (xs : List Str) : PySem.W.Hook where
  α := AlT
  obs := fun s => obsT n fa fn xs s.heap.get?
  val := fun _ => (He.valD fn, tabV xs)
  says := fun _ h => ∃ K : PySem.W.Frag, SaysT fa fn xs K h
  of := fun w s e => by
    have e1 := congrArg (fun z : AlT => z.1) e
    have e2 := congrArg (fun z : AlT => z.2.1) e
    have e3 := congrArg (fun z : AlT => z.2.2) e
    have e2 : ((xs.all fun x => tabB (He.frG s.heap.get? (He.asD s.heap.get? n)) x) && decide (xs.map fun x => (tabP (He.frG s.heap.get? (He.asD s.heap.get? n)) x).2).Nodup) = true := e2
    rw [Bool.and_eq_true, List.all_eq_true, decide_eq_true_eq] at e2
    have e3 : (xs.map fun x => s.heap.get? (tabP (He.frG s.heap.get? (He.asD s.heap.get? n)) x).2) = xs.map fun _ => some (PySem.W.tabObj #[]) := e3
    exact ⟨_, He.frG_in, e1, fun x hx => ⟨e2.1 x hx, List.map_inj_left.mp e3 x hx⟩, e2.2⟩
  keeps := fun w h h' ⟨K, S⟩ k => ⟨K, PySem.W.Frag.In.keeps S.kin k, S.facts, fun x hx => ⟨(S.tab x hx).1, k _ _ (S.tab x hx).2⟩, S.nd⟩
theorem obsT_eq {n : Nat} {fa : List He.Fa} {fn : List He.DefD} {xs : List Str} {g : Addr → Option Obj} {s : Shared} (h : ∀ a, g a = s.heap.get? a) : obsT n fa fn xs g = (hookT n fa fn xs).obs s := by
  have e : g = s.heap.get? := funext h
  rw [e] <;> rfl
section
variable {fa : List He.Fa} {fn : List He.DefD} {xs : List Str} {K : PySem.W.Frag} {h : Heap}
theorem SaysT.code (S : SaysT fa fn xs K h) {x : Str} (hx : x ∈ xs) : PySem.W.CodeHd h (tabP K x).1 (tabP K x).2 ∧ K.lookup (tabP K x).2 = none := by
  have hb := (S.tab x hx).1
  unfold tabB at hb
  unfold tabP
  split at hb
  · rename_i c P e
    rw [Bool.and_eq_true] at hb
    rw [e]
    refine ⟨PySem.W.codeHd_of_K S.kin hb.1, ?_⟩
    cases q : K.lookup P with
    | none => rfl
    | some o => have := hb.2; rw [q] at this; cases this
  · cases hb
theorem tabIn_of {x : Str} (hb : tabB K x = true) : PySem.W.tabIn K x = some (tabP K x) := by
  unfold tabB at hb
  unfold tabP
  split at hb
  · rename_i c P e; rw [e]
  · cases hb
/-- the def's code object is that of the table -/
theorem code_of {x : Str} {c P : Addr} (ht : PySem.W.tabIn K x = some (c, P)) {fd : FuncData} {oc : Value} {od : Option Addr} {osl : Array (Option Value)} (lk : K.lookup (He.ga K x) = some ⟨oc, od, .func fd, osl⟩) : fd.code = .ref c := by
  unfold PySem.W.tabIn at ht
  unfold He.ga at lk
  split at ht
  · rename_i f hf
    rw [hf] at lk
    dsimp only at lk
    rw [lk] at ht
    dsimp only at ht
    split at ht
    · rename_i c2 hc
      split at ht
      · split at ht
        · cases ht; exact hc
        · cases ht
      · cases ht
    · cases ht
  · cases ht
/-- a plain def of the text -/
structure DefIs (d : He.DefD) (x : Str) (st : Stmt) : Prop where
  e : d = ⟨(x, none), x, x, defArgs st, defBody st, defScope st, [], []⟩
theorem fun_of {x : Str} {st : Stmt} {ps : List Str} (c : He.SaysD fa fn K) {h : Heap} {mg : Str → Option Value} (X : K.In h) (G : h.Ns mainGlobals mg) (i : Nat) (hd : fn[i]? = some ⟨(x, none), x, x, defArgs st, defBody st, defScope st, [], []⟩) (j : Nat) (hf : fa[j]? = some (.glo x))
    (hb : ∀ (kV doc pm : Value) (an : Option Addr) (cdv ct : Value) (us : List Value), us.length = ps.length → bindArgs (PySem.W.fnOf x x (defArgs st) (defBody st) (defScope st) .none kV doc pm an cdv ct) ⟨us, []⟩ = pure (ps.zip us)) :
    ∃ (f : Addr) (fd : FuncData), Fun K x x st f fd ∧ mg x = some (.ref f) ∧ Binds K fd ps [] := by
  obtain ⟨fd, F⟩ := c.def_ i hd
  have b := F.bindsN hb
  obtain ⟨oc, od, dV, kV, doc, pm, an, cdv, ct, osl, rfl, lk, hcd, hD, hK⟩ := F.ex
  rcases hD with ⟨_, rfl⟩ | ⟨e, _⟩
  · exact ⟨He.ga K x, _, ⟨⟨oc, od, kV, doc, pm, an, cdv, ct, osl, rfl, lk, hcd⟩, F.kp⟩, He.glo_ok X G (c.fact j hf), b⟩
  · exact absurd rfl e
theorem funK_of {x : Str} {st : Stmt} {ps : List Str} (c : He.SaysD fa fn K) {h : Heap} {mg : Str → Option Value} (X : K.In h) (G : h.Ns mainGlobals mg) (hb : tabB K x = true) (i : Nat) (hd : fn[i]? = some ⟨(x, none), x, x, defArgs st, defBody st, defScope st, [], []⟩) (j : Nat) (hf : fa[j]? = some (.glo x))
    (hbi : ∀ (kV doc pm : Value) (an : Option Addr) (cdv ct : Value) (us : List Value), us.length = ps.length → bindArgs (PySem.W.fnOf x x (defArgs st) (defBody st) (defScope st) .none kV doc pm an cdv ct) ⟨us, []⟩ = pure (ps.zip us)) :
    ∃ (f : Addr) (fd : FuncData), FunK K x x st f fd (tabP K x).1 ∧ mg x = some (.ref f) ∧ Binds K fd ps [] := by
  obtain ⟨fd, F⟩ := c.def_ i hd
  have b := F.bindsN hbi
  obtain ⟨oc, od, dV, kV, doc, pm, an, cdv, ct, osl, rfl, lk, hcd, hD, hK⟩ := F.ex
  rcases hD with ⟨_, rfl⟩ | ⟨e, _⟩
  · have ec : cdv = .ref (tabP K x).1 := code_of (tabIn_of hb) lk
    subst ec
    exact ⟨He.ga K x, _, ⟨⟨oc, od, kV, doc, pm, an, ct, osl, rfl, lk, hcd⟩, F.kp⟩, He.glo_ok X G (c.fact j hf), b⟩
  · exact absurd rfl e
end
theorem walk_ofX {l : PySem.W.OpenLaw} {n k : Nat} {q : Program} {loose : List Str} {XP : (Str → Option Value) → Heap → Prop} {YP : World → Heap → Prop} {d : DefRec} {CX : World → CXT} {x : Str}
    (hn : l.most = some n) (hn2 : n ≤ sizeLine) (hdf : d.params.defaults = []) (hr : Room k callerA)
    (F : ∀ (w : World) (mg : Str → Option Value) (fa : Addr) (h : Heap), YP w h → h.Ns mainGlobals mg → mg d.name = some (.ref fa) → ∃ K : PySem.W.Frag, K.In h ∧ LamX.LawAtS l w K (CX w) k n x mg fa h)
    (hCX : ∀ (w : World) (H : Hp) (s : Shared) (e : Value) (s' : Shared), CX w [] H s (fun _ _ _ => False) e s' → False) :
    PySem.W.WalkO q loose XP YP l.row.toRowW d [] (fun f vs => PySem.call f vs) := by
  refine Att.attach_callB hn hdf fun w s₀ s₁ mg mb fa o pm cd doc a vs ns G Y ho hd hcd hmg hobj hints hlen hbits hg => ?_
  obtain ⟨K, KX, fd, cs, sp, hT, nT, C, hb, hsp, hF⟩ := F w mg fa _ Y G.T.g hmg
  exact LamX.law_callTs KX G.T.g G.T.b G.T.builtins G.T.nolimit hg hT nT C G.T.bmain hobj hints (Nat.le_trans hlen hn2) hr hF hb (fun H hH hS => hsp H a ns hlen hbits hH hS) fun H e s' => hCX w H s₁ e s'
theorem cx_no (P : Program) (w : World) (H : Hp) (s : Shared) (e : Value) (s' : Shared) (h : L2.CX P w [] H s (fun _ _ _ => False) e s') : False := by
  obtain ⟨_, _, _, _, _, _, _, _, _, _, _, _, z⟩ := h
  exact z
end DL

set_option Elab.async false
set_option linter.all false
set_option maxRecDepth 100000
set_option maxHeartbeats 2000000
set_option autoImplicit false
/-! the head, where some names hold builtins of a module -/
namespace DL
open PySem PySem.Spec PyProof.Rows L2
def biB (K : PySem.W.Frag) (x : Str) (id : String) : Bool := He.eqO (PySem.W.nsIn K mainGlobals x) (some (some (Value.builtin id)))
theorem bi_ok {K : PySem.W.Frag} {h : Heap} {mg : Str → Option Value} (X : K.In h) (G : h.Ns mainGlobals mg) {x : Str} {id : String} (hb : biB K x id = true) : mg x = some (.builtin id) := PySem.W.mg_of X G (He.eqO_ok hb)
def obsB (n : Nat) (fa : List He.Fa) (fn : List He.DefD) (xs : List Str) (bs : List (Str × String)) (g : Addr → Option Obj) : AlT :=
  (He.obsD fa fn (He.frG g (He.asD g n)), ((tabO xs (He.frG g (He.asD g n)) g).1 && bs.all fun b => biB (He.frG g (He.asD g n)) b.1 b.2, (tabO xs (He.frG g (He.asD g n)) g).2))
structure SaysB (fa : List He.Fa) (fn : List He.DefD) (xs : List Str) (bs : List (Str × String)) (K : PySem.W.Frag) (h : Heap) : Prop extends SaysT fa fn xs K h where
  bi : ∀ b ∈ bs, biB K b.1 b.2 = true
def hookB (n : Nat) (fa : List He.Fa) (fn : List He.DefD) (xs : List Str) (bs : List (Str × String)) : PySem.W.Hook where
  α := AlT
  obs := fun s => obsB n fa fn xs bs s.heap.get?
  val := fun _ => (He.valD fn, tabV xs)
  says := fun _ h => ∃ K : PySem.W.Frag, SaysB fa fn xs bs K h
  of := fun w s e => by
    have e1 := congrArg (fun z : AlT => z.1) e
    have e2 := congrArg (fun z : AlT => z.2.1) e
    have e3 := congrArg (fun z : AlT => z.2.2) e
    have e2 : (((xs.all fun x => tabB (He.frG s.heap.get? (He.asD s.heap.get? n)) x) && decide (xs.map fun x => (tabP (He.frG s.heap.get? (He.asD s.heap.get? n)) x).2).Nodup) && bs.all fun b => biB (He.frG s.heap.get? (He.asD s.heap.get? n)) b.1 b.2) = true := e2
    rw [Bool.and_eq_true, Bool.and_eq_true, List.all_eq_true, List.all_eq_true, decide_eq_true_eq] at e2
    have e3 : (xs.map fun x => s.heap.get? (tabP (He.frG s.heap.get? (He.asD s.heap.get? n)) x).2) = xs.map fun _ => some (PySem.W.tabObj #[]) := e3
    exact ⟨_, ⟨He.frG_in, e1, fun x hx => ⟨e2.1.1 x hx, List.map_inj_left.mp e3 x hx⟩, e2.1.2⟩, e2.2⟩
  keeps := fun w h h' ⟨K, S⟩ k => ⟨K, ⟨PySem.W.Frag.In.keeps S.kin k, S.facts, fun x hx => ⟨(S.tab x hx).1, k _ _ (S.tab x hx).2⟩, S.nd⟩, S.bi⟩
theorem obsB_eq {n : Nat} {fa : List He.Fa} {fn : List He.DefD} {xs : List Str} {bs : List (Str × String)} {g : Addr → Option Obj} {s : Shared} (h : ∀ a, g a = s.heap.get? a) : obsB n fa fn xs bs g = (hookB n fa fn xs bs).obs s := by
  have e : g = s.heap.get? := funext h
  rw [e] <;> rfl
end DL

set_option Elab.async false
set_option linter.all false
set_option maxRecDepth 100000
set_option maxHeartbeats 2000000
set_option autoImplicit false
/-! generator expressions whose elements call: the context of their frame -/
namespace DL
open PySem PySem.Spec PyProof.Rows L2
/-- the context of a generator expression's frame: entered at s, its iterator's objects at fp -/
abbrev gcx (X : Cx) (A : Around) (s : Shared) (H : Hp) (cenv : Env) (fp : List Addr) (pn : List (Addr × Obj)) : Cx :=
  { X with A := A, s_0 := s, H_0 := H, env := cenv, outer := X.stack, stack := cenv :: X.stack, ex := fp, fn := fun _ => false, calm := true, pn := pn, xe := fun _ _ => False }
abbrev gEnv (X : Cx) (scope : Scope) (C : Addr) (code : Value) : Env := genEnv scope (cloFrom X.env.cells scope.names []) C code builtinsNs X.env
section
variable {X : Cx} {pins : List (Addr × Obj)} {σ : L2.St} {H : Hp} {s : Shared}
theorem gx_start {A : Around} {scope : Scope} {own : List (Str × Nat)} {fp : List Addr} {code : Value} {h' : Heap} {m : Str → Option Value} {g' : Array GenState} {tk : Nat} (I : Inv X pins σ H s) (ok : BlkOk X.N X.env.scope scope own) (hN : X.N.Nodup)
    (hcell : ∀ y ∈ scope.names, y.2 ≠ .cell) (hA : A.handled = none) (hfr : A.frames = some (gEnv X scope s.heap.objs.size code :: X.stack)) (hfp : ∀ b ∈ fp, FpOk X pins H b ∧ b < s.heap.objs.size)
    (hns : h'.Ns s.heap.objs.size m) (kp : ∀ b o, s.heap.get? b = some o → h'.get? b = some o) (hgb : AllBare g') :
    Inv (gcx X A s H (gEnv X scope s.heap.objs.size code) fp []) [] (wipe σ (own.map (·.2))) H { s with heap := h', gens := g', toks := tk } := by
  have hfree : ∀ y ∈ scope.names, y.2 = .free → ∃ c, X.env.cells.lookup y.1 = some c := fun y hy e => by
    rcases ok.free y hy e with k | k
    · exact I.ok.has _ (.inl k)
    · exact I.ok.has _ (.inr k)
  have cm : ∀ {y c}, (cloFrom X.env.cells scope.names []).lookup y = some c → X.env.cells.lookup y = some c := fun {y c} e => by
    rcases cloFrom_mem (PySem.mem_of_lookup e) with hm | ⟨h1, h2⟩
    · cases hm
    · obtain ⟨c1, hc⟩ := hfree _ h1 rfl
      have hc : X.env.cells.lookup y = some c1 := hc
      have e2 : c = c1 := by
        rw [h2, hc] <;> rfl
      rw [e2]
      exact hc
  have look : ∀ {y}, scope.names.lookup y = some .free → ∃ c, (cloFrom X.env.cells scope.names []).lookup y = some c := fun {y} hl => by
    have hy : (y, NameKind.free) ∈ scope.names := PySem.mem_of_lookup hl
    exact mem_lookup (cloFrom_has (cells := X.env.cells) (acc := []) hy)
  have clt : ∀ {y c}, X.env.cells.lookup y = some c → c < s.heap.objs.size := fun {y c} e => let ⟨_, z⟩ := I.cell y c e; z.lt
  refine ⟨⟨I.ok.mod, ok.kind, I.ok.glob, rfl, Nat.le_refl _, fun y z c e1 e2 => I.ok.inj y z c (cm e1) (cm e2), fun y hy => ?_, fun y c z _ => ?_, fun _ => hA, hfr, .inr ⟨rfl, rfl⟩, fun b hb => ⟨?_, fun y c e z => ?_⟩, I.bs, Nat.le_trans I.ok.bsz I.sz, fun b o e hb => ?_, fun b hb z => ?_, I.stack, I.stkFree⟩,
    rfl, hgb, Un.kept kp, ⟨m, hns, fun i y av e1 e2 e3 => ?_⟩, fun y c e => ?_, I.hok.fresh (Nat.le_refl _), fun y c e => I.freeC y c (cm e), fun p hp => absurd (show p ∈ ([] : List (Addr × Obj)) ++ [] from hp) (by simp), I.hok.kept kp, by rw [wipe_length]; exact I.len⟩
  · have hy : scope.names.lookup y = some .cell ∨ scope.names.lookup y = some .free := hy
    rcases hy with hy | hy
    · exact absurd rfl (hcell _ (PySem.mem_of_lookup hy))
    · exact look hy
  · have z : false = true := z
    cases z
  · show b ≠ s.heap.objs.size
    exact Nat.ne_of_lt (hfp b hb).2
  · exact (hfp b hb).1.2.2.2.2.1 y c (cm e) z
  · rcases (hfp b hb).1.2.2.2.1 with z | z
    · exact I.ok.noex b o e z
    · exact absurd (Nat.lt_of_lt_of_le (Heap.lt_size e) (Nat.le_trans I.ok.bsz z)) (Nat.lt_irrefl _)
  · rcases List.mem_cons.mp (I.stkSub b z) with z | z
    · exact (hfp b hb).1.2.1 z
    · exact (hfp b hb).1.2.2.1 z
  · obtain ⟨e2, hne⟩ := wipe_some e2
    have hfr' : scope.names.lookup y = some .free := by
      have e3 : Vis scope y := e3
      have no : ∀ {k}, scope.names.lookup y = some k → ¬ (k = .local ∨ k = .cell) := fun {k} e hh => by
        rcases ok.own _ (PySem.mem_of_lookup e) hh with e' | e'
        · obtain ⟨p, hp, hpy⟩ := List.mem_map.mp e'
          have e3 := ok.ix p hp
          have : p.1 = y := hpy
          rw [this] at e3
          exact hne (List.mem_map.mpr ⟨p, hp, nodup_ix hN e3 e1⟩)
        · exact e' (List.mem_of_getElem? e1)
      rcases e3 with e3 | e3 | e3
      · exact absurd (.inl rfl) (no e3)
      · exact absurd (.inr rfl) (no e3)
      · exact e3
    obtain ⟨mm, hn, hl⟩ := I.loc
    have hvis : Vis X.env.scope y := (ok.free _ (PySem.mem_of_lookup hfr') rfl).elim (fun k => .inr (.inl k)) (fun k => .inr (.inr k))
    obtain ⟨w, r, q⟩ := hl i y av e1 e2 hvis
    obtain ⟨c2, h2⟩ := look hfr'
    refine ⟨w, r, .inr ⟨.inr hfr', c2, h2, ?_⟩⟩
    have c1 := cm h2
    rcases q with ⟨k, _⟩ | ⟨_, c', e', z⟩
    · have k : X.env.scope.names.lookup y = some .local := k
      rcases ok.free _ (PySem.mem_of_lookup hfr') rfl with k' | k' <;> rw [show X.env.scope.names.lookup y = _ from k'] at k <;> cases k
    · rw [c1] at e'
      cases e'
      exact z.keeps kp
  · obtain ⟨w, z⟩ := I.cell y c (cm e)
    exact ⟨w, z.keeps kp⟩
/-- what the consumer may do while the generator sleeps: nothing to what stood -/
structure Woke (s s' : Shared) : Prop where
  os : s'.os = s.os
  bare : AllBare s'.gens
  keep : ∀ b o, s.heap.get? b = some o → s'.heap.get? b = some o
theorem Inv.woke {s' : Shared} (I : Inv X pins σ H s) (w : Woke s s') : Inv X pins σ H s' :=
  I.call' (ch := []) w.os (Un.kept w.keep) (I.hok.kept w.keep) w.bare fun b z => by simp at z
/-- the iterator's objects as they stand, as pins -/
def pinsAt (fp : List Addr) (h : Heap) : List (Addr × Obj) := fp.filterMap fun b => (h.get? b).map fun o => (b, o)
theorem pinsAt_mem {fp : List Addr} {h : Heap} {p : Addr × Obj} (hp : p ∈ pinsAt fp h) : p.1 ∈ fp ∧ h.get? p.1 = some p.2 := by
  obtain ⟨b, hb, e⟩ := List.mem_filterMap.mp hp
  cases q : h.get? b with
  | none => rw [q] at e; cases e
  | some o => rw [q] at e; cases e; exact ⟨hb, q⟩
theorem pinsAt_of {fp : List Addr} {h : Heap} {b : Addr} {o : Obj} (hb : b ∈ fp) (e : h.get? b = some o) : (b, o) ∈ pinsAt fp h :=
  List.mem_filterMap.mpr ⟨b, hb, by rw [e]; rfl⟩
end
end DL

set_option Elab.async false
set_option linter.all false
set_option maxRecDepth 100000
set_option maxHeartbeats 2000000
set_option autoImplicit false
/-! generator expressions whose elements call: their frame's run -/
namespace DL
open PySem PySem.Spec PyProof.Rows L2
theorem wipeE_in {ρ : En} {i : Nat} : ∀ {vs : List Nat}, i ∈ vs → ∀ {z : Sl}, (wipeE ρ vs)[i]? = some z → z = .un
  | v :: vs, h, z, e => by
    rw [wipeE] at e
    by_cases hi : v = i
    · subst hi
      by_cases hl : v < (wipeE ρ vs).length
      · rw [List.getElem?_set_self hl] at e; cases e; rfl
      · rw [List.getElem?_eq_none (by rw [List.length_set]; omega)] at e; cases e
    · rw [List.getElem?_set_ne hi] at e
      rcases List.mem_cons.mp h with q | q
      · exact absurd q.symm hi
      · exact wipeE_in q e
section
variable {K : Kx} {c : Option Addr} {Hc Gc H G : Hp} {σ1 σ2 : L2.St} {ρ : En} {cu : Cu} {vs ws : List Nat}
theorem srep_ws (s : SRep K c Hc Gc σ1 H G (wipeE ρ vs) cu) (hl : σ2.length = σ1.length) (hk : ∀ j : Nat, j ∉ ws → σ2[j]? = σ1[j]?) (hw : ∀ j ∈ ws, j ∈ vs) : SRep K c Hc Gc σ2 H G (wipeE ρ vs) cu := by
  have nw : ∀ {i : Nat} {z : Sl}, (wipeE ρ vs)[i]? = some z → z ≠ .un → σ2[i]? = σ1[i]? := fun {i z} e hz => hk i fun hi => hz (wipeE_in (hw i hi) e)
  obtain ⟨A, h1, h2⟩ := s.rep.own
  refine ⟨s.wd, s.ext, s.rep.len.trans hl.symm, fun i d e => ?_, fun i e => ?_, A, fun i ds e => ?_, h2⟩
  · rw [nw e (fun z => nomatch z)]; exact s.rep.dat i d e
  · rw [nw e (fun z => nomatch z)]; exact s.rep.cup i e
  · rw [nw e (fun z => nomatch z)]; exact h1 i ds e
end
def dYes : PyData → Option Bool
  | .bool b => some b
  | _ => none
/-- all(elt for tg in items if tests) -/
def gAllL (gg : GG) (gt : GT) (ge : GE) : List PyData → En → Cu → Rs Bool
  | [] => fun _ cu => .ok true cu
  | d :: r => fun ρ cu => (Rs.ofO (gg d ρ) cu).bind fun ρ1 cu1 => (gt ρ1 cu1).nox.bind fun b cu2 => if b = true then (ge ρ1 cu2).nox.bind fun y cu3 => (Rs.ofO (dYes y) cu3).bind fun t cu4 => if t = true then gAllL gg gt ge r ρ cu4 else .ok false cu4 else gAllL gg gt ge r ρ cu2
section
variable {K : Kx} {X : Cx} {AG : Around} {s0 : Shared} {H0 : Hp} {cenv : Env} {fp : List Addr} {pn : List (Addr × Obj)} {tg elt iter : Expr} {ifs : List Expr} {scope : Scope} {pos : Pos} {J : It} {it : Addr} {tn : Nat → Heap → Prop}
  {gg : GG} {gt : GT} {ge : GE} {ws vs : List Nat} {ρ : En} {items : List PyData} {G1 : Hp} {c : Option Addr} {Hc Gc : Hp} {QB : Bool → Hp → Hp → Cu → Prop}
/-- the end of such a run -/
def FinB (X : Cx) (A : Around) (s0 : Shared) (H0 : Hp) (cenv : Env) (fp : List Addr) (pn : List (Addr × Obj)) (QB : Bool → Hp → Hp → Cu → Prop) (b : Bool) (s1 : Shared) : Prop := ∃ σ' H G cu, Inv (gcx X A s0 H0 cenv fp pn) [] σ' H s1 ∧ QB b H G cu
def RAll (X : Cx) (A : Around) (s0 : Shared) (H0 : Hp) (cenv : Env) (fp : List Addr) (pn : List (Addr × Obj)) (QB : Bool → Hp → Hp → Cu → Prop) : GenEnd := fun _ _ r s1 => ((r = .ok (.ret .none) ∨ r = .ok .next) ∧ FinB X A s0 H0 cenv fp pn QB true s1) ∨ ∃ e, r = .error e ∧ False
def YAll (X : Cx) (A : Around) (s0 : Shared) (H0 : Hp) (cenv : Env) (fp : List Addr) (pn : List (Addr × Obj)) (QB : Bool → Hp → Hp → Cu → Prop) : Protocol := fun _ _ v s1 kap =>
  ∃ b : Bool, v = .bool b ∧ (∃ σ' H, Inv (gcx X A s0 H0 cenv fp pn) [] σ' H s1) ∧ (b = false → FinB X A s0 H0 cenv fp pn QB false s1) ∧ (b = true → ∀ s', Woke s1 s' → kap (.send .none) s')
theorem seg_allL (hco : cenv.scope.isCoroutine = false) (hov : AG.over (.compLoop (.GeneratorExp elt [⟨tg, iter, ifs, 0⟩] scope pos) 0 (.ref it) .none cenv) [] = AG.deeper cenv)
    (T : Turn X.prog X.w X.K tg J fp it tn) (hfx : ∀ b ∈ fp, b ≠ cenv.locals ∧ b ∉ frs X.stack ∧ (∀ x c, cenv.cells.lookup x = some c → c ≠ b) ∧ ∀ p ∈ pn, p.1 ≠ b) (wk : Wk K J G1 items)
    (hg : PG (gcx X (AG.deeper cenv) s0 H0 cenv fp pn) tg (tgOf K gg ws)) (ht : PTs (gcx X (AG.deeper cenv) s0 H0 cenv fp pn) ifs (ttOf K E0 gt)) (he : PE (gcx X (AG.deeper cenv) s0 H0 cenv fp pn) elt (tOf K E0 ge)) (hw : ∀ j ∈ ws, j ∈ vs) :
    ∀ (k i n : Nat) (s₀ s : Shared) (σ1 : L2.St) (H G : Hp) (cu : Cu), items.length - i = k → i ≤ items.length → k ≤ n → Inv (gcx X (AG.deeper cenv) s0 H0 cenv fp pn) [] σ1 H s → SRep K c Hc Gc σ1 H G (wipeE ρ vs) cu → tn i s.heap → (∀ b ∈ fp, H b = none) →
      (∀ b o, G1 b = some o → G b = some o) → Post K E0 c H G (gAllL gg gt ge (items.drop i) (wipeE ρ vs) cu) QB →
      Seg (model X.prog X.w) AG (RAll X (AG.deeper cenv) s0 H0 cenv fp pn QB) (YAll X (AG.deeper cenv) s0 H0 cenv fp pn QB) n s₀
        (.compLoop (.GeneratorExp elt [⟨tg, iter, ifs, 0⟩] scope pos) 0 (.ref it) .none cenv) ((model X.prog X.w).den (.compLoop (.GeneratorExp elt [⟨tg, iter, ifs, 0⟩] scope pos) 0 (.ref it) .none cenv)) [] s := by
  have fpok : ∀ {H : Hp}, (∀ b ∈ fp, H b = none) → ∀ b ∈ fp, FpOk (gcx X (AG.deeper cenv) s0 H0 cenv fp pn) [] H b := fun {H} hn b hb => by
    obtain ⟨h1, h2, h3, h4⟩ := hfx b hb
    refine ⟨hn b hb, h1, h2, .inl hb, h3, fun p hp => ?_⟩
    rcases List.mem_append.mp hp with z | z
    · exact h4 p z
    · exact absurd z (by simp)
  intro k
  induction k with
  | zero =>
    intro i n s₀ s σ1 H G cu hk hi hn I r htn hfn hG q
    show Seg _ AG _ _ n s₀ _ ((compTurn (.GeneratorExp elt [⟨tg, iter, ifs, 0⟩] scope pos) 0 (.ref it) .none cenv).onRaise (leaving cenv)) [] s
    rw [compTurn_gen, Sem.onRaise_eq_wrap]
    refine seg_bind_wrap (wpAny_standAt ?_)
    have hstop := (wk c H G cu hG r.wd).2
    have hii : i = items.length := by omega
    subst hii
    rw [List.drop_length] at q
    refine seg_bind_wrap ?_
    rw [hov]
    refine wpAny_mono (T.done (gcx X (AG.deeper cenv) s0 H0 cenv fp pn) rfl rfl rfl rfl items.length [] s σ1 H (fun _ _ => False) I (fpok hfn) htn hstop) (fun o s1 ho => ?_) fun _ _ z => z.elim
    obtain ⟨rfl, I1⟩ := ho
    exact seg_end (.ok .next) (.inl ⟨.inr rfl, σ1, H, G, cu, I1, q H G Ext.refl r.wd⟩)
  | succ k ih =>
    intro i n s₀ s σ1 H G cu hk hi hn I r htn hfn hG q
    have hlt : i < items.length := by omega
    obtain ⟨n, rfl⟩ : ∃ n', n = n' + 1 := ⟨n - 1, by omega⟩
    show Seg _ AG _ _ (n + 1) s₀ _ ((compTurn (.GeneratorExp elt [⟨tg, iter, ifs, 0⟩] scope pos) 0 (.ref it) .none cenv).onRaise (leaving cenv)) [] s
    rw [compTurn_gen, Sem.onRaise_eq_wrap]
    refine seg_bind_wrap (wpAny_standAt ?_)
    obtain ⟨go, yl⟩ := (wk c H G cu hG r.wd).1 i _ (List.getElem?_eq_getElem hlt)
    refine seg_bind_wrap ?_
    rw [hov]
    refine wpAny_mono (T.item (gcx X (AG.deeper cenv) s0 H0 cenv fp pn) rfl rfl rfl rfl i [] s σ1 H (fun _ _ => False) I (fpok hfn) htn go) (fun o s1 ho => ?_) fun _ _ z => z.elim
    obtain ⟨u, rfl, ho⟩ := ho
    refine seg_bind_wrap ?_
    rw [hov]
    refine wpAny_mono ho (fun _ s2 h2 => ?_) fun _ _ z => z.elim
    obtain ⟨x, H2, I2, rv, y, tn2, fn2⟩ := h2
    obtain ⟨G2, x2, w2, rx⟩ := yl x H2 y
    have r2 : SRep K c Hc Gc σ1 H2 G2 (wipeE ρ vs) cu := r.go x2 w2
    have q2 : Post K E0 c H2 G2 (gAllL gg gt ge (items.drop i) (wipeE ρ vs) cu) QB := Post.go x2 q
    rw [List.drop_eq_getElem_cons hlt] at q2
    -- the iterator's objects are pinned
    have Ip : Inv (gcx X (AG.deeper cenv) s0 H0 cenv fp pn) (pinsAt fp s2.heap) σ1 H2 s2 := I2.pins_of fun p hp => by
      obtain ⟨hb, e⟩ := pinsAt_mem hp
      obtain ⟨o, e', nc⟩ := T.obj (i + 1) s2.heap tn2 p.1 hb
      rw [e] at e'
      cases e'
      exact ⟨e, fn2 _ hb, (hfx _ hb).1, (hfx _ hb).2.1, nc⟩
    have keepIt : ∀ {σ' : L2.St} {H' : Hp} {s' : Shared}, Inv (gcx X (AG.deeper cenv) s0 H0 cenv fp pn) (pinsAt fp s2.heap) σ' H' s' → tn (i + 1) s'.heap ∧ ∀ b ∈ fp, H' b = none := fun {σ' H' s'} I' => by
      refine ⟨T.keep (i + 1) s2.heap s'.heap tn2 fun b hb o e => (I'.pin (b, o) (List.mem_append_right _ (pinsAt_of hb e))).1, fun b hb => ?_⟩
      obtain ⟨o, e, _⟩ := T.obj (i + 1) s2.heap tn2 b hb
      exact (I'.pin (b, o) (List.mem_append_right _ (pinsAt_of hb e))).2.1
    have unpin : ∀ {σ' : L2.St} {H' : Hp} {s' : Shared}, Inv (gcx X (AG.deeper cenv) s0 H0 cenv fp pn) (pinsAt fp s2.heap) σ' H' s' → Inv (gcx X (AG.deeper cenv) s0 H0 cenv fp pn) [] σ' H' s' := fun {σ' H' s'} I' => I'.pins_of fun p hp => absurd hp (by simp)
    -- the target
    obtain ⟨ρ1, e1, q3⟩ := (Post.bind q2).ofO
    refine seg_bind_wrap ?_
    rw [hov]
    refine wpAny_mono (hg.run (pinsAt fp s2.heap) s2 σ1 H2 x u (fun σ' H' => H' = H2 ∧ SRep K c Hc Gc σ' H2 G2 ρ1 cu ∧ σ'.length = σ1.length ∧ ∀ j : Nat, j ∉ ws → σ'[j]? = σ1[j]?) Ip rv ⟨c, Hc, Gc, G2, _, cu, _, ρ1, r2, rx, e1, fun σ' a b d => ⟨rfl, a, b, d⟩⟩) (fun _ s3 h3 => ?_) fun _ _ z => z.elim
    obtain ⟨σ3, H3, I3, rfl, r3, l3, k3⟩ := h3
    have q3 := q3 H3 G2 Ext.refl w2
    have rw3 : SRep K c Hc Gc σ3 H3 G2 (wipeE ρ vs) cu := srep_ws r2 l3 k3 hw
    -- the tests
    refine seg_bind_wrap ?_
    rw [hov]
    refine wpAny_mono (ht.run (pinsAt fp s2.heap) s3 σ3 H3 (fun b H4 => ∃ G4 cu4, Ext c H3 G2 H4 G4 ∧ Wd K c H4 G4 cu4 ∧ Post K E0 c H4 G4 (if b = true then (ge ρ1 cu4).nox.bind fun y cu3 => (Rs.ofO (dYes y) cu3).bind fun t cu4 => if t = true then gAllL gg gt ge (items.drop (i + 1)) (wipeE ρ vs) cu4 else .ok false cu4 else gAllL gg gt ge (items.drop (i + 1)) (wipeE ρ vs) cu4) QB) I3
      ⟨c, Hc, Gc, G2, ρ1, cu, r3, (Post.nox q3).imp fun b H4 G4 cu4 x4 w4 q4 => ⟨G4, cu4, x4, w4, Post.go x4 q4⟩⟩) (fun b s4 h4 => ?_) fun _ _ z => z.elim
    obtain ⟨H4, I4, G4, cu4, x4, w4, q4⟩ := h4
    cases b with
    | false =>
      simp only [Bool.false_eq_true, if_false] at q4 ⊢
      obtain ⟨tn4, fn4⟩ := keepIt I4
      exact seg_again rfl (ih (i + 1) (n + 1) s₀ s4 σ3 H4 G4 cu4 (by omega) hlt (by omega) (unpin I4) (rw3.go x4 w4) tn4 fn4 (fun b o e => x4.g _ _ (x2.g _ _ (hG b o e))) q4)
    | true =>
      simp only [if_true] at q4 ⊢
      have hy : ∀ v, yieldOut cenv v = yieldValue v := fun v => by simp only [yieldOut, hco, Bool.false_eq_true, if_false]
      simp only [hy]
      rw [Sem.bind_eq_wrap', Sem.bind_eq_wrap', Sem.wrap_wrap, Sem.wrap_wrap]
      refine seg_wrap ?_
      rw [hov]
      refine wpAny_mono (he.run (pinsAt fp s2.heap) s4 σ3 H4 (fun v H5 => ∃ b G5 cu5, v = .bl b ∧ Ext c H4 G4 H5 G5 ∧ Wd K c H5 G5 cu5 ∧ Post K E0 c H5 G5 (if b = true then gAllL gg gt ge (items.drop (i + 1)) (wipeE ρ vs) cu5 else .ok false cu5) QB) I4
        ⟨c, Hc, Gc, G4, ρ1, cu4, r3.go x4 w4, (Post.nox q4).imp fun z H5 G5 cu5 x5 w5 q5 v rz => by
          obtain ⟨b, eb, q6⟩ := (Post.bind q5).ofO
          unfold dYes at eb
          split at eb
          · cases eb
            cases rz
            exact ⟨_, G5, cu5, rfl, x5, w5, q6 H5 G5 x5 w5⟩
          · cases eb⟩) (fun v s5 h5 => ?_) fun _ _ z => z.elim
      obtain ⟨xv, H5, I5, rv5, b, G5, cu5, rfl, x5, w5, q5⟩ := h5
      have ev : v = .bool b := rv5
      subst ev
      obtain ⟨tn5, fn5⟩ := keepIt I5
      refine seg_at (seg_yield rfl rfl rfl ⟨b, rfl, ⟨σ3, H5, unpin I5⟩, fun hb => ?_, fun hb s' wo => ?_⟩)
      · subst hb
        exact ⟨σ3, H5, G5, cu5, unpin I5, q5 H5 G5 Ext.refl w5⟩
      · subst hb
        refine seg_again rfl (ih (i + 1) n s' s' σ3 H5 G5 cu5 (by omega) hlt (by omega) (DL.Inv.woke (unpin I5) wo) ((rw3.go x4 w4).go x5 w5) (T.keep (i + 1) s5.heap s'.heap tn5 fun b _ o e => wo.keep b o e) fn5 (fun b o e => x5.g _ _ (x4.g _ _ (x2.g _ _ (hG b o e)))) q5)
end
end DL

set_option Elab.async false
set_option linter.all false
set_option maxRecDepth 100000
set_option maxHeartbeats 2000000
set_option autoImplicit false
/-! all(elt for ..), the elements calling -/
namespace DL
open PySem PySem.Spec PyProof.Rows L2 GenW
section
variable {X : Cx} {A : Around} {s0 : Shared} {H0 : Hp} {cenv : Env} {fp : List Addr} {pn : List (Addr × Obj)} {QB : Bool → Hp → Hp → Cu → Prop} {R : Result → Shared → Prop} {a : Addr} {g : Nat} {go : Obj}
theorem woke_run {s s' : Shared} {x : GenState} (hb : AllBare s.gens) (hx : x.bare = true) : Woke s ((s.setGen g x).setGen g .running) := ⟨rfl, allBare_setGen (allBare_setGen hb hx) rfl, fun _ _ e => e⟩
theorem drain_all (hh : A.handled = none) (hd : A.depth < recursionLimit) (hgen : ∀ h : Heap, h.get? a = some go → h.IsGen a g) (hpn : (a, go) ∈ pn)
    (hend : ∀ (b : Bool) (s1 s' : Shared), FinB X (A.in1.in1.deeper cenv) s0 H0 cenv fp pn QB b s1 → Woke s1 s' → R (.ok (.ret (.bool b))) s') :
    ∀ (m : Nat) (s : Shared), s.heap.IsGen a g → s.heap.NoLimit →
      (∃ gs, s.gens[g]? = some gs ∧ gs.Goes (model X.prog X.w) A.in1.in1 (RAll X (A.in1.in1.deeper cenv) s0 H0 cenv fp pn QB) (YAll X (A.in1.in1.deeper cenv) s0 H0 cenv fp pn QB) m (.send .none) (s.setGen g .running)) →
      codeAny (model X.prog X.w) A (.builtin "all.loop" ⟨[.ref a], []⟩) R s := by
  have goes : ∀ {gs : GenState} {B : Around} {n : Nat} {r : Resume} {s : Shared}, gs.Goes (model X.prog X.w) B (RAll X (A.in1.in1.deeper cenv) s0 H0 cenv fp pn QB) (YAll X (A.in1.in1.deeper cenv) s0 H0 cenv fp pn QB) n r s →
      gs.Goes (model X.prog X.w) B (fun n s₀ r s1 => ((r = .ok (.ret .none) ∨ r = .ok .next) ∧ FinB X (A.in1.in1.deeper cenv) s0 H0 cenv fp pn QB true s1) ∨ ∃ e, r = .error e ∧ False) (YAll X (A.in1.in1.deeper cenv) s0 H0 cenv fp pn QB) n r s := fun h => h
  have pinned : ∀ {σ' : L2.St} {H' : Hp} {s1 : Shared}, Inv (gcx X (A.in1.in1.deeper cenv) s0 H0 cenv fp pn) [] σ' H' s1 → s1.heap.IsGen a g := fun {σ' H' s1} I => hgen _ (I.pin (a, go) (List.mem_append_left _ hpn)).1
  have bareF : ∀ {b : Bool} {s1 : Shared}, FinB X (A.in1.in1.deeper cenv) s0 H0 cenv fp pn QB b s1 → AllBare s1.gens := fun {b s1} h => let ⟨_, _, _, _, I, _⟩ := h; I.bare
  intro m
  induction m with
  | zero =>
    intro s hg hl ⟨gs, hgs, hgo⟩
    refine codeAny_builtin F.entry_all_loop ?_
    rw [Around.under_plainId F.plain_all_loop _]
    show wpAny _ A.in1 (pyNext (.ref a) >>= _) _ _ s
    refine wpAny_bind (next_genG (A := A.in1) hh hl hd hg hgs (goes hgo) (fun v s₁ gs' hbare hv => ?_) (fun s₁ hp h' hk => ?_) fun e s₁ he => he.elim)
    · obtain ⟨b, rfl, ⟨σ', H', I⟩, hF, hk⟩ := hv
      cases b with
      | true => exact (hk rfl _ (woke_run (s' := s₁) (g := g) I.bare hbare)).elim
      | false =>
        refine wpAny_bind (wpAny_holding (wpAny_truthy_bool ?_))
        refine wpAny_bind (wpAny_letGo ?_)
        simp only [Bool.false_eq_true, if_false]
        exact wpAny_bind (wpAny_rule (wpAny_pure (hend false s₁ (s₁.setGen g gs') (hF rfl) ⟨rfl, allBare_setGen (s := s₁) (g := g) I.bare hbare, fun _ _ e => e⟩)))
    · exact wpAny_bind (wpAny_rule (wpAny_pure (hend true s₁ { s₁.setGen g .finished with heap := h' } hp ⟨rfl, allBare_setGen (s := s₁) (g := g) (bareF hp) rfl, hk⟩)))
  | succ m ih =>
    intro s hg hl ⟨gs, hgs, hgo⟩
    have hgl : g < s.gens.size := (Array.getElem?_eq_some_iff.mp hgs).1
    refine codeAny_builtin F.entry_all_loop ?_
    rw [Around.under_plainId F.plain_all_loop _]
    show wpAny _ A.in1 (pyNext (.ref a) >>= _) _ _ s
    refine wpAny_bind (wpAny_gsz (n := g + 1) hgl (next_genG (A := A.in1) hh hl hd hg hgs (goes hgo) (fun v s₁ gs' hbare hv => ?_) (fun s₁ hp h' hk => ?_) fun e s₁ he => he.elim))
    · intro hsz
      obtain ⟨b, rfl, ⟨σ', H', I⟩, hF, hk⟩ := hv
      cases b with
      | false =>
        refine wpAny_bind (wpAny_holding (wpAny_truthy_bool ?_))
        refine wpAny_bind (wpAny_letGo ?_)
        simp only [Bool.false_eq_true, if_false]
        exact wpAny_bind (wpAny_rule (wpAny_pure (hend false s₁ (s₁.setGen g gs') (hF rfl) ⟨rfl, allBare_setGen (s := s₁) (g := g) I.bare hbare, fun _ _ e => e⟩)))
      | true =>
        have hsz1 : g < s₁.gens.size := by
          have q : (s₁.setGen g gs').gens.size = s₁.gens.size := setGen_size _ _ _
          have hsz' : g + 1 ≤ (s₁.setGen g gs').gens.size := hsz
          omega
        refine wpAny_bind (wpAny_holding (wpAny_truthy_bool ?_))
        refine wpAny_bind (wpAny_letGo ?_)
        simp only [if_true]
        exact wpAny_pure ⟨plainId_quiet F.plain_all_loop _, ih (s₁.setGen g gs') (show s₁.heap.IsGen a g from pinned I) (show s₁.heap.NoLimit from I.nolimit) ⟨gs', setGen_at hsz1, hk rfl _ (woke_run (s' := s₁) (g := g) I.bare hbare)⟩⟩
    · intro hsz
      exact wpAny_bind (wpAny_rule (wpAny_pure (hend true s₁ { s₁.setGen g .finished with heap := h' } hp ⟨rfl, allBare_setGen (s := s₁) (g := g) (bareF hp) rfl, hk⟩)))
end
end DL

set_option Elab.async false
set_option linter.all false
set_option maxRecDepth 100000
set_option maxHeartbeats 2000000
set_option autoImplicit false
/-! a generator expression is made; all(..) of it -/
namespace DL
open PySem PySem.Spec PyProof.Rows L2 GenW
theorem over_loop' {A : Around} {gens : List Comprehension} {elt : Expr} {scope : Scope} {pos : Pos} {it acc : Value} {cenv : Env} : A.over (.compLoop (.GeneratorExp elt gens scope pos) 0 it acc cenv) [] = A.deeper cenv := by
  first
    | rfl
    | (obtain ⟨hd, d, fr, gs, u⟩ := A; simp [Around.over, Around.deeper, marksOver, frameCount, unitsOf, envsOf, guardsOf, pushEnvs, pushGuards, Code.envs, Code.env?, Code.isFrame, Code.guards, Code.isGuard, Code.weight, Code.frames, Code.isCreation, Code.isCaller, Code.cUnits])
theorem over_start' {A : Around} {gens : List Comprehension} {elt : Expr} {scope : Scope} {pos : Pos} {it acc : Value} {cenv : Env} : A.over (.compStart (.GeneratorExp elt gens scope pos) 0 it acc cenv) [] = A.deeper cenv := by
  first
    | rfl
    | (obtain ⟨hd, d, fr, gs, u⟩ := A; simp [Around.over, Around.deeper, marksOver, frameCount, unitsOf, envsOf, guardsOf, pushEnvs, pushGuards, Code.envs, Code.env?, Code.isFrame, Code.guards, Code.isGuard, Code.weight, Code.frames, Code.isCreation, Code.isCaller, Code.cUnits])
section
variable {X : Cx} {pins : List (Addr × Obj)} {σ : L2.St} {H : Hp} {s : Shared}
theorem passX {A : Around} {s : Shared} {H : Hp} {cenv : Env} {fp : List Addr} {pn : List (Addr × Obj)} : Passes (L2.CX (gcx X A s H cenv fp pn).prog (gcx X A s H cenv fp pn).w) (gcx X A s H cenv fp pn) E0 := by
  intro pins σ H s e s' I h
  obtain ⟨_, _, _, _, _, _, _, _, _, _, _, _, z⟩ := h
  exact z.elim
/-- one pin more in the context -/
theorem gx_pinned {A : Around} {s0 s1 : Shared} {H0 H' : Hp} {cenv : Env} {fp : List Addr} {pn : List (Addr × Obj)} (I : Inv (gcx X A s0 H0 cenv fp []) [] σ H' s1)
    (h : ∀ p ∈ pn, s1.heap.get? p.1 = some p.2 ∧ H' p.1 = none ∧ p.1 ≠ cenv.locals ∧ p.1 ∉ frs X.stack ∧ ∀ v, p.2.data ≠ .cell v) : Inv (gcx X A s0 H0 cenv fp pn) [] σ H' s1 :=
  ⟨⟨I.ok.mod, I.ok.kind, I.ok.glob, I.ok.blt, I.ok.above, I.ok.inj, I.ok.has, I.ok.cab, I.ok.hd, I.ok.frames, I.ok.stk, I.ok.exf, I.ok.bs, I.ok.bsz, I.ok.noex, I.ok.exfs, I.ok.funs, I.ok.frf⟩, I.os, I.bare, I.base, I.loc, I.cell, I.free, I.freeC,
    fun p hp => (List.mem_append.mp hp).elim (h p) fun z => absurd z (by simp), I.hok, I.len⟩
/-- behind the run: the outer frame goes on -/
theorem gx_back {A : Around} {s0 s1 : Shared} {H0 H' : Hp} {σ' : L2.St} {cenv : Env} {fp : List Addr} {pn : List (Addr × Obj)} (I0 : Inv X pins σ H0 s0) (hfp : ∀ b ∈ fp, FpOk X pins H0 b) (I : Inv (gcx X A s0 H0 cenv fp pn) [] σ' H' s1) : Inv X pins σ H' s1 :=
  I0.call' (ch := fp) I.os I.base I.hok I.bare fun b hb => let ⟨_, h2, _, h4, h5, h6⟩ := hfp b hb; ⟨h4, h2, h5, h6⟩
/-- the code object of the generator's frame: found or made -/
theorem gx_code {K : Kx} {c P : Addr} {scope : Scope} {gpos : Pos} {Q : Value → Shared → Prop} {E : Value → Shared → Prop} (I : Inv X pins σ H s) (TB : LamX.TabB X.base X.mg c P) (hcode : X.env.code = .ref c) (hmT : (P, X.env.qual ++ "<genexpr>") ∈ K.T) (hu : ∀ p ∈ K.T, p.1 = P → p.2 = X.env.qual ++ "<genexpr>") (hT : LamX.Tabs K.T H)
    (h : ∀ (code : Value) (H1 : Hp) (s1 : Shared), Inv X pins σ H1 s1 → LamX.ExtN H H1 → LamX.Tabs K.T H1 → s.heap.objs.size ≤ s1.heap.objs.size → (∀ b o, b ≠ P → s.heap.get? b = some o → s1.heap.get? b = some o) → (∀ b, b < s.heap.objs.size → H b = none → H1 b = none) → Q code s1) :
    wpAny (model X.prog X.w) X.A (genexprCode X.env gpos (X.env.qual ++ "<genexpr>") scope) Q E s := by
  obtain ⟨ps, hP, htr, hamong⟩ := hT _ hmT
  have hPs : s.heap.get? P = some { cls := .none, data := .fields ps } := I.hok P _ hP
  have cd : PySem.W.CodeHd s.heap c P := TB.code.keeps I.bk
  cases hf : codeAmong gpos ps.toList with
  | none =>
    refine wpAny_genexprCodeX hcode (cd.code hPs htr) (cd.tab hPs) hf fun c' h' tk hx hge hlt hco' hrec htab' _ => ?_
    have nC : H c' = none := I.hok.fresh hge
    obtain ⟨c2, oc, vs2, t2, e2, hoc, hdc, hvc⟩ := hrec
    cases e2
    have J := LamX.inv_table (t' := tk) (c := c') (q := X.env.qual ++ "<genexpr>") (more := #[rawInt gpos.line, rawInt gpos.col, .ref c']) (h' := h') I hP (fun b u hb e => hx b u hb e) htab'.2 hge ⟨oc, vs2, t2, hoc, hdc, hvc⟩
    have hE : LamX.ExtN H (upd (upd H P (.tbl (ps ++ #[rawInt gpos.line, rawInt gpos.col, .ref c']))) c' (LamX.CodeO c' (X.env.qual ++ "<genexpr>"))) := fun b o e n => by
      rw [upd_ne (ne_of_none e nC), upd_ne (fun z => n ps (Option.some.inj (e.symm.trans (by rw [z]; exact hP))))]
      exact e
    have eL : (ps ++ #[rawInt gpos.line, rawInt gpos.col, .ref c']).toList = ps.toList ++ [rawInt gpos.line, rawInt gpos.col, .ref c'] := by simp
    refine h _ _ _ J hE (fun p hp => ?_) (Nat.le_trans hge (Nat.le_of_lt hlt)) (fun b o hb e => hx b o hb e) fun b hb e => ?_
    · by_cases hb : p.1 = P
      · rw [hu p hp hb, hb]
        refine ⟨_, by rw [upd_ne (ne_of_none hP nC), upd_same], by rw [eL]; exact PySem.TriplesOk_snoc _ _ _ _ htr, fun p' cv hcv => ?_⟩
        rw [eL] at hcv
        rcases LamX.among_app _ htr hcv with z | z
        · obtain ⟨c0, e1, e2⟩ := hamong p' cv z
          exact ⟨c0, e1, hE _ _ e2 LamX.codeO_ne⟩
        · exact ⟨c', z, upd_same⟩
      · obtain ⟨ps', a1, a2, a3⟩ := hT p hp
        refine ⟨ps', by rw [upd_ne (ne_of_none a1 nC), upd_ne hb]; exact a1, a2, fun p' cv hcv => ?_⟩
        obtain ⟨c0, e1, e2⟩ := a3 p' cv hcv
        exact ⟨c0, e1, hE _ _ e2 LamX.codeO_ne⟩
    · rw [upd_ne (Nat.ne_of_lt (Nat.lt_of_lt_of_le hb hge)), upd_ne (fun z => by rw [z, hP] at e; cases e)]
      exact e
  | some cv => exact wpAny_genexprCode_hit hcode (cd.code hPs htr) hf (h cv H s I (LamX.ExtN.refl H) hT (Nat.le_refl _) (fun b o _ e => e) fun b _ e => e)
theorem wd_ext {K : Kx} {c : Option Addr} {H1 G : Hp} {cu : Cu} (w : Wd K c H G cu) (eN : LamX.ExtN H H1) (T1 : LamX.Tabs K.T H1) : Ext c H G H1 G ∧ Wd K c H1 G cu := by
  refine ⟨⟨fun b o e n _ => eN b o e n, fun b o e n => ⟨o, eN b o e n, n⟩, fun _ _ e => e, fun _ _ _ _ e => e⟩, fun b o e => eN b o (w.sub _ _ e) fun ps z => w.nt b ps (by rw [← z]; exact e), T1, w.nt, fun a ha => ?_⟩
  obtain ⟨h1, h2⟩ := w.cup a ha
  exact ⟨eN _ _ h1 (fun ps z => by cases z), h2⟩
end
end DL

set_option Elab.async false
set_option linter.all false
set_option maxRecDepth 100000
set_option maxHeartbeats 2000000
set_option autoImplicit false
/-! all(elt for tg in iter if tests), its elements calling: the rule -/
namespace DL
open PySem PySem.Spec PyProof.Rows L2 GenW
def gAllE (gi : GI) (vs : List Nat) (gg : GG) (gt : GT) (ge : GE) : GE := fun ρ cu => (gi ρ cu).bind fun items cu1 => (gAllL gg gt ge items (wipeE ρ vs) cu1).bind fun b cu2 => .ok (.bool b) cu2
/-- the scope of a generator expression -/
def gnB (scope : Scope) : Bool := !scope.isCoroutine && decide (scope.names.lookup (".0" : Str) = some .local) && scope.names.all fun y => !decide (y.2 = .cell)
section
variable {X : Cx} {K : Kx}
/-- the frame of a generator expression, made and not begun: what its consumer finds -/
theorem gx_make {c P : Addr} {tg iter elt : Expr} {ifs : List Expr} {gpos : Pos} {scope : Scope} {own : List (Str × Nat)} {wi : TI} {pins : List (Addr × Obj)} {σ : L2.St} {H : Hp} {s : Shared} {cc : Option Addr} {Hc Gc G : Hp} {ρ : En} {cu : Cu} {Q' : Value → Shared → Prop}
    {RJ : It → Hp → Prop} (hN : X.N.Nodup) (hd : X.A.depth < recursionLimit) (hh : X.A.handled = none) (TB : LamX.TabB X.base X.mg c P) (hcode : X.env.code = .ref c) (hmT : (P, X.env.qual ++ "<genexpr>") ∈ K.T) (hu : ∀ p ∈ K.T, p.1 = P → p.2 = X.env.qual ++ "<genexpr>")
    (hi : PI X tg iter wi) (ok : BlkOk X.N X.env.scope scope own) (S : gnB scope = true) (hs : ∀ x, genFold iter X.env x = pure x) (I : Inv X pins σ H s) (r : SRep K cc Hc Gc σ H G ρ cu) (hwi : wi σ H RJ)
    (hT : ∀ J H1, RJ J H1 → LamX.Tabs K.T H1)
    (hQ : ∀ (it : Addr) (fp : List Addr) (tn : Nat → Heap → Prop) (J : It) (H1 H3 : Hp) (s3 s5 : Shared) (code : Value) (a : Addr) (go : Obj), RJ J H1 → LamX.ExtN H1 H3 → LamX.Tabs K.T H3 → Inv X pins σ H3 s3 → (∀ b ∈ fp, FpOk X pins H3 b) → Turn X.prog X.w X.K tg J fp it tn → tn 0 s5.heap →
      Inv (gcx X (X.A.in1.in1.deeper (gEnv X scope s3.heap.objs.size code)) s3 H3 (gEnv X scope s3.heap.objs.size code) fp [(a, go)]) [] (wipe σ (own.map (·.2))) H3 s5 →
      (∀ h : Heap, h.get? a = some go → h.IsGen a s3.gens.size) → s5.heap.get? a = some go → s5.gens[s3.gens.size]? = some (.fresh (.compStart (.GeneratorExp elt [⟨tg, iter, ifs, 0⟩] scope gpos) 0 (.ref it) .none (gEnv X scope s3.heap.objs.size code))) →
      (∀ b ∈ fp, b ≠ s3.heap.objs.size ∧ b ∉ frs X.stack ∧ (∀ x c, (gEnv X scope s3.heap.objs.size code).cells.lookup x = some c → c ≠ b) ∧ ∀ p ∈ [(a, go)], p.1 ≠ b) → Q' (.ref a) s5) :
    wpAny (model X.prog X.w) X.A (eval (.GeneratorExp elt [⟨tg, iter, ifs, 0⟩] scope gpos) X.env) Q' X.xe s := by
  unfold gnB at S
  simp only [Bool.and_eq_true, Bool.not_eq_true', decide_eq_true_eq, List.all_eq_true, decide_eq_false_iff_not] at S
  obtain ⟨⟨hco, h0⟩, hcell⟩ := S
  have hfree : ∀ y ∈ scope.names, y.2 = .free → ∃ c, X.env.cells.lookup y.1 = some c := fun y hy e => by
    rcases ok.free y hy e with k | k
    · exact I.ok.has _ (.inl k)
    · exact I.ok.has _ (.inr k)
  refine wpAny_GeneratorExp_make hco (closure_ok hfree) hcell h0 ok.kind hd ?_ hs
  refine wpAny_mono (hi.run pins s σ H RJ I hwi) (fun xv s1 h1 => ?_) fun _ _ e => e
  refine wpAny_mono h1 (fun itv s2 h2 => ?_) fun _ _ e => e
  obtain ⟨it, fp, tn, J, H1, rfl, I1, T, tn0, hfp, hR⟩ := h2
  refine ⟨I1.nolimit, gx_code I1 TB hcode hmT hu (hT J H1 hR) fun code H3 s3 I3 eN T3 hsz hkp hnn => ?_⟩
  obtain ⟨bm, ob, e1, e2, e3, e4, e5, e6, e7, e8⟩ := TB.bm
  refine wpAny_builtinsFor (m := X.mg) (by rw [I.ok.glob]; exact I3.mod.glob.keeps I3.bk) e1 e2 (I3.bk _ _ e5) e6 e7 e8 ?_
  intro h' hns hsb
  obtain ⟨ps, hP, _, _⟩ := hT J H1 hR _ hmT
  have flt : ∀ b ∈ fp, b < s2.heap.objs.size := fun b hb => let ⟨_, e, _⟩ := T.obj 0 s2.heap tn0 b hb; Heap.lt_size e
  have fneP : ∀ b ∈ fp, b ≠ P := fun b hb z => by
    have := (hfp b hb).1
    rw [z, hP] at this; cases this
  have hfp3 : ∀ b ∈ fp, FpOk X pins H3 b := fun b hb => ⟨hnn b (flt b hb) (hfp b hb).1, (hfp b hb).2⟩
  have kp0 : ∀ b o, s3.heap.get? b = some o → h'.get? b = some o := fun b o e => hsb.extBut b o (Nat.ne_of_lt (Heap.lt_size e)) (Heap.get?_push_of_some _ e)
  have szlt : s3.heap.objs.size < h'.objs.size := hns.lt
  generalize hgo : ({ cls := .type "generator", data := .fields #[.int s3.gens.size 0, .str "<genexpr>" (s3.toks + 1), .str (X.env.qual ++ "<genexpr>") (s3.toks + 1 + 1)] } : Obj) = go
  have kp : ∀ b o, s3.heap.get? b = some o → (h'.push go).get? b = some o := fun b o e => Heap.get?_push_of_some _ (kp0 b o e)
  have hAG : (X.A.in1.in1.deeper (gEnv X scope s3.heap.objs.size code)).handled = none := hh
  have I5 := gx_start (A := X.A.in1.in1.deeper (gEnv X scope s3.heap.objs.size code)) (own := own) (fp := fp) (code := code) (h' := h'.push go) (g' := s3.gens.push (.fresh (.compStart (.GeneratorExp elt [⟨tg, iter, ifs, 0⟩] scope gpos) 0 (.ref it) .none (gEnv X scope s3.heap.objs.size code))))
    (tk := s3.toks + 1 + 1 + 1) I3 ok hN hcell hAG (Around.frames_deeper (A := X.A.in1.in1) I.ok.frames) (fun b hb => ⟨hfp3 b hb, Nat.lt_of_lt_of_le (flt b hb) hsz⟩) (hns.keeps fun b o e => Heap.get?_push_of_some _ e) kp (I3.bare.push rfl)
  have hget : (h'.push go).get? h'.objs.size = some go := Heap.get?_push_size _ (by rw [← hgo]; rfl)
  have hgd : ∀ v, go.data ≠ .cell v := fun v z => by rw [← hgo] at z; cases z
  have hfresh : H3 h'.objs.size = none := I3.hok.fresh (Nat.le_of_lt szlt)
  have I5p := gx_pinned (pn := [(h'.objs.size, go)]) I5 fun p hp => by
    rw [List.mem_singleton.mp hp]
    refine ⟨hget, hfresh, Nat.ne_of_gt szlt, fun z => ?_, hgd⟩
    rcases List.mem_cons.mp (I3.stkSub _ z) with z | z
    · have h1 := I3.lt
      rw [← z] at h1
      exact Nat.lt_irrefl _ (Nat.lt_trans h1 szlt)
    · exact I3.nofs (Nat.le_of_lt szlt) z
  refine hQ it fp tn J H1 H3 s3 _ code h'.objs.size go hR eN T3 I3 hfp3 T (T.keep 0 s2.heap _ tn0 fun b hb o e => kp b o (hkp b o (fneP b hb) e)) I5p (fun h e => ?_) hget (Array.getElem?_push_size ..) fun b hb => ⟨Nat.ne_of_lt (Nat.lt_of_lt_of_le (flt b hb) hsz), I5.ok.exfs b hb, (I5.ok.exf b hb).2, fun p hp => ?_⟩
  · exact ⟨go, _, _, e, by rw [← hgo], by rw [← hgo], by rw [← hgo]⟩
  · rw [List.mem_singleton.mp hp]
    exact Nat.ne_of_gt (Nat.lt_trans (Nat.lt_of_lt_of_le (flt b hb) hsz) szlt)
end
end DL

set_option Elab.async false
set_option linter.all false
set_option maxRecDepth 100000
set_option maxHeartbeats 2000000
set_option autoImplicit false
/-! all(elt for tg in iter if tests), its elements calling: the rule -/
namespace DL
open PySem PySem.Spec PyProof.Rows L2 GenW
theorem post_nox {K : Kx} {E : XK} {c : Option Addr} {H G : Hp} {α : Type} {r : Rs α} {Q : α → Hp → Hp → Cu → Prop} (h : Post K E c H G r.nox Q) : Post K E0 c H G r Q := by
  cases r with
  | stuck => exact h
  | exc k cu => exact h.elim
  | ok a cu => exact h
theorem room_gx {k : Nat} {A : Around} {env : Env} (r : Room (k + 2) A) : Room k (A.in1.in1.deeper env) := by
  obtain ⟨h1, h2, h3⟩ := r
  exact ⟨h1, by show A.depth + 1 + 3 * k + 5 < _; omega, by show A.units + 1 + 1 + 3 + 16 * k + 200 < _; omega⟩
section
variable {X : Cx} {K : Kx}
theorem pe_gAll {c P : Addr} {tg iter elt : Expr} {ifs : List Expr} {p pos gpos : Pos} {scope : Scope} {own : List (Str × Nat)} {wi : TI} {gi : GI} {gg : GG} {gt : GT} {ge : GE} {ws : List Nat} {k : Nat}
    (hN : X.N.Nodup) (hr : Room (k + 2) X.A) (hgl : Gl X "all") (hm : X.mg "all" = none) (TB : LamX.TabB X.base X.mg c P) (hcode : X.env.code = .ref c) (hmT : (P, X.env.qual ++ "<genexpr>") ∈ K.T) (hu : ∀ p ∈ K.T, p.1 = P → p.2 = X.env.qual ++ "<genexpr>")
    (hi : PID X K E0 tg iter wi gi) (ok : BlkOk X.N X.env.scope scope own) (S : gnB scope = true)
    (hg : ∀ (A : Around) (s : Shared) (H : Hp) (C : Addr) (code : Value) (fp : List Addr) (pn : List (Addr × Obj)), ∃ t1, PGD (gcx X A s H (gEnv X scope C code) fp pn) K tg t1 gg ws)
    (ht : ∀ (A : Around) (s : Shared) (H : Hp) (C : Addr) (code : Value) (fp : List Addr) (pn : List (Addr × Obj)), Room k A → ∃ tt, PTsD (gcx X A s H (gEnv X scope C code) fp pn) K E0 ifs tt gt)
    (he : ∀ (A : Around) (s : Shared) (H : Hp) (C : Addr) (code : Value) (fp : List Addr) (pn : List (Addr × Obj)), Room k A → ∃ te, PD (gcx X A s H (gEnv X scope C code) fp pn) K E0 elt te ge)
    (hw : ∀ j ∈ ws, j ∈ own.map (·.2)) (hs : ∀ x, genFold iter X.env x = pure x)
    (hst : starEach [.GeneratorExp elt [⟨tg, iter, ifs, 0⟩] scope gpos] X.env = (false, eval (.GeneratorExp elt [⟨tg, iter, ifs, 0⟩] scope gpos) X.env) :: starEach [] X.env) :
    PE X (.Call (.Name "all" p) [.GeneratorExp elt [⟨tg, iter, ifs, 0⟩] scope gpos] [] pos) (tOf K E0 (gAllE gi (own.map (·.2)) gg gt ge)) := by
  refine ⟨fun pins s σ H Q I h => ?_⟩
  obtain ⟨cc, Hc, Gc, G, ρ, cu, r, q⟩ := h
  have hwi : wi σ H (fun J H1 => ∃ items G1 cu1, Wk K J G1 items ∧ Ext cc H G H1 G1 ∧ Wd K cc H1 G1 cu1 ∧ Post K E0 cc H1 G1 (gAllL gg gt ge items (wipeE ρ (own.map (·.2))) cu1) (fun b H' _ _ => Q (.bl b) H')) :=
    hi.sem cc Hc Gc σ H G ρ cu _ r ((Post.bind q).imp fun items H1 G1 cu1 x1 w1 q2 J wk => ⟨items, G1, cu1, wk, x1, w1, (Post.bind q2).imp fun b H' G' cu' x w h => h H' G' Ext.refl w (.bl b) (.bl b)⟩)
  have hroom : X.A.depth < recursionLimit := by have := hr.dp; omega
  refine wpAny_Call_Name_kw (ld_blt I hgl hm bb_all ?_)
  refine PyProof.Rows.callWith_builtin1 ?_ hst (by rfl)
  rw [hst]
  show wpAny _ _ (spliced ((false, eval (.GeneratorExp elt [⟨tg, iter, ifs, 0⟩] scope gpos) X.env) :: backTo pos (starEach [] X.env))) _ _ s
  refine Calls.spliced_cons (gx_make hN hroom hr.hd TB hcode hmT hu hi.pi ok S hs I r hwi (fun J H1 hR => let ⟨_, _, _, _, _, w, _⟩ := hR; w.tab) fun it fp tn J H1 H3 s3 s5 code a go hR eN T3 I3 hfp3 T tn5 I5 hgen hget hgs hfx => ?_)
  obtain ⟨items, G1, cu1, wk, x1, w1, q1⟩ := hR
  refine Calls.spliced_nil ?_
  obtain ⟨x3, w3⟩ := wd_ext w1 eN T3
  have r1 : SRep K cc Hc Gc (wipe σ (own.map (·.2))) H1 G1 (wipeE ρ (own.map (·.2))) cu1 := ⟨w1, r.ext.trans x1, (r.go x1 w1).rep.wipe (own.map (·.2))⟩
  have r3 := r1.go x3 w3
  obtain ⟨t1, hg1⟩ := hg (X.A.in1.in1.deeper (gEnv X scope s3.heap.objs.size code)) s3 H3 s3.heap.objs.size code fp [(a, go)]
  obtain ⟨tt, ht1⟩ := ht (X.A.in1.in1.deeper (gEnv X scope s3.heap.objs.size code)) s3 H3 s3.heap.objs.size code fp [(a, go)] (room_gx hr)
  obtain ⟨te, he1⟩ := he (X.A.in1.in1.deeper (gEnv X scope s3.heap.objs.size code)) s3 H3 s3.heap.objs.size code fp [(a, go)] (room_gx hr)
  have hco : (gEnv X scope s3.heap.objs.size code).scope.isCoroutine = false := by
    unfold gnB at S
    simp only [Bool.and_eq_true, Bool.not_eq_true'] at S
    exact S.1.1
  have loop := seg_allL (AG := X.A.in1.in1) (ρ := ρ) (iter := iter) (scope := scope) (pos := gpos) (c := cc) (Hc := Hc) (Gc := Gc) (QB := fun b H' _ _ => Q (.bl b) H') hco over_loop' T hfx wk hg1.canon ht1.canon he1.canon hw
  have hsz5 : s5.heap.IsGen a s3.gens.size := hgen _ hget
  refine call_function_tree F.kind_all F.plain_all F.entry_all (F.args_all1 _) ?_
  unfold Builtin.«all»
  refine wpAny_bind (m := oneArg "all" _) (wpAny_pure ?_)
  refine wpAny_bind (wpAny_pyIter_gen hsz5 ?_)
  refine wpAny_pure ⟨plainId_quiet F.plain_all_loop _, ?_⟩
  refine drain_all (QB := fun b H' _ _ => Q (.bl b) H') (cenv := gEnv X scope s3.heap.objs.size code) (fp := fp) (pn := [(a, go)]) (s0 := s3) (H0 := H3) hr.hd hroom hgen (List.mem_singleton.mpr rfl) (fun b s1 s' hF wo => ?_) items.length s5 hsz5 I5.nolimit ⟨_, hgs, rfl, ?_⟩
  · obtain ⟨σ', Hf, Gf, cuf, If, qf⟩ := hF
    exact ⟨.bl b, Hf, DL.Inv.woke (gx_back I3 hfp3 If) wo, rfl, qf⟩
  · have I6 : Inv (gcx X (X.A.in1.in1.deeper (gEnv X scope s3.heap.objs.size code)) s3 H3 (gEnv X scope s3.heap.objs.size code) fp [(a, go)]) [] (wipe σ (own.map (·.2))) H3 (s5.setGen s3.gens.size .running) :=
      DL.Inv.woke I5 ⟨rfl, allBare_setGen I5.bare rfl, fun _ _ e => e⟩
    have hfn : ∀ b ∈ fp, H3 b = none := fun b hb => (hfp3 b hb).1
    have lp := fun s₀ => loop items.length 0 items.length s₀ (s5.setGen s3.gens.size .running) _ H3 G1 cu1 (Nat.sub_zero _) (Nat.zero_le _) (Nat.le_refl _) I6 r3 tn5 hfn (fun b o e => e) (by rw [List.drop_zero]; exact Post.go x3 q1)
    show Seg _ X.A.in1.in1 _ _ _ _ _ ((compStart (.GeneratorExp elt [⟨tg, iter, ifs, 0⟩] scope gpos) 0 (.ref it) .none (gEnv X scope s3.heap.objs.size code)).onRaise (leaving (gEnv X scope s3.heap.objs.size code))) [] _
    unfold compStart
    rw [Sem.onRaise_eq_wrap]
    show Seg _ X.A.in1.in1 _ _ _ _ _ ((ask >>= _).wrap _ _ _ _) [] _
    refine seg_bind_wrap (wpAny_askSetting ?_)
    split
    · exact seg_again rfl (lp _)
    · first
        | exact seg_bind_wrap (wpAny_rule (seg_bind_wrap (wpAny_standAt (seg_bind_wrap (T.self _ 0 _ _ _ tn5 (seg_again rfl (lp _)))))))
        | (refine seg_bind_wrap (wpAny_rule ?_); show Seg _ X.A.in1.in1 _ _ _ _ _ ((standAt iter.pos >>= _).wrap _ _ _ _) [] _; exact seg_bind_wrap (wpAny_standAt (seg_bind_wrap (T.self _ 0 _ _ _ tn5 (seg_again rfl (lp _))))))
def gAllN (gi : GI) (vs : List Nat) (gg : GG) (gt : GT) (ge : GE) : GE := fun ρ cu => (gAllE gi vs gg gt ge ρ cu).nox
/-- all(elt for tg in iter if tests) -/
theorem pd_gAll {E : XK} {c P : Addr} {tg iter elt : Expr} {ifs : List Expr} {p pos gpos : Pos} {scope : Scope} {own : List (Str × Nat)} {wi : TI} {gi : GI} {gg : GG} {gt : GT} {ge : GE} {ws : List Nat} {k : Nat}
    (hN : X.N.Nodup) (hr : Room (k + 2) X.A) (hgl : Gl X "all") (hm : X.mg "all" = none) (TB : LamX.TabB X.base X.mg c P) (hcode : X.env.code = .ref c) (hmT : (P, X.env.qual ++ "<genexpr>") ∈ K.T) (hu : ∀ p ∈ K.T, p.1 = P → p.2 = X.env.qual ++ "<genexpr>")
    (hi : PID X K E0 tg iter wi gi) (ok : BlkOk X.N X.env.scope scope own) (S : gnB scope = true)
    (hg : ∀ (A : Around) (s : Shared) (H : Hp) (C : Addr) (code : Value) (fp : List Addr) (pn : List (Addr × Obj)), ∃ t1, PGD (gcx X A s H (gEnv X scope C code) fp pn) K tg t1 gg ws)
    (ht : ∀ (A : Around) (s : Shared) (H : Hp) (C : Addr) (code : Value) (fp : List Addr) (pn : List (Addr × Obj)), Room k A → ∃ tt, PTsD (gcx X A s H (gEnv X scope C code) fp pn) K E0 ifs tt gt)
    (he : ∀ (A : Around) (s : Shared) (H : Hp) (C : Addr) (code : Value) (fp : List Addr) (pn : List (Addr × Obj)), Room k A → ∃ te, PD (gcx X A s H (gEnv X scope C code) fp pn) K E0 elt te ge)
    (hw : ∀ j ∈ ws, j ∈ own.map (·.2) := by decide) (hs : ∀ x, genFold iter X.env x = pure x := by intro _; rfl)
    (hst : starEach [.GeneratorExp elt [⟨tg, iter, ifs, 0⟩] scope gpos] X.env = (false, eval (.GeneratorExp elt [⟨tg, iter, ifs, 0⟩] scope gpos) X.env) :: starEach [] X.env := by rfl) :
    PD X K E (.Call (.Name "all" p) [.GeneratorExp elt [⟨tg, iter, ifs, 0⟩] scope gpos] [] pos) (tOf K E0 (gAllE gi (own.map (·.2)) gg gt ge)) (gAllN gi (own.map (·.2)) gg gt ge) :=
  ⟨pe_gAll hN hr hgl hm TB hcode hmT hu hi ok S hg ht he hw hs hst, fun c H0 G0 σ H G ρ cu Q s q => ⟨c, H0, G0, G, ρ, cu, s, post_nox q⟩⟩
end
end DL

set_option Elab.async false
set_option linter.all false
set_option maxRecDepth 100000
set_option maxHeartbeats 2000000
set_option autoImplicit false
/-! i & 1, i >>= 1, gcd -/
namespace DL
open PySem PySem.Spec PyProof.Rows L2
section
variable {X : Cx} {K : Kx}
def rAndM : R2 := fun x y H Q => ∃ (i : Int) (k : Nat), x = .int i ∧ y = .int (2 ^ k - 1) ∧ Q (.int (i % 2 ^ k)) H
theorem op_and1 : OpR X (binaryOp .BitAnd) rAndM := op_andM
def dAnd1 : PyData → PyData → Option PyData
  | .int i, .int j => if j = 1 then some (.int (i % 2)) else none
  | _, _ => none
theorem opD_and1 : OpD K rAndM dAnd1 := by
  intro c H G cu v w d e z Q wd r1 r2 hz q
  unfold dAnd1 at hz
  split at hz
  · rename_i i j
    split at hz
    · rename_i hj
      cases hz
      subst hj
      rw [r1.int_of, r2.int_of]
      exact ⟨i, 1, rfl, rfl, q _ H G Ext.refl wd (.int _)⟩
    · cases hz
  · cases hz
def rHalf : TIp := fun x y H Q => ∃ i : Int, x = .int i ∧ y = .int 1 ∧ Q (.int (i / 2)) H
theorem ip_half : PIp X .RShift rHalf := iop_halfI
def dHalf : PyData → PyData → Option PyData
  | .int i, .int j => if j = 1 then some (.int (i / 2)) else none
  | _, _ => none
theorem opD_half : OpD K rHalf dHalf := by
  intro c H G cu v w d e z Q wd r1 r2 hz q
  unfold dHalf at hz
  split at hz
  · rename_i i j
    split at hz
    · rename_i hj
      cases hz
      subst hj
      rw [r1.int_of, r2.int_of]
      exact ⟨i, rfl, rfl, q _ H G Ext.refl wd (.int _)⟩
    · cases hz
  · cases hz
def dGcd : List PyData → Option PyData
  | [.int a, .int b] => some (.int ((Int.gcd a b : Nat) : Int))
  | _ => none
theorem callD_gcd : CallD K rGcd dGcd := by
  intro c H G cu vs ds z Q wd r hz q
  unfold dGcd at hz
  split at hz
  · rename_i a b
    cases hz
    cases r with
    | cons h r =>
      obtain ⟨v, rfl, rv⟩ := r.one
      rw [h.int_of, rv.int_of]
      exact ⟨a, b, rfl, q _ H G Ext.refl wd (.int _)⟩
  · cases hz
theorem dAnd1_int {i : Int} : dAnd1 (.int i) (.int 1) = some (.int (i % 2)) := rfl
theorem dHalf_int {i : Int} : dHalf (.int i) (.int 1) = some (.int (i / 2)) := rfl
theorem dGcd_int {a b : Int} : dGcd [.int a, .int b] = some (.int ((Int.gcd a b : Nat) : Int)) := rfl
end
end DL

set_option Elab.async false
set_option linter.all false
set_option maxRecDepth 100000
set_option autoImplicit false
/-! what a law never reaches: an expression, a test or a row whose reckoning is stuck asks for no derivation -/
namespace DL
open PySem PySem.Spec PyProof.Rows L2
def stkE : GE := fun _ _ => .stuck
def stkT : GT := fun _ _ => .stuck
def stkS : GS := fun _ _ => .stuck
def noE : TE := fun _ _ _ => False
def noT : TT := fun _ _ _ => False
def noS : TS := fun _ _ _ => False
section
variable {X : Cx} {K : Kx} {E : XK}
theorem pd_stk {e : Expr} : PD X K E e noE stkE := ⟨⟨fun _ _ _ _ _ _ h => h.elim⟩, fun _ _ _ _ _ _ _ _ _ _ h => h⟩
theorem ptd_stk {e : Expr} : PTD X K E e noT stkT := ⟨⟨fun _ _ _ _ _ _ h => h.elim⟩, fun _ _ _ _ _ _ _ _ _ _ h => h⟩
theorem psd_stk {st : Stmt} : PSD X K E st noS stkS := ⟨⟨fun _ _ _ _ _ _ h => h.elim⟩, fun _ _ _ _ _ _ _ _ _ _ h => h⟩
theorem pssd_stk {st : List Stmt} : PSsD X K E st noS stkS := ⟨⟨fun _ _ _ _ _ _ h => h.elim⟩, fun _ _ _ _ _ _ _ _ _ _ h => h⟩
end
end DL

set_option Elab.async false
set_option linter.all false
set_option maxRecDepth 100000
set_option autoImplicit false
/-! a list of one's own: an item stored, read, changed -/
namespace DL
open PySem PySem.Spec PyProof.Rows L2
theorem RpL.set {K : Kx} {G : Hp} {v : V} {d : PyData} (h : Rp K G v d) : ∀ {vs : List V} {ds : List PyData} (j : Nat), RpL K G vs ds → RpL K G (vs.set j v) (ds.set j d)
  | _, _, _, .nil => .nil
  | _, _, 0, .cons _ r => .cons h r
  | _, _, j + 1, .cons a r => .cons a (RpL.set h j r)
section
variable {K : Kx} {X : Cx} {E : XK} {e ie b : Expr} {te ti tb : TE} {ge gi gb : GE} {pos : Pos}
/-- another list at the place of one's own -/
theorem SRep.updO {c : Option Addr} {H0 G0 H G H1 G1 : Hp} {σ : L2.St} {ρ : En} {cu cu1 : Cu} {i : Nat} {xs ys : List PyData} {ws : List V} {p : Addr} (s : SRep K c H0 G0 σ H G ρ cu) (x : Ext c H G H1 G1) (w : Wd K c H1 G1 cu1)
    (e : ρ[i]? = some (.own xs)) (ep : σ[i]? = some (some (V.ref p))) (r : RpL K G1 ws ys) : SRep K c H0 G0 σ (upd H1 p (.lst ws)) G1 (ρ.set i (.own ys)) cu1 := by
  obtain ⟨A, h1, h2⟩ := s.rep.own
  obtain ⟨e1, ⟨vs, e2, e3⟩, e4, e5, e6⟩ := h1 i xs e
  have hp : A i = p := by
    rw [e1] at ep
    injection ep with ep
    injection ep with ep
    injection ep
  subst hp
  have a1 := x.h _ _ e2 nt_lst e6
  have g1 : G1 (A i) = none := x.n _ _ e2 nt_lst e4
  have s1 := (s.go x w).rep
  refine ⟨w.updL a1 g1 e6, (s.ext.trans x).updL e5, ?_⟩
  have ne : ∀ (j : Nat) (t : Sl), (ρ.set i (.own ys))[j]? = some t → j ≠ i → ρ[j]? = some t := fun j t e hj => by rw [List.getElem?_set_ne (Ne.symm hj)] at e; exact e
  have at_ : ∀ (t : Sl), (ρ.set i (.own ys))[i]? = some t → t = .own ys := fun t e => by
    by_cases hi : i < ρ.length
    · rw [List.getElem?_set_self hi] at e; cases e; rfl
    · rw [List.getElem?_eq_none (by simpa using hi)] at e; cases e
  refine ⟨by rw [List.length_set]; exact s.rep.len, fun j d' e => ?_, fun j e => ?_, A, fun j es e => ?_, fun j k es fs q1 q2 hjk => ?_⟩
  · by_cases hj : j = i
    · subst hj; cases at_ _ e
    · exact s1.dat j d' (ne j _ e hj)
  · by_cases hj : j = i
    · subst hj; cases at_ _ e
    · exact s1.cup j (ne j _ e hj)
  · by_cases hj : j = i
    · subst hj
      cases at_ _ e
      exact ⟨e1, ⟨_, upd_same, r⟩, g1, e5, e6⟩
    · have e0 := ne j _ e hj
      obtain ⟨q1, ⟨zs, q2, q3⟩, q4, q5, q6⟩ := h1 j es e0
      have nij : A j ≠ A i := h2 j i es xs e0 (by assumption) hj
      exact ⟨q1, ⟨zs, by rw [upd_ne nij]; exact x.h _ _ q2 nt_lst q6, q3.mono x.g⟩, x.n _ _ q2 nt_lst q4, q5, q6⟩
  · by_cases hj : j = i
    · subst hj
      have hk : k ≠ j := fun z => hjk z.symm
      exact h2 j k xs fs (by assumption) (ne k _ q2 hk) hjk
    · by_cases hk : k = i
      · subst hk; exact h2 j k es xs (ne j _ q1 hj) (by assumption) hjk
      · exact h2 j k es fs (ne j _ q1 hj) (ne k _ q2 hk) hjk
/-- the list with an item stored -/
def ixO (xs : List PyData) (k d : PyData) : Option (List PyData) :=
  match k with
  | .int k => (ixN xs.length k).map fun j => xs.set j d
  | _ => none
theorem ixO_of {xs ys : List PyData} {k d : PyData} (h : ixO xs k d = some ys) : ∃ (z : Int) (j : Nat), k = .int z ∧ ixN xs.length z = some j ∧ ys = xs.set j d := by
  cases k with
  | int z =>
    have h : (ixN xs.length z).map (fun j => xs.set j d) = some ys := h
    cases hj : ixN xs.length z with
    | none => rw [hj] at h; cases h
    | some j => rw [hj] at h; cases h; exact ⟨z, j, rfl, hj, rfl⟩
  | _ => cases h
/-- x[ie] = e -/
def gStO (i : Nat) (ge gi : GE) : GS := fun ρ cu => match ρ[i]? with
  | some (.own xs) => (ge ρ cu).bind fun d cu1 => (gi ρ cu1).bind fun k cu2 => (Rs.ofO (ixO xs k d) cu2).bind fun ys cu3 => .ok (.nx (ρ.set i (.own ys))) cu3
  | _ => .stuck
theorem psd_stO {i : Nat} {x : Str} {p tpos : Pos} (h : PE X (.Name x p) (tVar i)) (he : PD X K E e te ge) (hi : PD X K E ie ti gi)
    (hs : swapsWithSole [.Subscript (.Name x p) ie tpos] e pos.line X.env = pure false := by rfl) (hw : swappedStores [.Subscript (.Name x p) ie tpos] e X.env = pure none := by rfl)
    (h1 : (assignEach [.Subscript (.Name x p) ie tpos] X.env).map (·.2) = [assign (.Subscript (.Name x p) ie tpos) X.env] := by rfl)
    (ha : ∀ v, assign (.Subscript (.Name x p) ie tpos) X.env v = (do
      let ov ← holding [v] (eval (.Name x p) X.env)
      let iv ← holding [v, ov] (eval ie X.env)
      standAt tpos
      holding [v, ov, iv] (setItem ov iv v)
      release [v, ov, iv] []) := by intro _; rfl) :
    PSD X K E (.Assign [.Subscript (.Name x p) ie tpos] e pos) (tAsg te (gSub (tVar i) ti rSetL)) (gStO i ge gi) := by
  refine ⟨ps_asg he.pe (pg_sub h hi.pe set_list ha) hs hw h1, fun c H0 G0 σ H G ρ cu D s q => ?_⟩
  unfold gStO at q
  split at q
  · rename_i xs eo
    obtain ⟨A, k1, k2⟩ := s.rep.own
    obtain ⟨e1, ⟨vs, e2, e3⟩, e4, e5, e6⟩ := k1 i xs eo
    refine he.sem c H0 G0 σ H G ρ cu _ s ((q.exp s).imp fun d H1 G1 cu1 x1 w1 q1 v rv => ?_)
    refine ⟨_, e1, ?_⟩
    refine hi.sem c H0 G0 σ H1 G1 ρ cu1 _ (s.go x1 w1) ((q1.exp (s.go x1 w1)).imp fun k H2 G2 cu2 x2 w2 q2 kv rk => ?_)
    obtain ⟨ys, ey, q3⟩ := PostS.ofO q2
    obtain ⟨z, j, rfl, hj, rfl⟩ := ixO_of ey
    have a2 := (x1.trans x2).h _ _ e2 nt_lst e6
    exact ⟨A i, vs, z, j, rfl, rk.int_of, a2, by rw [e3.length]; exact hj, q3 σ _ G2 (s.updO (x1.trans x2) w2 eo e1 (RpL.set (rv.mono x2.g) j (e3.mono (x1.trans x2).g)))⟩
  · exact q.elim
/-- x[ie] of a list of one's own -/
def gIxO (i : Nat) (gb : GE) : GE := fun ρ cu => match ρ[i]? with
  | some (.own xs) => (gb ρ cu).bind fun k cu1 => .ofO (dIx (.list xs) k) cu1
  | _ => .stuck
theorem pd_ixO {i : Nat} {x : Str} {p : Pos} (h : PE X (.Name x p) (tVar i)) (hb : PD X K E b tb gb) (hs : PlainIx b) : PD X K E (.Subscript (.Name x p) b pos) (tOp (rIxD X.K) (tVar i) tb) (gIxO i gb) := by
  refine ⟨pe_ix ixR_D h hb.pe hs, fun c H0 G0 σ H G ρ cu Q s q => ?_⟩
  unfold gIxO at q
  split at q
  · rename_i xs eo
    obtain ⟨A, k1, k2⟩ := s.rep.own
    obtain ⟨e1, ⟨vs, e2, e3⟩, e4, e5, e6⟩ := k1 i xs eo
    refine ⟨_, e1, ?_⟩
    refine hb.sem c H0 G0 σ H G ρ cu _ s (q.bind.imp fun k H1 G1 cu1 x1 w1 q1 kv rk => ?_)
    obtain ⟨d, ed, q2⟩ := q1.ofO
    have a1 := x1.h _ _ e2 nt_lst e6
    cases k with
    | int z =>
      obtain ⟨y, ey, ry⟩ := atI_rp (e3.mono x1.g) (show atI xs z = some d from ed)
      exact .inr ⟨A i, vs, z, y, rfl, rk.int_of, SqL.of a1, ey, q2 H1 G1 Ext.refl w1 y ry⟩
    | _ => cases ed
  · exact q.elim
theorem get_list : PGet X (rIxL X.K) := by
  intro pins s σ H x y v u Q I rx ry h
  obtain ⟨p, xs, i, z, rfl, rfl, hq, he, q⟩ := h
  cases rx
  obtain ⟨t, rfl⟩ := ry
  obtain ⟨its, r, pl, hz⟩ := I.list hq
  obtain ⟨j, h1, h2, h3, h4, h5⟩ := atI_get he
  obtain ⟨w, ew, rw'⟩ := r.get h2
  have hl := r.length
  have hn := line63
  have fin : EP X pins σ Q w s := ⟨z, H, I, rw', q⟩
  by_cases h0 : 0 ≤ i
  · have hj : i.toNat = j := by
      rw [seqIndex_of h0 h5] at h1
      exact Option.some.inj h1
    exact wpAny_getItem_list pl.isList h0 (by omega) (by rw [hj]; simpa using ew) fin
  · have hj : (i + (its.toArray.size : Int)).toNat = j := by
      rw [seqIndex_neg (by omega) h4] at h1
      rw [List.size_toArray, ← hl]
      exact Option.some.inj h1
    exact wpAny_getItem_list_neg pl.isList (by omega) (by rw [List.size_toArray] <;> omega) (by omega) (by rw [hj]; simpa using ew) fin
/-- x[ie] op= e -/
def gAugO (i : Nat) (f : PyData → PyData → Option PyData) (gi ge : GE) : GS := fun ρ cu => match ρ[i]? with
  | some (.own xs) => (gi ρ cu).bind fun k cu1 => (Rs.ofO (dIx (.list xs) k) cu1).bind fun a cu2 => (ge ρ cu2).bind fun b cu3 => (Rs.ofO (f a b) cu3).bind fun d cu4 => (Rs.ofO (ixO xs k d) cu4).bind fun ys cu5 => .ok (.nx (ρ.set i (.own ys))) cu5
  | _ => .stuck
theorem psd_augO {i : Nat} {x : Str} {p tpos : Pos} {op : Operator} {tip : TIp} {f : PyData → PyData → Option PyData} (h : PE X (.Name x p) (tVar i)) (hi : PD X K E ie ti gi) (ho : PIp X op tip) (hf : OpD K tip f) (he : PD X K E e te ge)
    (ha : ∀ ov iv new, augStore ie ov iv new = (do holding [new, ov, iv] (setItem ov iv new); release [new, ov, iv] []; pure .next) := by intros; rfl) :
    PSD X K E (.AugAssign (.Subscript (.Name x p) ie tpos) op e pos) (tAugS (tVar i) ti te (rIxL X.K) tip rSetL) (gAugO i f gi ge) := by
  refine ⟨ps_augS h hi.pe get_list he.pe ho set_list ha, fun c H0 G0 σ H G ρ cu D s q => ?_⟩
  unfold gAugO at q
  split at q
  · rename_i xs eo
    obtain ⟨A, k1, k2⟩ := s.rep.own
    obtain ⟨e1, ⟨vs, e2, e3⟩, e4, e5, e6⟩ := k1 i xs eo
    refine ⟨_, e1, ?_⟩
    refine hi.sem c H0 G0 σ H G ρ cu _ s ((q.exp s).imp fun k H1 G1 cu1 x1 w1 q1 kv rk => ?_)
    obtain ⟨a, ea, q2⟩ := PostS.ofO q1
    have a1 := x1.h _ _ e2 nt_lst e6
    cases k with
    | int z =>
      obtain ⟨y, ey, ry⟩ := atI_rp (e3.mono x1.g) (show atI xs z = some a from ea)
      refine ⟨A i, vs, z, y, rfl, rk.int_of, SqL.of a1, ey, ?_⟩
      refine he.sem c H0 G0 σ H1 G1 ρ cu1 _ (s.go x1 w1) ((q2.exp (s.go x1 w1)).imp fun b H2 G2 cu2 x2 w2 q3 bv rb => ?_)
      obtain ⟨d, ed, q4⟩ := PostS.ofO q3
      refine hf c H2 G2 cu2 y bv a b d _ w2 (ry.mono x2.g) rb ed fun v' H3 G3 x3 w3 r3 => ?_
      obtain ⟨ys, eys, q5⟩ := PostS.ofO q4
      obtain ⟨z', j, hz, hj, rfl⟩ := ixO_of eys
      cases hz
      have x13 := (x1.trans x2).trans x3
      have a3 := x13.h _ _ e2 nt_lst e6
      exact ⟨A i, vs, z, j, rfl, rk.int_of, a3, by rw [e3.length]; exact hj, q5 σ _ G3 (s.updO x13 w3 eo e1 (RpL.set r3 j (e3.mono x13.g)))⟩
    | _ => cases ea
  · exact q.elim
end
end DL

set_option Elab.async false
set_option linter.all false
set_option maxRecDepth 100000
set_option autoImplicit false
/-! lists of one's own: repeated, list(..), pop, truth, extend -/
namespace DL
open PySem PySem.Spec PyProof.Rows L2
section
variable {K : Kx} {X : Cx} {E : XK} {a b e : Expr} {es : List Expr} {ta tb te : TE} {t : TA} {ga gb ge : GE} {g : GA} {pos : Pos}
/-- [c] * n, new -/
def repL : PyData → PyData → Option (List PyData)
  | .list xs, .int k => if k ≤ 1000 ∧ -1000 ≤ k ∧ xs.length ≤ 1000 then some (List.replicate k.toNat xs).flatten else none
  | _, _ => none
def gfRep (ga gb : GE) : GI := fun ρ cu => (ga ρ cu).bind fun d cu1 => (gb ρ cu1).bind fun e cu2 => .ofO (repL d e) cu2
theorem pf_rep (ha : PD X K E a ta ga) (hb : PD X K E b tb gb) : PFD X K E (.BinOp a .Mult b pos) (tOp rRep ta tb) (gfRep ga gb) := by
  refine ⟨pe_op op_rep ha.pe hb.pe, fun c H0 G0 σ H G ρ cu Q s q => ?_⟩
  refine ha.sem c H0 G0 σ H G ρ cu _ s (q.bind.imp fun d H1 G1 cu1 x1 w1 q1 v rv => ?_)
  refine hb.sem c H0 G0 σ H1 G1 ρ cu1 _ (s.go x1 w1) (q1.bind.imp fun d2 H2 G2 cu2 x2 w2 q2 v2 rv2 => ?_)
  obtain ⟨ds, ez, q3⟩ := q2.ofO
  unfold repL at ez
  split at ez
  · split at ez
    · rename_i xs k hc
      cases ez
      obtain ⟨p0, vs, rfl, hp0, ra⟩ := (rv.mono x2.g).lst_of
      have hl := ra.length
      refine ⟨p0, k, vs, rfl, rv2.int_of, w2.sub _ _ hp0, by omega, by omega, ?_, fun p hp => ?_⟩
      · rw [hl, sizeLine_eq]
        have h1 : k.toNat ≤ 1000 := by omega
        calc xs.length * k.toNat ≤ 1000 * 1000 := Nat.mul_le_mul hc.2.2 h1
          _ ≤ 16777216 := by decide
      · obtain ⟨x3, w3, gp⟩ := w2.newH (o := .lst (List.replicate k.toNat vs).flatten) hp
        exact q3 _ _ x3 w3 p _ ((x1.trans x2).free (.of hp)) upd_same (ra.rep _) gp
    · cases ez
  · cases ez
/-- list(e), new -/
def toL : List PyData → Option (List PyData)
  | [.list xs] => some xs
  | [.tuple xs] => some xs
  | _ => none
def gfTo (g : GA) : GI := fun ρ cu => (g ρ cu).bind fun as cu1 => .ofO ((dats as).bind toL) cu1
theorem pf_to {x : Str} {p : Pos} (hg : Gl X x) (hm : X.mg x = none) (hv : bootBuiltins x = some (.type "list")) (ha : PAD X K E (e :: es) t g)
    (hn : x ≠ "__name__" := by decide) (hdb : (x == ("__debug__" : Str)) = false := by decide)
    (he : starEach (e :: es) X.env = (false, eval e X.env) :: starEach es X.env := by rfl) (hpl : (backTo pos (starEach es X.env)).any (·.1) = false := by rfl) (hKF : K.F = X.K := by assumption) :
    PFD X K E (.Call (.Name x p) (e :: es) [] pos) (tCB (fun xs H Q => ∃ p ys, xs = [.ref p] ∧ (SqL X.K H p ys ∨ SqT X.K H p ys) ∧ ∀ l, H l = none → Q (.ref l) (upd H l (.lst ys))) t) (gfTo g) := by
  refine ⟨pe_callTy call_list_of hg hm hv ha.pa hn hdb he hpl, fun c H0 G0 σ H G ρ cu Q s q => ?_⟩
  refine ha.sem c H0 G0 σ H G ρ cu _ s (q.bind.imp fun as H1 G1 cu1 x1 w1 q1 vs rvs => ?_)
  obtain ⟨ds, ez, q2⟩ := q1.ofO
  cases ed : dats as with
  | none => rw [ed] at ez; cases ez
  | some zs =>
    rw [ed] at ez
    have ez : toL zs = some ds := ez
    have r := dats_rp rvs ed
    unfold toL at ez
    split at ez
    · cases ez
      obtain ⟨v, rfl, rv⟩ := r.one
      obtain ⟨p0, xs, rfl, hp0, ra⟩ := rv.lst_of
      refine ⟨p0, xs, rfl, .inl (SqL.of (w1.sub _ _ hp0)), fun p hp => ?_⟩
      obtain ⟨x2, w2, gp⟩ := w1.newH (o := .lst xs) hp
      exact q2 _ _ x2 w2 p _ (x1.free (.of hp)) upd_same ra gp
    · cases ez
      obtain ⟨v, rfl, rv⟩ := r.one
      obtain ⟨p0, xs, rfl, hp0, ra⟩ := rv.tup_of
      refine ⟨p0, xs, rfl, .inr (TupAt.sq' hKF (TupAt.mono w1.sub hp0)), fun p hp => ?_⟩
      obtain ⟨x2, w2, gp⟩ := w1.newH (o := .lst xs) hp
      exact q2 _ _ x2 w2 p _ (x1.free (.of hp)) upd_same ra gp
    · cases ez
/-- y = x.pop() -/
def gPop (j i : Nat) : GS := fun ρ cu => match ρ[i]? with
  | some (.own xs) => (Rs.ofO xs.getLast? cu).bind fun d cu1 => .ok (.nx ((ρ.set i (.own xs.dropLast)).set j (.dat d))) cu1
  | _ => .stuck
theorem RpL.dropLast {G : Hp} : ∀ {vs : List V} {ds : List PyData}, RpL K G vs ds → RpL K G vs.dropLast ds.dropLast
  | _, _, .nil => .nil
  | _, _, .cons h .nil => .nil
  | _, _, .cons h (.cons h2 r) => .cons h (RpL.dropLast (.cons h2 r))
theorem psd_pop {i j : Nat} {x y : Str} {p ap cp pos' : Pos} (hN : X.N.Nodup) (hj : X.N[j]? = some y) (hy : Loc X.env.scope y) (h : PE X (.Name x p) (tVar i))
    (hpe : PE X (.Call (.Attribute (.Name x p) "pop" ap) [] [] cp) (tBM0 X.K "list" rPop (tVar i)))
    (hs : swapsWith (.Call (.Attribute (.Name x p) "pop" ap) [] [] cp) (some (.Name y pos')) pos.line X.env = pure false := by rfl)
    (hf : X.fn y = true ∨ X.env.scope.names.lookup y = some .local := by first | exact .inl rfl | exact .inr rfl | assumption) :
    PSD X K E (.Assign [.Name y pos'] (.Call (.Attribute (.Name x p) "pop" ap) [] [] cp) pos) (tAsg (tBM0 X.K "list" rPop (tVar i)) (gName j)) (gPop j i) := by
  refine ⟨ps_set hN hj hy hpe hs hf, fun c H0 G0 σ H G ρ cu D s q => ?_⟩
  unfold gPop at q
  split at q
  · rename_i xs eo
    obtain ⟨A, k1, k2⟩ := s.rep.own
    obtain ⟨e1, ⟨vs, e2, e3⟩, e4, e5, e6⟩ := k1 i xs eo
    obtain ⟨d, ed, q2⟩ := PostS.ofO q
    have hl := e3.length
    rw [List.getLast?_eq_getElem?] at ed
    obtain ⟨v, ev, rv⟩ := e3.get ed
    refine ⟨_, e1, .inl ⟨rfl, _, SqL.of e2⟩, ?_⟩
    exact ⟨A i, vs, v, rfl, rfl, e2, by rw [hl]; exact ev, q2 _ _ G ((s.updO Ext.refl s.wd eo e1 (RpL.dropLast e3)).set rv)⟩
  · exact q.elim
/-- a list of one's own as a test -/
def gTruO (i : Nat) : GT := fun ρ cu => match ρ[i]? with
  | some (.own xs) => .ok (!xs.isEmpty) cu
  | _ => .stuck
theorem ptd_own {i : Nat} {x : Str} {p : Pos} (h : PE X (.Name x p) (tVar i)) (he : ∀ whole, isTrue (.Name x p) X.env whole = (do let v ← whole; standAt (Expr.Name x p).pos; holding [v] (truthy v)) := by intro _; rfl) :
    PTD X K E (.Name x p) (fun σ H Q => tVar i σ H fun x H' => ∃ k, TruV X.K x H' k ∧ Q k H') (gTruO i) := by
  refine ⟨pt_truth h he, fun c H0 G0 σ H G ρ cu Q s q => ?_⟩
  unfold gTruO at q
  split at q
  · rename_i xs eo
    obtain ⟨A, k1, k2⟩ := s.rep.own
    obtain ⟨e1, ⟨vs, e2, e3⟩, e4, e5, e6⟩ := k1 i xs eo
    have hem : (!xs.isEmpty) = !vs.isEmpty := by cases e3 <;> rfl
    exact ⟨_, e1, !xs.isEmpty, .inl ⟨vs, SqL.of e2, hem⟩, q H G Ext.refl s.wd⟩
  · exact q.elim
end
end DL

set_option Elab.async false
set_option linter.all false
set_option maxRecDepth 100000
set_option maxHeartbeats 4000000
set_option autoImplicit false
/-! x.extend(a known list or tuple) -/
namespace DL
open PySem PySem.Spec PyProof.Rows L2
theorem list_extend_tupG (l : Addr) (items : Array Value) (n : Nat) (b : Addr) (items2 : Array Value) (n2 : Nat) (o2 : Obj) (hc2 : o2.cls = .type "tuple") (hd2 : o2.data = .seq items2 n2) (hs0 : ¬(!items.isEmpty && Builtin.List.listTooLong (items.size + items2.size)) = true) (hs1 : items.size ≤ sizeLine) (hs2 : items.size + items2.size ≤ sizeLine + 1) :
    Meets (Builtin.«list.extend» ⟨[.ref l, .ref b], []⟩) (fun _ R s => s.heap.get? l = some { cls := .type "list", dict := none, data := .seq items n, slots := #[] } ∧ s.heap.get? b = some o2 ∧ R (.ok (.ret Value.none)) { s with heap := s.heap.update l (Obj.mapSeq fun x => x ++ items2), toks := s.toks }) :=
  .of_wp fun prog w A R s h => by
    cases o2
    simp only at hc2 hd2
    subst hc2 hd2
    obtain ⟨hp, g, d, tk, os⟩ := s; obtain ⟨hl, hb, h⟩ := h; have f1 := PySem.AutoSeq1.idx_int; have f2 := PySem.AutoSeq1.sub_tuple_tuple; have f3 := PySem.AutoSeq1.sub_list_list; have f4 := PySem.AutoSeq1.sub_tuple_list; have f5 := PySem.AutoSeq1.sub_list_tuple;
    have hz' : (items ++ items2).size ≤ sizeLine + 1 := by rw [Array.size_append]; exact hs2
    wp_walk using (wpAny_updateSeq hl rfl (hz := hs1) (_hz' := hz')), PySem.AutoSeq1.wpAny_loadPart' hl, PySem.AutoSeq1.wpAny_loadPart' hb; exact ⟨_, rfl, h⟩
def rExtD (F : PySem.W.Frag) : V → List V → Hp → VK → Prop := fun x vs H Q => ∃ l b xs zs, x = .ref l ∧ vs = [.ref b] ∧ H l = some (.lst xs) ∧ (H b = some (.lst zs) ∨ SqT F H b zs) ∧ xs.length + zs.length ≤ sizeLine ∧ Q .non (upd H l (.lst (xs ++ zs)))
section
variable {K : Kx} {X : Cx} {E : XK} {e : Expr} {te : TE} {ge : GE} {pos : Pos}
theorem mt_extD : MtM X "list.extend" (rExtD X.K) := by
  intro pins s σ H x vs v us Q I rx rv h
  obtain ⟨l, b, xs, zs, rfl, rfl, hH, hB | hB, hz, q⟩ := h
  · exact mt_extend pins s σ H _ _ v us Q I rx rv ⟨l, b, xs, zs, rfl, rfl, hH, hB, hz, q⟩
  cases rx
  obtain ⟨u, rfl, ru⟩ := rv.one
  cases ru
  obtain ⟨z, its, n, r, hl, e⟩ := I.lstM hH
  obtain ⟨its2, r2, ⟨o2, e2, c2, n2, d2⟩, z2⟩ := I.tuple hB
  have hl2 := r2.length
  have hsz : its.toArray.size + its2.toArray.size ≤ sizeLine := by rw [List.size_toArray, List.size_toArray]; omega
  have hlong : ¬ (!its.toArray.isEmpty && Builtin.List.listTooLong (its.toArray.size + its2.toArray.size)) = true := by
    rw [notLongL hsz, Bool.and_false]
    exact Bool.false_ne_true
  refine call_meets F.slot_list_extend ⟨_, e, rfl⟩ F.entry_list_extend (F.args_list_extend_2 _ _)
    (list_extend_tupG l its.toArray n b its2.toArray n2 o2 c2 d2 hlong (by rw [List.size_toArray]; omega) (by omega)) ⟨e, e2, ?_⟩
  refine ⟨.non, _, I.lset (its' := its ++ its2) hH e (by simp) (r.append r2) ?_, rfl, q⟩
  rw [List.length_append]
  omega
def dItems : PyData → Option (List PyData)
  | .list ys => some ys
  | .tuple ys => some ys
  | _ => none
/-- x.extend(e) -/
def gExt (i : Nat) (g : GE) : GS := fun ρ cu => match ρ[i]? with
  | some (.own xs) => (g ρ cu).bind fun d cu1 => (Rs.ofO (dItems d) cu1).bind fun ys cu2 => if xs.length + ys.length ≤ 16777216 then .ok (.nx (ρ.set i (.own (xs ++ ys)))) cu2 else .stuck
  | _ => .stuck
theorem psd_extend {i : Nat} {x : Str} {p ap cp : Pos} (h : PE X (.Name x p) (tVar i)) (he : PD X K E e te ge)
    (hpe : PA X [e] (tCons te tNil) → PE X (.Call (.Attribute (.Name x p) "extend" ap) [e] [] cp) (tBM X.K "list" (rExtD X.K) (tVar i) (tCons te tNil)))
    (hs0 : starEach [e] X.env = (false, eval e X.env) :: starEach [] X.env := by rfl)
    (hs : swapsWith (.Call (.Attribute (.Name x p) "extend" ap) [e] [] cp) none pos.line X.env = pure false := by rfl) (hKF : K.F = X.K := by assumption) :
    PSD X K E (.Expr (.Call (.Attribute (.Name x p) "extend" ap) [e] [] cp) pos) (tDrop (tBM X.K "list" (rExtD X.K) (tVar i) (tCons te tNil))) (gExt i ge) := by
  refine ⟨ps_expr (hpe (pa_cons he.pe pa_nil hs0)) hs, fun c H0 G0 σ H G ρ cu D s q => ?_⟩
  unfold gExt at q
  split at q
  · rename_i xs eo
    obtain ⟨A, k1, k2⟩ := s.rep.own
    obtain ⟨e1, ⟨vs, e2, e3⟩, e4, e5, e6⟩ := k1 i xs eo
    refine ⟨_, e1, .inl ⟨rfl, _, SqL.of e2⟩, ?_⟩
    refine he.sem c H0 G0 σ H G ρ cu _ s ((q.exp s).imp fun d H1 G1 cu1 x1 w1 q1 v rv => ?_)
    obtain ⟨ys, ey, q2⟩ := PostS.ofO q1
    split at q2
    · rename_i hl
      have a1 := x1.h _ _ e2 nt_lst e6
      cases d with
      | list zs =>
        cases ey
        obtain ⟨b, us, rfl, hb, rb⟩ := rv.lst_of
        exact ⟨A i, b, vs, us, rfl, rfl, a1, .inl (w1.sub _ _ hb), by rw [e3.length, rb.length, sizeLine_eq]; exact hl, q2 σ _ G1 (s.updO x1 w1 eo e1 ((e3.mono x1.g).app rb))⟩
      | tuple zs =>
        cases ey
        obtain ⟨b, us, rfl, hb, rb⟩ := rv.tup_of
        exact ⟨A i, b, vs, us, rfl, rfl, a1, .inr (TupAt.sq' hKF (TupAt.mono w1.sub hb)), by rw [e3.length, rb.length, sizeLine_eq]; exact hl, q2 σ _ G1 (s.updO x1 w1 eo e1 ((e3.mono x1.g).app rb))⟩
      | _ => cases ey
    · exact q2.elim
  · exact q.elim
end
end DL

set_option Elab.async false
set_option linter.all false
set_option maxRecDepth 100000
set_option autoImplicit false
/-! reversed(range(n)) -/
namespace DL
open PySem PySem.Spec PyProof.Rows L2
def rngR (n : Nat) : List PyData := (List.range n).map fun (i : Nat) => .int ((n : Int) - 1 - (i : Int))
section
variable {K : Kx} {X : Cx} {E : XK} {a : Expr} {ta : TE} {ga : GE} {pos : Pos}
theorem wk_rngR {G1 : Hp} (n : Nat) : Wk K (Itc (0 + (n : Int) - 1) (-1) n) G1 (rngR n) := by
  intro c H G cu k w
  have hl : (rngR n).length = n := by unfold rngR; rw [List.length_map, List.length_range]
  refine ⟨fun i d e => ?_, by rw [hl]; exact Nat.le_refl n⟩
  have hi : i < n := by rw [← hl]; exact (List.getElem?_eq_some_iff.mp e).1
  unfold rngR at e
  rw [List.getElem?_map, List.getElem?_range hi] at e
  cases e
  refine ⟨hi, fun x H' y => ?_⟩
  obtain ⟨rfl, rfl⟩ := y
  have : (0 + (n : Int) - 1 + (i : Int) * -1) = (n : Int) - 1 - (i : Int) := by omega
  rw [this]
  exact ⟨G, Ext.refl, w, .int _⟩
def dRngR : PyData → Option (List PyData)
  | .int j => if -(2 ^ 62) ≤ j ∧ j < 2 ^ 62 then some (rngR j.toNat) else none
  | _ => none
def giRngR (g : GE) : GI := fun ρ cu => (g ρ cu).bind fun d cu1 => .ofO (dRngR d) cu1
theorem pid_revR {tg : Expr} {p p2 pos2 : Pos} (hg : Gl X "reversed") (hm : X.mg "reversed" = none) (hg2 : Gl X "range") (hm2 : X.mg "range" = none) (ha : PD X K E a ta ga)
    (na : starEach [a] X.env = (false, eval a X.env) :: starEach [] X.env := by rfl)
    (hs : starEach [.Call (.Name "range" p2) [a] [] pos2] X.env = (false, eval (.Call (.Name "range" p2) [a] [] pos2) X.env) :: starEach [] X.env := by rfl) :
    PID X K E tg (.Call (.Name "reversed" p) [.Call (.Name "range" p2) [a] [] pos2] [] pos) (iRevR (tRg1 ta)) (giRngR ga) := by
  refine ⟨pi_revR hg hm (prg_1 hg2 hm2 ha.pe na) hs, fun c H0 G0 σ H G ρ cu R s q => ?_⟩
  refine ha.sem c H0 G0 σ H G ρ cu _ s (q.bind.imp fun d H1 G1 cu1 x1 w1 q1 v rv => ?_)
  obtain ⟨items, ez, q2⟩ := q1.ofO
  unfold dRngR at ez
  split at ez
  · split at ez
    · rename_i j hb
      cases ez
      refine ⟨j, rv.int_of, by decide, by decide, hb.1, hb.2, ?_⟩
      have e : (j - 0).toNat = j.toNat := by rw [Int.sub_zero]
      rw [e]
      exact q2 H1 G1 Ext.refl w1 _ (wk_rngR _)
    · cases ez
  · cases ez
/-! reversed of a tuple -/
def dRevTup : PyData → Option (List PyData)
  | .tuple ds => some ds.reverse
  | _ => none
def giRevT (g : GE) : GI := fun ρ cu => (g ρ cu).bind fun d cu1 => .ofO (dRevTup d) cu1
theorem wk_revT {F : PySem.W.Frag} (hKF : K.F = F) {G1 : Hp} {a : Addr} {xs : List V} {ds : List PyData} (h : TupAt K.F G1 a xs) (r : RpL K G1 xs ds) : Wk K (RT.ItvT F a xs.length) G1 ds.reverse := by
  intro c H G cu k w
  have hH : SqT F H a xs := TupAt.sq' hKF ((h.mono k).mono w.sub)
  have hl := r.length
  refine ⟨fun i d e => ?_, by show xs.length ≤ ds.reverse.length; rw [List.length_reverse]; exact Nat.le_of_eq hl⟩
  have hi : i < ds.length := by
    have := (List.getElem?_eq_some_iff.mp e).1
    rwa [List.length_reverse] at this
  rw [List.getElem?_reverse hi] at e
  obtain ⟨v, e1, rv⟩ := r.get e
  rw [← hl] at e1
  refine ⟨⟨by omega, xs, v, hH, e1⟩, fun x H' y => ?_⟩
  obtain ⟨rfl, y⟩ := y
  have ev : v = x := Option.some.inj (e1.symm.trans (y xs hH))
  subst ev
  exact ⟨G, Ext.refl, w, rv.mono k⟩
theorem pid_revT {tg : Expr} {p : Pos} (hg : Gl X "reversed") (hm : X.mg "reversed" = none) (h : PD X K E a ta ga) (hs : starEach [a] X.env = (false, eval a X.env) :: starEach [] X.env := by rfl) (hKF : K.F = X.K := by assumption) :
    PID X K E tg (.Call (.Name "reversed" p) [a] [] pos) (RT.iRevA X.K ta) (giRevT ga) := by
  refine ⟨RT.pi_revA hg hm h.pe hs, fun c H0 G0 σ H G ρ cu R s q => ?_⟩
  refine h.sem c H0 G0 σ H G ρ cu _ s (q.bind.imp fun d H1 G1 cu1 x1 w1 q1 v rv => ?_)
  obtain ⟨ds, ed, q2⟩ := q1.ofO
  unfold dRevTup at ed
  split at ed
  · cases ed
    obtain ⟨b, xs, rfl, ha, ra⟩ := rv.tup_of
    exact ⟨b, xs, rfl, .inr ⟨TupAt.sq' hKF (TupAt.mono w1.sub ha), q2 H1 G1 Ext.refl w1 _ (wk_revT hKF ha ra)⟩⟩
  · cases ed
end
end DL

set_option Elab.async false
set_option linter.all false
set_option maxRecDepth 100000
set_option autoImplicit false
/-! x, y, z = e, list(..), [..] * n: the last two one's own -/
namespace DL
open PySem PySem.Spec PyProof.Rows L2
section
variable {K : Kx} {X : Cx} {E : XK} {pos : Pos}
def gPar3O (i j l : Nat) (g1 : GE) (g2 g3 : GI) : GS := fun ρ cu => (g1 ρ cu).bind fun d cu1 => (g2 ρ cu1).bind fun ds cu2 => (g3 ρ cu2).bind fun es cu3 => .ok (.nx (((ρ.set i (.dat d)).set j (.own ds)).set l (.own es))) cu3
theorem psd_par3O {i j l : Nat} {x y z : Str} {a b c : Expr} {ta tb tc : TE} {g1 : GE} {g2 g3 : GI} {px py pz pt : Pos} {kt k2 : Nat} {pt2 : Pos} (hcm : X.calm = true) (hN : X.N.Nodup) (hi : X.N[i]? = some x) (hj : X.N[j]? = some y) (hl : X.N[l]? = some z) (hij : i ≠ j) (hil : i ≠ l) (hjl : j ≠ l)
    (hx : X.env.scope.names.lookup x = some .local) (hy : X.env.scope.names.lookup y = some .local) (hz : X.env.scope.names.lookup z = some .local) (ha : PD X K E a ta g1) (hb : PFD X K E b tb g2) (hc : PFD X K E c tc g3)
    (hw : swappedStores [.Tuple [.Name x px, .Name y py, .Name z pz] kt pt] (.Tuple [a, b, c] k2 pt2) X.env = pure (some [x, y, z]) := by rfl)
    (hs : swapsWithSole [.Tuple [.Name x px, .Name y py, .Name z pz] kt pt] (.Tuple [a, b, c] k2 pt2) pos.line X.env = pure false := by rfl)
    (h1 : starEach [a, b, c] X.env = (false, eval a X.env) :: starEach [b, c] X.env := by rfl) (h2 : starEach [b, c] X.env = (false, eval b X.env) :: starEach [c] X.env := by rfl) (h3 : starEach [c] X.env = (false, eval c X.env) :: starEach [] X.env := by rfl) :
    PSD X K E (.Assign [.Tuple [.Name x px, .Name y py, .Name z pz] kt pt] (.Tuple [a, b, c] k2 pt2) pos) (tPar3 i j l (tCons ta (tCons tb (tCons tc tNil)))) (gPar3O i j l g1 g2 g3) := by
  refine ⟨ps_par3 hcm hN hi hj hl hij hil hjl hx hy hz (pa_cons ha.pe (pa_cons hb.pe (pa_cons hc.pe pa_nil h3) h2) h1) hw hs, fun cc H0 G0 σ H G ρ cu D s q => ?_⟩
  refine ha.sem cc H0 G0 σ H G ρ cu _ s ((q.exp s).imp fun d H1 G1 cu1 x1 w1 q1 v rv => ?_)
  refine hb.sem cc H0 G0 σ H1 G1 ρ cu1 _ (s.go x1 w1) ((q1.exp (s.go x1 w1)).imp fun ds H2 G2 cu2 x2 w2 q2 p xs hp hp' r gp => ?_)
  refine hc.sem cc H0 G0 σ H2 G2 ρ cu2 _ ((s.go x1 w1).go x2 w2) ((q2.exp ((s.go x1 w1).go x2 w2)).imp fun es H3 G3 cu3 x3 w3 q3 p2 ys hp2 hp2' r2 gp2 => ?_)
  exact ⟨_, _, _, rfl, q3 _ H3 G3 ((((s.go x1 w1).set rv).setO x2 w2 hp hp' r gp).setO x3 w3 hp2 hp2' r2 gp2)⟩
end
end DL

set_option Elab.async false
set_option linter.all false
set_option maxRecDepth 100000
set_option autoImplicit false
/-! a > b of two tuples of integers -/
namespace DL
open PySem PySem.Spec PyProof.Rows L2
def lexG (ns ms : List Int) : Bool := Ob.lexAt (fun j => decide (ns.getD j 0 = ms.getD j 0)) (fun j => decide (ms.getD j 0 < ns.getD j 0)) (decide (ns.length > ms.length)) 0 (min ns.length ms.length)
def rGtT (K : PySem.W.Frag) : R2 := fun x y H Q => ∃ (a b : Addr) (ns ms : List Int), x = .ref a ∧ y = .ref b ∧ SqT K H a (ns.map V.int) ∧ SqT K H b (ms.map V.int) ∧ Q (.bl (lexG ns ms)) H
theorem op_gtT {X : Cx} (hu : X.A.units < cLine) : OpR X (compareOp .Gt) (rGtT X.K) := by
  intro pins s σ H x y v u Q I rx ry h
  obtain ⟨a, b, ns, ms, rfl, rfl, ha, hb, q⟩ := h
  cases rx
  cases ry
  obtain ⟨its, r1, p1, _⟩ := I.tuple ha
  obtain ⟨its2, r2, p2, _⟩ := I.tuple hb
  have i1 : IntsAre its ns := Vals.ints r1
  have i2 : IntsAre its2 ms := Vals.ints r2
  have e1 : its.toArray.size = ns.length := by rw [List.size_toArray]; exact i1.length
  have e2 : its2.toArray.size = ms.length := by rw [List.size_toArray]; exact i2.length
  have at1 : ∀ j (h1 : j < its.toArray.size), ∃ t, its.toArray[j] = .int (ns.getD j 0) t := fun j h1 => PyProof.Rows.IntsAre.int_at i1 _ _ (by simp at h1; simp [h1])
  have at2 : ∀ j (h1 : j < its2.toArray.size), ∃ t, its2.toArray[j] = .int (ms.getD j 0) t := fun j h1 => PyProof.Rows.IntsAre.int_at i2 _ _ (by simp at h1; simp [h1])
  have R := Ob.RcOp.tuples_gt (A := X.A) (s := s) (e := fun j => decide (ns.getD j 0 = ms.getD j 0)) (r := fun j => decide (ms.getD j 0 < ns.getD j 0)) p1 p2 hu (fun j h1 h2 => by
    obtain ⟨t, et⟩ := at1 j h1
    obtain ⟨t', et'⟩ := at2 j h2
    rw [et, et']
    have z : (ns.getD j 0 == ms.getD j 0) = decide (ns.getD j 0 = ms.getD j 0) := by
      by_cases q : ns.getD j 0 = ms.getD j 0
      · rw [decide_eq_true q]; exact beq_iff_eq.mpr q
      · rw [decide_eq_false q]; exact beq_eq_false_iff_ne.mpr q
    rw [← z]
    exact SeqAt.EqAt.int_int _ _ _ _) (fun j h1 h2 _ => by
    obtain ⟨t, et⟩ := at1 j h1
    obtain ⟨t', et'⟩ := at2 j h2
    rw [et, et']
    exact Ob.RcOp.gt_int _ _ _ _)
  rw [e1, e2] at R
  have z : wpAny (model X.prog X.w) X.A (compareOp .Gt (.ref a) (.ref b)) (EP X pins σ Q) X.xe s := R X.prog X.w X.xe (EP X pins σ Q) ⟨.bl _, H, I, rfl, q⟩
  exact z
def dGtT : PyData → PyData → Option PyData
  | .tuple ds, .tuple es => match intsD ds, intsD es with
    | some ns, some ms => some (.bool (lexG ns ms))
    | _, _ => none
  | _, _ => none
theorem opD_gtT {K : Kx} {F : PySem.W.Frag} (hKF : K.F = F := by assumption) : OpD K (rGtT F) dGtT := by
  intro c H G cu v w d e z Q wd r1 r2 hz q
  unfold dGtT at hz
  split at hz
  · split at hz
    · rename_i ds es _ _ ns ms h1 h2
      cases hz
      obtain ⟨a, xs, rfl, ha, ra⟩ := r1.tup_of
      obtain ⟨b, ys, rfl, hb, rb⟩ := r2.tup_of
      have e1 := ints_rp ra h1
      have e2 := ints_rp rb h2
      subst e1 e2
      exact ⟨a, b, ns, ms, rfl, rfl, TupAt.sq' hKF (TupAt.mono wd.sub ha), TupAt.sq' hKF (TupAt.mono wd.sub hb), q _ H G Ext.refl wd (.bl _)⟩
    · cases hz
  · cases hz
end DL

set_option Elab.async false
set_option linter.all false
set_option maxRecDepth 100000
set_option autoImplicit false
/-! for over a list or a tuple; len of a list of one's own; a number in a tuple of numbers -/
namespace DL
open PySem PySem.Spec PyProof.Rows L2
section
variable {K : Kx} {X : Cx} {E : XK} {tg iter e : Expr} {te : TE} {ge : GE} {pos : Pos}
theorem pi_orI {t u : TI} (h : PI X tg iter t) (k : PI X tg iter u) : PI X tg iter (fun σ H R => t σ H R ∨ u σ H R) :=
  ⟨fun pins s σ H R I q => q.elim (h.run pins s σ H R I) (k.run pins s σ H R I)⟩
def giSeq (g : GE) : GI := fun ρ cu => (g ρ cu).bind fun d cu1 => .ofO (dItems d) cu1
theorem pid_seq (h : PD X K E iter te ge) (hKF : K.F = X.K := by assumption) : PID X K E tg iter (fun σ H R => iList X.K te σ H R ∨ iTup X.K te σ H R) (giSeq ge) := by
  refine ⟨pi_orI (pi_list h.pe) (pi_tup h.pe), fun c H0 G0 σ H G ρ cu R s q => ?_⟩
  have L := (pid_lst (tg := tg) h).sem c H0 G0 σ H G ρ cu R s
  have T := (pid_tup (tg := tg) h).sem c H0 G0 σ H G ρ cu R s
  unfold giSeq at q
  unfold giLst at L
  unfold giTup at T
  cases hr : ge ρ cu with
  | stuck => rw [hr] at q; exact q.elim
  | exc k cu1 => rw [hr] at q L; exact .inl (L q)
  | ok d cu1 =>
    rw [hr] at q L T
    cases d with
    | list ds => exact .inl (L q)
    | tuple ds => exact .inr (T q)
    | _ => exact q.elim
end
section
variable {K : Kx} {X : Cx} {E : XK} {pos : Pos}
/-- len(x), x one's own -/
def gLenO (i : Nat) : GE := fun ρ cu => match ρ[i]? with
  | some (.own xs) => .ok (.int xs.length) cu
  | _ => .stuck
theorem pd_lenO {i : Nat} {x y : Str} {p p2 : Pos} (hg : Gl X y) (hm : X.mg y = none) (hv : bootBuiltins y = some (.builtin "len")) (h : PE X (.Name x p) (tVar i))
    (hn : y ≠ "__name__" := by decide) (hdb : (y == ("__debug__" : Str)) = false := by decide)
    (he : starEach [.Name x p] X.env = (false, eval (.Name x p) X.env) :: starEach [] X.env := by rfl) (hpl : (backTo pos (starEach [] X.env)).any (·.1) = false := by rfl) :
    PD X K E (.Call (.Name y p2) [.Name x p] [] pos) (tCB (fun xs H Q => ∃ p ys, xs = [.ref p] ∧ (SqL X.K H p ys ∨ SqT X.K H p ys) ∧ Q (.int ys.length) H) (tCons (tVar i) tNil)) (gLenO i) := by
  refine ⟨pe_callB call_len_seq hg hm hv (pa_cons h pa_nil he) hn hdb he hpl, fun c H0 G0 σ H G ρ cu Q s q => ?_⟩
  unfold gLenO at q
  split at q
  · rename_i xs eo
    obtain ⟨A, k1, k2⟩ := s.rep.own
    obtain ⟨e1, ⟨vs, e2, e3⟩, e4, e5, e6⟩ := k1 i xs eo
    refine ⟨_, e1, ?_⟩
    exact ⟨A i, vs, rfl, .inl (SqL.of e2), by rw [e3.length]; exact q H G Ext.refl s.wd _ (.int _)⟩
  · exact q.elim
/-- a number in a tuple of numbers -/
def dInT : PyData → PyData → Option PyData
  | .int i, .tuple ds => (intsD ds).map fun ns => .bool (inV (.int i) (ns.map V.int))
  | _, _ => none
theorem opD_inT {F : PySem.W.Frag} (hKF : K.F = F := by assumption) : OpD K (rIn F false) dInT := by
  intro c H G cu v w d e z Q wd r1 r2 hz q
  unfold dInT at hz
  split at hz
  · rename_i i ds
    cases en : intsD ds with
    | none => rw [en] at hz; cases hz
    | some ns =>
      rw [en] at hz
      cases hz
      obtain ⟨a, xs, rfl, ha, ra⟩ := r2.tup_of
      have e1 := ints_rp ra en
      subst e1
      refine ⟨a, _, rfl, .inr (TupAt.sq' hKF (TupAt.mono wd.sub ha)), ?_, ?_, ?_⟩
      · rw [r1.int_of]; rfl
      · rw [List.all_map, List.all_eq_true]; intro z _; rfl
      · rw [r1.int_of]; exact q _ H G Ext.refl wd (.bl _)
  · cases hz
end
end DL

set_option Elab.async false
set_option linter.all false
set_option maxRecDepth 100000
set_option maxHeartbeats 4000000
set_option autoImplicit false
/-! a tuple once, and no times -/
namespace DL
open PySem PySem.Spec PyProof.Rows L2
theorem tuple_mul1 (l : Addr) (items : Array Value) (n : Nat) (dd : Option Addr) (sl : Array (Option Value)) (u : Tok) :
    Meets (Builtin.«tuple.__mul__» ⟨[.ref l, .int 1 u], []⟩) (fun _ R s => s.heap.get? l = some { cls := .type "tuple", dict := dd, data := .seq items n, slots := sl } ∧ R (.ok (.ret (Value.ref l))) s) :=
  .of_wp fun prog w A R s h => by
    obtain ⟨hp, g, d, tk, os⟩ := s
    obtain ⟨hl, h⟩ := h
    have f1 := AutoSeq1.idx_int
    have f2 := AutoSeq1.sub_tuple_tuple
    wp_walk using wpAny_loadPart' hl
    exact ⟨_, rfl, h⟩
theorem tuple_mul0 (l : Addr) (items : Array Value) (n : Nat) (dd : Option Addr) (sl : Array (Option Value)) (x : Int) (u : Tok) (c0 : (decide (x < -(2 ^ 63)) || decide (x ≥ 2 ^ 63)) = false) (c1 : (items.isEmpty || x == 1) = false) (c2 : (decide (x ≤ 0) || items.isEmpty) = true) :
    Meets (Builtin.«tuple.__mul__» ⟨[.ref l, .int x u], []⟩) (fun _ R s => s.heap.get? l = some { cls := .type "tuple", dict := dd, data := .seq items n, slots := sl } ∧
      R (.ok (.ret (Value.ref s.heap.objs.size))) { s with heap := s.heap.push { cls := Value.type "tuple", data := Data.seq #[] }, toks := s.toks }) :=
  .of_wp fun prog w A R s h => by
    obtain ⟨hp, g, d, tk, os⟩ := s
    obtain ⟨hl, h⟩ := h
    have f1 := AutoSeq1.idx_int
    have f2 := AutoSeq1.sub_tuple_tuple
    wp_walk using wpAny_loadPart' hl
    repeat (first
      | (refine wpAny_ite_false (decide_eq_false (by rw [c0]; exact Bool.false_ne_true)) ?_; wp_walk using wpAny_loadPart' hl)
      | (refine wpAny_ite_false (decide_eq_false (by rw [c1]; exact Bool.false_ne_true)) ?_; wp_walk using wpAny_loadPart' hl)
      | (refine wpAny_ite_true (decide_eq_true c2) ?_; wp_walk using wpAny_loadPart' hl))
    exact ⟨_, rfl, h⟩
/-- nothing, or once -/
def rRep01 (F : PySem.W.Frag) : R2 := fun x y H Q => ∃ l k xs, x = .ref l ∧ y = .int k ∧ SqT F H l xs ∧ xs ≠ [] ∧ ((k = 1 ∧ Q (.ref l) H) ∨ (-1000 ≤ k ∧ k ≤ 0 ∧ ∀ p, H p = none → Q (.ref p) (upd H p (.tup []))))
section
variable {X : Cx} {K : Kx} {E : XK}
theorem op_rep01 : OpR X (binaryOp .Mult) (rRep01 X.K) := by
  intro pins s σ H x y v u Q I rx ry h
  obtain ⟨l, k, xs, rfl, rfl, hT, hne, h1⟩ := h
  cases rx
  obtain ⟨t, rfl⟩ := ry
  obtain ⟨its, r, ⟨⟨cls, dd, data, sl⟩, ho, hc, n, hd⟩, hs⟩ := I.tuple hT
  simp only at hc hd
  subst hc hd
  have hle : its.length = xs.length := r.length.symm
  have hn : its ≠ [] := fun e => hne (by
    rw [e] at hle
    exact List.eq_nil_of_length_eq_zero hle.symm)
  have hi : its.toArray.isEmpty = false := by
    cases its with
    | nil => exact absurd rfl hn
    | cons a b => rfl
  rcases h1 with ⟨rfl, q⟩ | ⟨h1, h2, q⟩
  · exact wpAny_binaryOp_repeat_ref (T := "tuple") (U := "int") (by decide) ⟨_, ho, rfl⟩ (fun s' => typeIs_int s' 1 t) noFill_tuple_mul F.fills_int_mul F.slot_int_rmul repeat_tuple F.slot_int_index.lookup
      (call_meets F.slot_int_rmul (typeIs_int s 1 t) F.entry_int_rmul (F.args_int_rmul_2 _ _) (int_rmul_tuple 1 t l its.toArray n dd sl)
        ⟨ho, rfl, ⟨_, ho, rfl⟩, call_meets F.slot_tuple_mul ⟨_, ho, rfl⟩ F.entry_tuple_mul (F.args_tuple_mul_2 _ _) (tuple_mul1 l its.toArray n dd sl t) ⟨ho, ⟨.ref l, H, I, rfl, q⟩⟩⟩)
  · have c0 : (decide (k < -(2 ^ 63)) || decide (k ≥ 2 ^ 63)) = false := by
      rw [decide_eq_false (by omega), decide_eq_false (by omega)] <;> rfl
    have c1 : (its.toArray.isEmpty || k == 1) = false := by
      rw [hi, Bool.false_or]
      exact beq_eq_false_iff_ne.mpr (by omega)
    have c2 : (decide (k ≤ 0) || its.toArray.isEmpty) = true := by
      rw [decide_eq_true h2, Bool.true_or]
    refine wpAny_binaryOp_repeat_ref (T := "tuple") (U := "int") (by decide) ⟨_, ho, rfl⟩ (fun s' => typeIs_int s' k t) noFill_tuple_mul F.fills_int_mul F.slot_int_rmul repeat_tuple F.slot_int_index.lookup
      (call_meets F.slot_int_rmul (typeIs_int s k t) F.entry_int_rmul (F.args_int_rmul_2 _ _) (int_rmul_tuple k t l its.toArray n dd sl)
        ⟨ho, rfl, ⟨_, ho, rfl⟩, call_meets F.slot_tuple_mul ⟨_, ho, rfl⟩ F.entry_tuple_mul (F.args_tuple_mul_2 _ _) (tuple_mul0 l its.toArray n dd sl k t c0 c1 c2) ⟨ho, ?_⟩⟩)
    refine ⟨.ref s.heap.objs.size, _, I.laid (t' := s.toks) (o := .tup []) (fun b ob q => Heap.get?_push_of_some _ q) (Nat.le_refl _) ?_, rfl, q _ (I.hok.fresh (Nat.le_refl _))⟩
    exact ⟨by decide, [], .nil, IsTup.new _ _⟩
/-- a tuple so many times -/
def dMulA : PyData → PyData → Option PyData
  | .tuple xs, .int k => if 2 ≤ k ∧ k ≤ 1000 ∧ xs.length ≤ 1000 ∧ xs ≠ [] then some (.tuple (List.replicate k.toNat xs).flatten)
      else if k = 1 ∧ xs ≠ [] then some (.tuple xs) else if -1000 ≤ k ∧ k ≤ 0 ∧ xs ≠ [] then some (.tuple []) else none
  | d, e => dMul d e
theorem op_mulDA : OpR X (binaryOp .Mult) (fun x y H Q => (rMulD x y H Q ∨ rRepT X.K x y H Q) ∨ rRep01 X.K x y H Q) := OpR.or op_mulDT op_rep01
theorem opD_mulA {F : PySem.W.Frag} (hKF : K.F = F := by assumption) : OpD K (fun x y H Q => (rMulD x y H Q ∨ rRepT F x y H Q) ∨ rRep01 F x y H Q) dMulA := by
  intro c H G cu v w d e z Q wd r1 r2 hz q
  unfold dMulA at hz
  split at hz
  · rename_i xs k
    by_cases hc : 2 ≤ k ∧ k ≤ 1000 ∧ xs.length ≤ 1000 ∧ xs ≠ []
    · rw [if_pos hc] at hz
      cases hz
      obtain ⟨a, vs, rfl, ha, ra⟩ := r1.tup_of
      have hl := ra.length
      refine .inl (.inr ⟨a, k, vs, rfl, r2.int_of, TupAt.sq' hKF (TupAt.mono wd.sub ha), fun z => hc.2.2.2 ?_, hc.1, hc.2.1, by omega, fun p hp => new_tup wd (ra.rep _) q hp⟩)
      rw [z] at hl
      exact List.eq_nil_of_length_eq_zero (by rw [← hl]; rfl)
    · rw [if_neg hc] at hz
      obtain ⟨a, vs, rfl, ha, ra⟩ := r1.tup_of
      have hl := ra.length
      have ne : xs ≠ [] → vs ≠ [] := fun h z => h (by rw [z] at hl; exact List.eq_nil_of_length_eq_zero (by rw [← hl]; rfl))
      split at hz
      · rename_i h1
        cases hz
        exact .inr ⟨a, k, vs, rfl, r2.int_of, TupAt.sq' hKF (TupAt.mono wd.sub ha), ne h1.2, .inl ⟨h1.1, q _ H G Ext.refl wd (.tupA ha ra)⟩⟩
      · split at hz
        · rename_i h1
          cases hz
          exact .inr ⟨a, k, vs, rfl, r2.int_of, TupAt.sq' hKF (TupAt.mono wd.sub ha), ne h1.2.2, .inr ⟨h1.1, h1.2.1, fun p hp => new_tup wd .nil q hp⟩⟩
        · cases hz
  · exact .inl (.inl (opD_mul c H G cu v w d e z Q wd r1 r2 hz q))
end
end DL

set_option Elab.async false
set_option linter.all false
set_option maxRecDepth 100000
set_option maxHeartbeats 2000000
set_option autoImplicit false
/-! tuples that a module holds -/
namespace DL
open PySem PySem.Spec PyProof.Rows L2
mutual
def isDB (F : PySem.W.Frag) : PyData → Value → Bool
  | .int i, .int j _ => decide (i = j)
  | .str x, .str y _ => decide (x = y)
  | .tuple ds, .ref a => (match F.lookup a with
    | some o => decide (o.cls = .type "tuple") && (match o.data with
      | .seq its _ => decide (its.size ≤ sizeLine) && isDBs F ds its.toList
      | _ => false)
    | none => false)
  | _, _ => false
def isDBs (F : PySem.W.Frag) : List PyData → List Value → Bool
  | [], [] => true
  | d :: ds, u :: us => isDB F d u && isDBs F ds us
  | _, _ => false
end
mutual
theorem isDB_ok {F : PySem.W.Frag} : ∀ (d : PyData) (u : Value), isDB F d u = true → ∃ v, RelV v u ∧ ∀ K : Kx, K.F = F → ∀ G : Hp, Rp K G v d
  | .int i, .int j t, h => by
    have e : i = j := of_decide_eq_true h
    subst e
    exact ⟨.int i, ⟨t, rfl⟩, fun _ _ _ => .int i⟩
  | .str x, .str y t, h => by
    have e : x = y := of_decide_eq_true h
    subst e
    exact ⟨.str x, ⟨t, rfl⟩, fun _ _ _ => .str x⟩
  | .tuple ds, .ref a, h => by
    unfold isDB at h
    split at h
    · rename_i o ho
      rw [Bool.and_eq_true, decide_eq_true_eq] at h
      obtain ⟨hc, h⟩ := h
      split at h
      · rename_i its n hd
        rw [Bool.and_eq_true, decide_eq_true_eq] at h
        obtain ⟨vs, r1, r2⟩ := isDBs_ok ds its.toList h.2
        exact ⟨.ref a, rfl, fun K e G => .tupA (.inr (by rw [e]; exact ⟨o, its, n, ho, hc, hd, h.1, r1⟩)) (r2 K e G)⟩
      · cases h
    · cases h
  | .none, u, h => by cases u <;> (unfold isDB at h; cases h)
  | .bool _, u, h => by cases u <;> (unfold isDB at h; cases h)
  | .list _, u, h => by cases u <;> (unfold isDB at h; cases h)
  | .dict _, u, h => by cases u <;> (unfold isDB at h; cases h)
  | .int _, .none, h => by unfold isDB at h; cases h
  | .tuple _, .none, h => by unfold isDB at h; cases h
  | .str _, .none, h => by unfold isDB at h; cases h
  | .int _, .ellipsis, h => by unfold isDB at h; cases h
  | .tuple _, .ellipsis, h => by unfold isDB at h; cases h
  | .str _, .ellipsis, h => by unfold isDB at h; cases h
  | .int _, .notImplemented, h => by unfold isDB at h; cases h
  | .tuple _, .notImplemented, h => by unfold isDB at h; cases h
  | .str _, .notImplemented, h => by unfold isDB at h; cases h
  | .int _, .bool _, h => by unfold isDB at h; cases h
  | .tuple _, .bool _, h => by unfold isDB at h; cases h
  | .str _, .bool _, h => by unfold isDB at h; cases h
  | .int _, .float _ _, h => by unfold isDB at h; cases h
  | .tuple _, .float _ _, h => by unfold isDB at h; cases h
  | .str _, .float _ _, h => by unfold isDB at h; cases h
  | .int _, .bytes _ _, h => by unfold isDB at h; cases h
  | .tuple _, .bytes _ _, h => by unfold isDB at h; cases h
  | .str _, .bytes _ _, h => by unfold isDB at h; cases h
  | .int _, .type _, h => by unfold isDB at h; cases h
  | .tuple _, .type _, h => by unfold isDB at h; cases h
  | .str _, .type _, h => by unfold isDB at h; cases h
  | .int _, .builtin _, h => by unfold isDB at h; cases h
  | .tuple _, .builtin _, h => by unfold isDB at h; cases h
  | .str _, .builtin _, h => by unfold isDB at h; cases h
  | .int _, .str _ _, h => by unfold isDB at h; cases h
  | .int _, .ref _, h => by unfold isDB at h; cases h
  | .str _, .int _ _, h => by unfold isDB at h; cases h
  | .str _, .ref _, h => by unfold isDB at h; cases h
  | .tuple _, .int _ _, h => by unfold isDB at h; cases h
  | .tuple _, .str _ _, h => by unfold isDB at h; cases h
theorem isDBs_ok {F : PySem.W.Frag} : ∀ (ds : List PyData) (us : List Value), isDBs F ds us = true → ∃ vs, Vals vs us ∧ ∀ K : Kx, K.F = F → ∀ G : Hp, RpL K G vs ds
  | [], [], _ => ⟨[], .nil, fun _ _ _ => .nil⟩
  | d :: ds, u :: us, h => by
    unfold isDBs at h
    rw [Bool.and_eq_true] at h
    obtain ⟨v, r1, r2⟩ := isDB_ok d u h.1
    obtain ⟨vs, q1, q2⟩ := isDBs_ok ds us h.2
    exact ⟨v :: vs, .cons r1 q1, fun K e G => .cons (r2 K e G) (q2 K e G)⟩
  | [], _ :: _, h => by unfold isDBs at h; cases h
  | _ :: _, [], h => by unfold isDBs at h; cases h
end
def tpB (F : PySem.W.Frag) (x : Str) (d : PyData) : Bool := match PySem.W.nsIn F mainGlobals x with
  | some (some u) => isDB F d u
  | _ => false
theorem tp_ok {F : PySem.W.Frag} {h : Heap} {mg : Str → Option Value} (X : F.In h) (G : h.Ns mainGlobals mg) {x : Str} {d : PyData} (hb : tpB F x d = true) : ∃ (u : Value) (v : V), mg x = some u ∧ RelV v u ∧ ∀ K : Kx, K.F = F → ∀ G : Hp, Rp K G v d := by
  unfold tpB at hb
  split at hb
  · rename_i u e
    obtain ⟨v, r1, r2⟩ := isDB_ok d u hb
    exact ⟨u, v, PySem.W.mg_of X G e, r1, r2⟩
  · cases hb
/-- a value that a module holds -/
theorem pd_globD {X : Cx} {K : Kx} {E : XK} {x : Str} {u : Value} {v : V} {d : PyData} {pos : Pos} (hg : Gl X x) (hm : X.mg x = some u ∧ RelV v u ∧ ∀ G : Hp, Rp K G v d) (hd : (x == ("__debug__" : Str)) = false := by decide) : PD X K E (.Name x pos) (tC v) (gC d) :=
  ⟨pe_glob hg hm.1 hm.2.1 hd, sem_c hm.2.2⟩
theorem fun_ofA {fa : List He.Fa} {fn : List He.DefD} {K : PySem.W.Frag} {x y : Str} {st : Stmt} {ps : List Str} (c : He.SaysD fa fn K) {h : Heap} {mg : Str → Option Value} (X : K.In h) (G : h.Ns mainGlobals mg) (i : Nat) (hd : fn[i]? = some ⟨(y, none), x, x, defArgs st, defBody st, defScope st, [], []⟩) (j : Nat) (hf : fa[j]? = some (.glo y))
    (hb : ∀ (kV doc pm : Value) (an : Option Addr) (cdv ct : Value) (us : List Value), us.length = ps.length → bindArgs (PySem.W.fnOf x x (defArgs st) (defBody st) (defScope st) .none kV doc pm an cdv ct) ⟨us, []⟩ = pure (ps.zip us)) :
    ∃ (f : Addr) (fd : FuncData), Fun K x x st f fd ∧ mg y = some (.ref f) ∧ Binds K fd ps [] := by
  obtain ⟨fd, F⟩ := c.def_ i hd
  have b := F.bindsN hb
  obtain ⟨oc, od, dV, kV, doc, pm, an, cdv, ct, osl, rfl, lk, hcd, hD, hK⟩ := F.ex
  rcases hD with ⟨_, rfl⟩ | ⟨e, _⟩
  · exact ⟨He.ga K y, _, ⟨⟨oc, od, kV, doc, pm, an, cdv, ct, osl, rfl, lk, hcd⟩, F.kp⟩, He.glo_ok X G (c.fact j hf), b⟩
  · exact absurd rfl e
def obsC (n : Nat) (fa : List He.Fa) (fn : List He.DefD) (xs : List Str) (bs : List (Str × String)) (ts : List (Str × PyData)) (g : Addr → Option Obj) : AlT :=
  (He.obsD fa fn (He.frG g (He.asD g n)), ((tabO xs (He.frG g (He.asD g n)) g).1 && (bs.all (fun b => biB (He.frG g (He.asD g n)) b.1 b.2) && ts.all fun t => tpB (He.frG g (He.asD g n)) t.1 t.2), (tabO xs (He.frG g (He.asD g n)) g).2))
structure SaysC (fa : List He.Fa) (fn : List He.DefD) (xs : List Str) (bs : List (Str × String)) (ts : List (Str × PyData)) (K : PySem.W.Frag) (h : Heap) : Prop extends SaysB fa fn xs bs K h where
  tp : ∀ t ∈ ts, tpB K t.1 t.2 = true
def hookC (n : Nat) (fa : List He.Fa) (fn : List He.DefD) (xs : List Str) (bs : List (Str × String)) (ts : List (Str × PyData)) : PySem.W.Hook where
  α := AlT
  obs := fun s => obsC n fa fn xs bs ts s.heap.get?
  val := fun _ => (He.valD fn, tabV xs)
  says := fun _ h => ∃ K : PySem.W.Frag, SaysC fa fn xs bs ts K h
  of := fun w s e => by
    have e1 := congrArg (fun z : AlT => z.1) e
    have e2 := congrArg (fun z : AlT => z.2.1) e
    have e3 := congrArg (fun z : AlT => z.2.2) e
    have e2 : (((xs.all fun x => tabB (He.frG s.heap.get? (He.asD s.heap.get? n)) x) && decide (xs.map fun x => (tabP (He.frG s.heap.get? (He.asD s.heap.get? n)) x).2).Nodup) && (bs.all (fun b => biB (He.frG s.heap.get? (He.asD s.heap.get? n)) b.1 b.2) && ts.all fun t => tpB (He.frG s.heap.get? (He.asD s.heap.get? n)) t.1 t.2)) = true := e2
    rw [Bool.and_eq_true, Bool.and_eq_true, Bool.and_eq_true, List.all_eq_true, List.all_eq_true, List.all_eq_true, decide_eq_true_eq] at e2
    have e3 : (xs.map fun x => s.heap.get? (tabP (He.frG s.heap.get? (He.asD s.heap.get? n)) x).2) = xs.map fun _ => some (PySem.W.tabObj #[]) := e3
    exact ⟨_, ⟨⟨He.frG_in, e1, fun x hx => ⟨e2.1.1 x hx, List.map_inj_left.mp e3 x hx⟩, e2.1.2⟩, e2.2.1⟩, e2.2.2⟩
  keeps := fun w h h' ⟨K, S⟩ k => ⟨K, ⟨⟨PySem.W.Frag.In.keeps S.kin k, S.facts, fun x hx => ⟨(S.tab x hx).1, k _ _ (S.tab x hx).2⟩, S.nd⟩, S.bi⟩, S.tp⟩
theorem obsC_eq {n : Nat} {fa : List He.Fa} {fn : List He.DefD} {xs : List Str} {bs : List (Str × String)} {ts : List (Str × PyData)} {g : Addr → Option Obj} {s : Shared} (h : ∀ a, g a = s.heap.get? a) : obsC n fa fn xs bs ts g = (hookC n fa fn xs bs ts).obs s := by
  have e : g = s.heap.get? := funext h
  rw [e] <;> rfl
end DL

set_option Elab.async false
set_option linter.all false
set_option maxRecDepth 100000
set_option maxHeartbeats 2000000
set_option autoImplicit false
set_option exponentiation.threshold 10000
/-! zip of a list and a tuple; lcm -/
namespace DL
open PySem PySem.Spec PyProof.Rows L2
def ItzM (K : PySem.W.Frag) (a b : Addr) : It where
  go := fun i H => ∃ (xs ys : List V) (x y : V), SqL K H a xs ∧ SqT K H b ys ∧ xs[i]? = some x ∧ ys[i]? = some y
  yld := fun i H v H' => ∃ (q : Addr) (x y : V), v = .ref q ∧ H q = none ∧ H' = upd H q (.tup [x, y]) ∧ (∀ xs, SqL K H a xs → xs[i]? = some x) ∧ ∀ ys, SqT K H b ys → ys[i]? = some y
  stop := fun i H => ∃ xs ys : List V, SqL K H a xs ∧ SqT K H b ys ∧ i ≤ xs.length ∧ i ≤ ys.length ∧ (i = xs.length ∨ i = ys.length)
def SnM (a b z TI TO i1 i2 : Addr) (i : Nat) (h : Heap) : Prop := IsZip h z TI TO .none ∧ IsTupOf2 h TI (.ref i1) (.ref i2) ∧ (∃ x y, IsTupOf2 h TO x y) ∧ h.IsListIter i1 a i ∧ h.IsTupleIter i2 b i
theorem turn_zipM {P : Program} {w : World} {K : PySem.W.Frag} {elts : List Expr} {kk : Nat} {tpos : Pos} {a b z TI TO i1 i2 : Addr} (D : ZipSep2 z TI TO i1 i2 [i1, a] [i2, b]) :
    Turn P w K (.Tuple elts kk tpos) (ItzM K a b) [z, TI, TO, i1, i2] z (SnM a b z TI TO i1 i2) where
  mem := by simp
  obj := fun i h st c hc => by
    obtain ⟨hz, hTI, ⟨x, y, hTO⟩, ⟨o1, e1, _, d1⟩, ⟨o2, e2, _, d2⟩⟩ := st
    simp only [List.mem_cons, List.not_mem_nil, or_false] at hc
    rcases hc with rfl | rfl | rfl | rfl | rfl
    · exact ⟨_, hz, fun v q => nomatch q⟩
    · exact ⟨_, hTI, fun v q => nomatch q⟩
    · exact ⟨_, hTO, fun v q => nomatch q⟩
    · exact ⟨o1, e1, fun v q => by rw [d1] at q; cases q⟩
    · exact ⟨o2, e2, fun v q => by rw [d2] at q; cases q⟩
  keep := fun i h h' st k => ⟨k z (by simp) _ st.1, k TI (by simp) _ st.2.1, let ⟨x, y, q⟩ := st.2.2.1; ⟨x, y, k TO (by simp) _ q⟩, st.2.2.2.1.at fun o q => k i1 (by simp) o q, st.2.2.2.2.at fun o q => k i2 (by simp) o q⟩
  item := by
    intro X hP hw hK hc i pins s σ H E I hf st hg
    subst hP hw hK
    obtain ⟨hz, hTI, ⟨x0, y0, hTO⟩, h1, h2⟩ := st
    obtain ⟨xs, ys, x, y, hqx, hqy, hx, hy⟩ := hg
    obtain ⟨its, rv, pl, _⟩ := I.list hqx
    obtain ⟨its2, rv2, p2, _⟩ := I.tuple hqy
    have p := pl.isList
    obtain ⟨u, hu, ru⟩ := rv.get hx
    obtain ⟨u2, hu2, ru2⟩ := rv2.get hy
    have lt1 : i < its.toArray.size := by
      have := (List.getElem?_eq_some_iff.mp hu).1
      rw [List.size_toArray]; exact this
    have lt2 : i < its2.toArray.size := by
      have := (List.getElem?_eq_some_iff.mp hu2).1
      rw [List.size_toArray]; exact this
    have hai : a ≠ i1 := fun q => D.zf1 (by
      obtain ⟨o1, q1, c1, _⟩ := h1
      obtain ⟨o2, n2, q2, c2, _⟩ := pl
      rw [q, q1] at q2; cases q2; rw [c1] at c2; exact absurd c2 (by decide))
    have hbi : b ≠ i2 := fun q => D.zf2 (by
      obtain ⟨o1, q1, c1, _⟩ := h2
      obtain ⟨o2, q2, c2, _⟩ := p2
      rw [q, q1] at q2; cases q2; rw [c1] at c2; exact absurd c2 (by decide))
    have hd := I.ok.hd hc
    refine wpAny_pyNext_zipD2_item D (Draws.list (A := X.A.in1) hd i1 a hai its.toArray) (Draws.tuple (A := X.A.in1) hd i2 b hbi its2.toArray) hz hTI hTO ⟨h1, p⟩ ⟨h2, p2⟩ lt1 lt2 fun x1 x2 h' tk P1 P2 z' TO' s1 s2 hT hsz hk => ?_
    have ex1 : x1 = u := by
      have P1 : its.toArray[i]? = some x1 := P1
      rw [List.getElem?_toArray, hu] at P1
      exact (Option.some.inj P1).symm
    have ex2 : x2 = u2 := by
      have P2 : its2.toArray[i]? = some x2 := P2
      rw [List.getElem?_toArray, hu2] at P2
      exact (Option.some.inj P2).symm
    subst ex1 ex2
    have lz := Heap.lt_size hz
    refine ⟨_, rfl, wpAny_letOwnedTupleGo_zip (s := { s with heap := h', toks := tk }) z' fun h'' z'' sb => ?_⟩
    have old : ∀ c o, c ≠ z → c ≠ TO → c ≠ i1 → c ≠ i2 → s.heap.get? c = some o → h''.get? c = some o := fun c o n1 n2 n3 n4 q => (sb.2 c n1).trans (hk c o n1 n2 n3 n4 q)
    have new : ObjOk X.prog X.w (upd H s.heap.objs.size (.tup [x, y])) h'' s.heap.objs.size (.tup [x, y]) :=
      ⟨by show 2 ≤ sizeLine; decide, _, .cons ru (.cons ru2 .nil), ⟨_, (sb.2 _ (Nat.ne_of_gt lz)).trans hT, rfl, _, rfl⟩⟩
    have I1 := I.turnedNew (t' := tk) (ch := [z, TI, TO, i1, i2]) (fun c o hb q => old c o (fun e => hb (by simp [e])) (fun e => hb (by simp [e])) (fun e => hb (by simp [e])) (fun e => hb (by simp [e])) q) hf (Nat.le_refl _) new
    refine ⟨.ref s.heap.objs.size, _, I1, rfl, ⟨_, x, y, rfl, I.hok.fresh (Nat.le_refl _), rfl, fun l hl => by rw [I.list_inj hl hqx]; exact hx, fun l hl => by rw [I.tuple_inj hl hqy]; exact hy⟩, ⟨z'', old _ _ D.TIz D.TITO D.TIi1 D.TIi2 hTI, ⟨x1, x2, (sb.2 _ D.TOz).trans TO'⟩, s1.1.at fun o q => (sb.2 _ (Ne.symm D.zi1)).trans q, s2.1.at fun o q => (sb.2 _ (Ne.symm D.zi2)).trans q⟩, fun c hcm => ?_⟩
    have hlt : c < s.heap.objs.size := by
      simp only [List.mem_cons, List.not_mem_nil, or_false] at hcm
      rcases hcm with rfl | rfl | rfl | rfl | rfl
      · exact lz
      · exact Heap.lt_size hTI
      · exact Heap.lt_size hTO
      · obtain ⟨_, q, _⟩ := h1; exact Heap.lt_size q
      · obtain ⟨_, q, _⟩ := h2; exact Heap.lt_size q
    rw [upd_ne (Nat.ne_of_lt hlt)]
    exact (hf c hcm).1
  done := by
    intro X hP hw hK hc i pins s σ H E I hf st hg
    subst hP hw hK
    obtain ⟨hz, hTI, ⟨x0, y0, hTO⟩, h1, h2⟩ := st
    obtain ⟨xs, ys, hqx, hqy, l1, l2, l3⟩ := hg
    obtain ⟨its, rv, pl, _⟩ := I.list hqx
    obtain ⟨its2, rv2, p2, _⟩ := I.tuple hqy
    have p := pl.isList
    have hd := I.ok.hd hc
    have n1 := rv.length
    have n2 := rv2.length
    have hai : a ≠ i1 := fun q => D.zf1 (by
      obtain ⟨o1, q1, c1, _⟩ := h1
      obtain ⟨o2, n2, q2, c2, _⟩ := pl
      rw [q, q1] at q2; cases q2; rw [c1] at c2; exact absurd c2 (by decide))
    have hbi : b ≠ i2 := fun q => D.zf2 (by
      obtain ⟨o1, q1, c1, _⟩ := h2
      obtain ⟨o2, q2, c2, _⟩ := p2
      rw [q, q1] at q2; cases q2; rw [c1] at c2; exact absurd c2 (by decide))
    refine wpAny_pyNext_zipD2_end D (Draws.list (A := X.A.in1) hd i1 a hai its.toArray) (Draws.tuple (A := X.A.in1) hd i2 b hbi its2.toArray) hz hTI hTO ⟨h1, p⟩ ⟨h2, p2⟩ (by rw [List.size_toArray]; omega) (by rw [List.size_toArray]; omega) (by rw [List.size_toArray, List.size_toArray]; omega) fun h' tk hk => ⟨rfl, ?_⟩
    exact I.turnedL (t' := tk) (ch := [z, TI, TO, i1, i2]) (fun c o hb q => hk c o (fun e => hb (by simp [e])) (fun e => hb (by simp [e])) (fun e => hb (by simp [e])) (fun e => hb (by simp [e])) q) hf
  self := fun A i s Q E st h => wpAny_pyIter_zip st.1 h
def iZipM (K : PySem.W.Frag) (ta : TA) : TI := fun σ H R => ta σ H fun vs H1 => ∃ a b xs ys, vs = [.ref a, .ref b] ∧ SqL K H1 a xs ∧ SqT K H1 b ys ∧ R (ItzM K a b) H1
theorem pi_zipM {X : Cx} {e e2 : Expr} {ta : TA} {p pos tpos : Pos} {elts : List Expr} {kk : Nat} (hg : Gl X "zip") (hm : X.mg "zip" = none) (ha : PA X [e, e2] ta)
    (hs : starEach [e, e2] X.env = (false, eval e X.env) :: starEach [e2] X.env := by rfl) (hpl : (backTo pos (starEach [e2] X.env)).any (·.1) = false := by rfl) :
    PI X (.Tuple elts kk tpos) (.Call (.Name "zip" p) [e, e2] [] pos) (iZipM X.K ta) := by
  refine ⟨fun pins s σ H R I h => ?_⟩
  refine Call_ (ld_blt I hg hm PyProof.Rows.boot_zip (PyProof.Rows.callWith_type1 (thn (ha.run pos pins s σ H _ I h) fun us s1 ⟨vs, H1, I1, r1, q1⟩ => ?_) hs hpl))
  obtain ⟨a, b, xs, ys, ex, hqx, hqy, q⟩ := q1
  subst ex
  cases r1 with
  | cons r rr =>
    cases rr with
    | cons r' rr =>
      cases rr
      cases r
      cases r'
      obtain ⟨its, rv, pl, _⟩ := I1.list hqx
      obtain ⟨its2, rv2, p2, _⟩ := I1.tuple hqy
      have p1 := pl.isList
      have la : a < s1.heap.objs.size := pl.lt
      have lb : b < s1.heap.objs.size := by obtain ⟨_, q, _⟩ := p2; exact Heap.lt_size q
      refine zip_begins2 (begins_list a its.toArray) (begins_tuple b its2.toArray) p1 p2 fun h' hz hTI hTO e1 e2 hsz hk => wpAny_pyIter_zip hz ?_
      have I2 : Inv X pins σ H1 { s1 with heap := h' } := I1.kept (t' := s1.toks) hk
      have D := zip_sep2 (N := s1.heap.objs.size) (fp1 := [a]) (fp2 := [b]) (fun c hc => by rw [List.mem_singleton.mp hc]; exact la) (fun c hc => by rw [List.mem_singleton.mp hc]; exact lb)
      refine ⟨_, [s1.heap.objs.size + 4, s1.heap.objs.size + 2, s1.heap.objs.size + 3, s1.heap.objs.size, s1.heap.objs.size + 1], _, _, H1, rfl, I2, turn_zipM D, ⟨hz, hTI, ⟨_, _, hTO⟩, ⟨_, e1, rfl, rfl⟩, ⟨_, e2, rfl, rfl⟩⟩, fun c hcm => ?_, q⟩
      have hle : s1.heap.objs.size ≤ c := by
        simp only [List.mem_cons, List.not_mem_nil, or_false] at hcm
        rcases hcm with e | e | e | e | e <;> rw [e] <;> omega
      exact I1.fpOk hle (I1.hok.fresh hle)
section
variable {X : Cx} {K : Kx} {E : XK} {a b : Expr} {ta : TA} {ga : GA} {pos : Pos}
theorem wk_zipM {F : PySem.W.Frag} (hKF : K.F = F) {G1 : Hp} {a b : Addr} {xs ys : List V} {ds es : List PyData} (h : G1 a = some (.lst xs)) (r : RpL K G1 xs ds) (h' : TupAt K.F G1 b ys) (r' : RpL K G1 ys es) : Wk K (ItzM F a b) G1 (zipD ds es) := by
  intro c H G cu k w
  have hA : SqL F H a xs := SqL.of (w.sub _ _ (k _ _ h))
  have hB : SqT F H b ys := TupAt.sq' hKF ((h'.mono k).mono w.sub)
  have n1 := r.length
  have n2 := r'.length
  refine ⟨fun i d e => ?_, ⟨xs, ys, hA, hB, by rw [zipD_length]; omega, by rw [zipD_length]; omega, by rw [zipD_length]; omega⟩⟩
  obtain ⟨x, y, e1, e2, rfl⟩ := zipD_get e
  obtain ⟨v, e1, rv⟩ := r.get e1
  obtain ⟨u, e2, ru⟩ := r'.get e2
  refine ⟨⟨xs, ys, v, u, hA, hB, e1, e2⟩, fun z H' y => ?_⟩
  obtain ⟨T, x1, x2, rfl, hT, rfl, f1, f2⟩ := y
  obtain rfl : v = x1 := Option.some.inj (e1.symm.trans (f1 xs hA))
  obtain rfl : u = x2 := Option.some.inj (e2.symm.trans (f2 ys hB))
  obtain ⟨n1, n2⟩ := w.new (o := .tup [v, u]) hT
  exact ⟨_, n1, n2, .tup upd_same (RpL.upd (.cons (rv.mono k) (.cons (ru.mono k) .nil)) (w.gp hT))⟩
def dZipM : List PyData → Option (List PyData)
  | [.list xs, .tuple ys] => some (zipD xs ys)
  | _ => none
theorem pid_zipM {elts : List Expr} {kk : Nat} {tpos p : Pos} (hg : Gl X "zip") (hm : X.mg "zip" = none) (ha : PAD X K E [a, b] ta ga) (hs : starEach [a, b] X.env = (false, eval a X.env) :: starEach [b] X.env := by rfl) (hpl : (backTo pos (starEach [b] X.env)).any (·.1) = false := by rfl) (hKF : K.F = X.K := by assumption) :
    PID X K E (.Tuple elts kk tpos) (.Call (.Name "zip" p) [a, b] [] pos) (iZipM X.K ta) (giArg dZipM ga) := by
  refine ⟨pi_zipM hg hm ha.pa hs hpl, fun c H0 G0 σ H G ρ cu R s q => ?_⟩
  refine ha.sem c H0 G0 σ H G ρ cu _ s (q.bind.imp fun as H1 G1 cu1 x1 w1 q1 vs rvs => ?_)
  obtain ⟨items, ez, q2⟩ := q1.ofO
  cases e : dats as with
  | none => rw [e] at ez; cases ez
  | some ds =>
    rw [e] at ez
    have ez : dZipM ds = some items := ez
    have r := dats_rp rvs e
    unfold dZipM at ez
    split at ez
    · cases ez
      obtain ⟨v, w, rfl, rv, rw'⟩ := r.two
      obtain ⟨a, xs, rfl, ha, ra⟩ := rv.lst_of
      obtain ⟨b, ys, rfl, hb, rb⟩ := rw'.tup_of
      exact ⟨a, b, xs, ys, rfl, SqL.of (w1.sub _ _ ha), TupAt.sq' hKF (TupAt.mono w1.sub hb), q2 H1 G1 Ext.refl w1 _ (wk_zipM hKF ha ra hb rb)⟩
    · cases ez
/-! lcm -/
def rLcm : List V → Hp → VK → Prop := fun vs H Q => ∃ a b : Int, vs = [.int a, .int b] ∧ a.natAbs < 2 ^ 4000 ∧ b.natAbs < 2 ^ 4000 ∧ Q (.int ((Nat.lcm a.natAbs b.natAbs : Nat) : Int)) H
theorem cr_lcm : CallR X (.builtin "math.lcm") rLcm := by
  intro pins s σ H vs us Q I r h
  obtain ⟨a, b, rfl, ha, hb, q⟩ := h
  obtain ⟨t, u, rfl⟩ := Vals.int2 r
  have hp : (1 : Nat) < 2 ^ 4000 := Nat.one_lt_two_pow (by decide)
  have h1 : (max 1 a.natAbs).log2 ≤ 3999 := PySem.W.mg_log (by omega)
  have h2 : (max a.natAbs b.natAbs).log2 ≤ 3999 := PySem.W.mg_log (by omega)
  have h3 : (Nat.lcm a.natAbs b.natAbs) < 2 ^ 8000 := by
    have e1 : Nat.lcm a.natAbs b.natAbs ≤ a.natAbs * b.natAbs := Nat.div_le_self _ _
    have e2 : a.natAbs * b.natAbs < 2 ^ 4000 * 2 ^ 4000 := Nat.mul_lt_mul'' ha hb
    rw [← Nat.pow_add] at e2
    exact Nat.lt_of_le_of_lt e1 e2
  have e0 : (Nat.lcm 1 a.natAbs) = a.natAbs := Nat.lcm_one_left _
  have h4 : ((((Nat.lcm 1 a.natAbs).lcm b.natAbs : Nat) : Int)).natAbs.log2 < bitsLine := by
    rw [e0, Int.natAbs_natCast]
    have := PySem.W.mg_log (k := 7999) h3
    have hl : (8000 : Nat) < bitsLine := by decide
    omega
  have g := PySem.W.mg_run_lcm a t b u (by omega) (by omega) h4
  rw [e0] at g
  exact call_function_meets PySem.W.MGF.kind_lcm PySem.W.MGF.plain_lcm PySem.W.MGF.entry_lcm (PySem.W.MGF.args_lcm _ _) g.meets ⟨.int _, H, I.tok _, ⟨_, rfl⟩, q⟩
def dLcm : List PyData → Option PyData
  | [.int a, .int b] => if a.natAbs < 2 ^ 4000 ∧ b.natAbs < 2 ^ 4000 then some (.int ((Nat.lcm a.natAbs b.natAbs : Nat) : Int)) else none
  | _ => none
theorem callD_lcm : CallD K rLcm dLcm := by
  intro c H G cu vs ds z Q wd r hz q
  unfold dLcm at hz
  split at hz
  · rename_i a b
    split at hz
    · rename_i hh
      cases hz
      cases r with
      | cons h r =>
        obtain ⟨v, rfl, rv⟩ := r.one
        rw [h.int_of, rv.int_of]
        exact ⟨a, b, rfl, hh.1, hh.2, q _ H G Ext.refl wd (.int _)⟩
    · cases hz
  · cases hz
end
end DL

set_option Elab.async false
set_option linter.all false
set_option maxRecDepth 100000
set_option autoImplicit false
/-! reckonings piece by piece -/
namespace DL
open PySem PySem.Spec PyProof.Rows L2
section
variable {ρ ρ1 ρ2 ρ3 : En} {cu cu1 cu2 cu3 cu4 : Cu} {a b c d e z : PyData} {ga gb gc g : GE} {f f' : PyData → PyData → Option PyData} {h : PyData → Option PyData} {fl : List PyData → Option PyData} {fi : List PyData → Option (List PyData)}
  {ra rb : GA} {as bs : List Sl} {ds es items : List PyData} {gt gu : GT} {s s' : GS} {k k' : Bool} {o : Ou} {gi : GI} {gg : GG} {F : GF} {n i j : Nat} {q q' : GO} {lo hi : Option Int}
theorem kVar (hv : ρ[i]? = some (Sl.dat d)) : gVar i ρ cu = .ok d cu := by unfold gVar; rw [hv]
theorem kC : gC d ρ cu = .ok d cu := rfl
theorem kBin (ha : ga ρ cu = .ok a cu1) (hb : gb ρ cu1 = .ok b cu2) (hf : f a b = some z) : gBin f ga gb ρ cu = .ok z cu2 := by
  unfold gBin; rw [ha, Rs.bind_ok, hb, Rs.bind_ok, hf, Rs.ofO_some]
theorem kUn (ha : ga ρ cu = .ok a cu1) (hf : h a = some z) : gUn h ga ρ cu = .ok z cu1 := by
  unfold gUn; rw [ha, Rs.bind_ok, hf, Rs.ofO_some]
theorem aN : gaNil ρ cu = .ok [] cu := rfl
theorem aC (ha : ga ρ cu = .ok a cu1) (hr : ra ρ cu1 = .ok as cu2) : gaCons ga ra ρ cu = .ok (.dat a :: as) cu2 := by
  unfold gaCons; rw [ha, Rs.bind_ok, hr, Rs.bind_ok]
theorem aCup (hv : ρ[i]? = some Sl.cup) (hr : ra ρ cu = .ok as cu2) : gaCup i ra ρ cu = .ok (.cup :: as) cu2 := by
  unfold gaCup; rw [hv]; dsimp only; rw [hr, Rs.bind_ok]
theorem kApp (ha : ra ρ cu = .ok as cu1) (hf : F as cu1 = .ok d cu2) (hn : as.length = n := by rfl) : gApp n F ra ρ cu = .ok d cu2 := by
  unfold gApp; rw [ha, Rs.bind_ok, if_pos hn, hf]
theorem kCall (ha : ra ρ cu = .ok as cu1) (hf : fl ds = some z) (hd : dats as = some ds := by rfl) : gCall fl ra ρ cu = .ok z cu1 := by
  unfold gCall; rw [ha, Rs.bind_ok, hd, Option.bind_some, hf, Rs.ofO_some]
theorem kDisp {mk : List PyData → PyData} (ha : ra ρ cu = .ok as cu1) (hd : dats as = some ds := by rfl) (hl : ds.length ≤ 16777216 := by decide) : gDisp mk ra ρ cu = .ok (mk ds) cu1 := by
  unfold gDisp; rw [ha, Rs.bind_ok, hd, Option.bind_some, if_pos hl, Rs.ofO_some]
theorem tBool (ha : ga ρ cu = .ok (.bool k) cu1) : gBool ga ρ cu = .ok k cu1 := by
  unfold gBool; rw [ha, Rs.bind_ok, dBool_bl, Rs.ofO_some]
theorem tTru (ha : ga ρ cu = .ok a cu1) (hk : dTru a = some k) : gTru ga ρ cu = .ok k cu1 := by
  unfold gTru; rw [ha, Rs.bind_ok, hk, Rs.ofO_some]
theorem tNot (ha : gt ρ cu = .ok k cu1) : gNot gt ρ cu = .ok (!k) cu1 := by
  unfold gNot; rw [ha, Rs.bind_ok]
theorem tOrT (ha : gt ρ cu = .ok true cu1) : gOr gt gu ρ cu = .ok true cu1 := by
  unfold gOr; rw [ha, Rs.bind_ok, if_pos rfl]
theorem tOrF (ha : gt ρ cu = .ok false cu1) (hb : gu ρ cu1 = .ok k cu2) : gOr gt gu ρ cu = .ok k cu2 := by
  unfold gOr; rw [ha, Rs.bind_ok, if_neg Bool.false_ne_true, hb]
theorem tAndF (ha : gt ρ cu = .ok false cu1) : gAnd gt gu ρ cu = .ok false cu1 := by
  unfold gAnd; rw [ha, Rs.bind_ok, if_neg Bool.false_ne_true]
theorem tAndT (ha : gt ρ cu = .ok true cu1) (hb : gu ρ cu1 = .ok k cu2) : gAnd gt gu ρ cu = .ok k cu2 := by
  unfold gAnd; rw [ha, Rs.bind_ok, if_pos rfl, hb]
theorem kAndT (ha : ga ρ cu = .ok (.bool true) cu1) (hb : gb ρ cu1 = .ok b cu2) : gAndV ga gb ρ cu = .ok b cu2 := by
  unfold gAndV; rw [ha, Rs.bind_ok, dBool_bl, Rs.ofO_some, Rs.bind_ok, if_pos rfl, hb]
theorem kAndF (ha : ga ρ cu = .ok (.bool false) cu1) : gAndV ga gb ρ cu = .ok (.bool false) cu1 := by
  unfold gAndV; rw [ha, Rs.bind_ok, dBool_bl, Rs.ofO_some, Rs.bind_ok, if_neg Bool.false_ne_true]
theorem kOrT (ha : ga ρ cu = .ok (.bool true) cu1) : gOrV ga gb ρ cu = .ok (.bool true) cu1 := by
  unfold gOrV; rw [ha, Rs.bind_ok, dBool_bl, Rs.ofO_some, Rs.bind_ok, if_pos rfl]
theorem kOrF (ha : ga ρ cu = .ok (.bool false) cu1) (hb : gb ρ cu1 = .ok b cu2) : gOrV ga gb ρ cu = .ok b cu2 := by
  unfold gOrV; rw [ha, Rs.bind_ok, dBool_bl, Rs.ofO_some, Rs.bind_ok, if_neg Bool.false_ne_true, hb]
theorem kNotV (ha : ga ρ cu = .ok (.bool k) cu1) : gNotV ga ρ cu = .ok (.bool (!k)) cu1 := by
  unfold gNotV; rw [ha, Rs.bind_ok, dBool_bl, Rs.ofO_some, Rs.bind_ok]
theorem kIsi {T : String} (ha : ga ρ cu = .ok a cu1) (hk : isiOf T a = some k) : gIsi T ga ρ cu = .ok (.bool k) cu1 := by
  unfold gIsi; rw [ha, Rs.bind_ok, hk, Option.map_some, Rs.ofO_some]
theorem kIfT (ht : gt ρ cu = .ok true cu1) (ha : ga ρ cu1 = .ok a cu2) : gIfE gt ga gb ρ cu = .ok a cu2 := by
  unfold gIfE; rw [ht, Rs.bind_ok, if_pos rfl, ha]
theorem kIfF (ht : gt ρ cu = .ok false cu1) (ha : gb ρ cu1 = .ok a cu2) : gIfE gt ga gb ρ cu = .ok a cu2 := by
  unfold gIfE; rw [ht, Rs.bind_ok, if_neg Bool.false_ne_true, ha]
theorem kChain2 (ha : ga ρ cu = .ok a cu1) (hb : gb ρ cu1 = .ok b cu2) (hf : (f a b).bind dBool = some true) (hc : gc ρ cu2 = .ok c cu3) (hf' : f' b c = some z) : gChain f f' ga gb gc ρ cu = .ok z cu3 := by
  unfold gChain; rw [ha, Rs.bind_ok, hb, Rs.bind_ok, hf, Rs.ofO_some, Rs.bind_ok, if_pos rfl, hc, Rs.bind_ok, hf', Rs.ofO_some]
theorem kSlice (ha : ga ρ cu = .ok a cu1) (hq : q ρ cu1 = .ok lo cu2) (hq' : q' ρ cu2 = .ok hi cu3) (hz : dCut a lo hi = some z) : gSlice ga q q' ρ cu = .ok z cu3 := by
  unfold gSlice; rw [ha, Rs.bind_ok, hq, Rs.bind_ok, hq', Rs.bind_ok, hz, Rs.ofO_some]
theorem oN : gNoPart ρ cu = .ok none cu := rfl
theorem oI {x : Int} (ha : ga ρ cu = .ok (.int x) cu1) : gPart ga ρ cu = .ok (some x) cu1 := by
  unfold gPart; rw [ha, Rs.bind_ok]; rfl
theorem kLst (hg : gi ρ cu = .ok ds cu1) : gL gi ρ cu = .ok (.list ds) cu1 := by
  unfold gL; rw [hg, Rs.bind_ok]
theorem kLc {vs : List Nat} {ge : GE} (hi : gi ρ cu = .ok items cu1) (hl : items.length < 16777216) (hc : gLcL gg gt ge items (wipeE ρ vs) cu1 = .ok ds cu2) : gLc gi vs gg gt ge ρ cu = .ok ds cu2 := by
  unfold gLc; rw [hi, Rs.bind_ok, if_pos hl, hc]
theorem iArg (ha : ra ρ cu = .ok as cu1) (hf : fi ds = some es) (hd : dats as = some ds := by rfl) : giArg fi ra ρ cu = .ok es cu1 := by
  unfold giArg; rw [ha, Rs.bind_ok, hd, Option.bind_some, hf, Rs.ofO_some]
theorem iLst (ha : ga ρ cu = .ok (.list ds) cu1) : giLst ga ρ cu = .ok ds cu1 := by
  unfold giLst; rw [ha, Rs.bind_ok]; rfl
theorem iTup (ha : ga ρ cu = .ok (.tuple ds) cu1) : giTup ga ρ cu = .ok ds cu1 := by
  unfold giTup; rw [ha, Rs.bind_ok]; rfl
/-! rows -/
theorem rSet (ha : ga ρ cu = .ok a cu1) : gSet i ga ρ cu = .ok (.nx (ρ.set i (.dat a))) cu1 := by
  unfold gSet; rw [ha, Rs.bind_ok]
theorem rSetO (ha : gi ρ cu = .ok ds cu1) : gSetO i gi ρ cu = .ok (.nx (ρ.set i (.own ds))) cu1 := by
  unfold gSetO; rw [ha, Rs.bind_ok]
theorem rSeq (ha : s ρ cu = .ok (.nx ρ1) cu1) (hb : s' ρ1 cu1 = .ok o cu2) : gSeq s s' ρ cu = .ok o cu2 := by
  unfold gSeq; rw [ha, Rs.bind_ok]; exact hb
theorem rSeqR (ha : s ρ cu = .ok (.ret d) cu1) : gSeq s s' ρ cu = .ok (.ret d) cu1 := by
  unfold gSeq; rw [ha, Rs.bind_ok]
theorem rRet (ha : ga ρ cu = .ok a cu1) : gRet ga ρ cu = .ok (.ret a) cu1 := by
  unfold gRet; rw [ha, Rs.bind_ok]
theorem rDrop (ha : ga ρ cu = .ok a cu1) : gDrop ga ρ cu = .ok (.nx ρ) cu1 := by
  unfold gDrop; rw [ha, Rs.bind_ok]
theorem rIfT (ht : gt ρ cu = .ok true cu1) (ha : s ρ cu1 = .ok o cu2) : gIf gt s s' ρ cu = .ok o cu2 := by
  unfold gIf; rw [ht, Rs.bind_ok, if_pos rfl, ha]
theorem rIfF (ht : gt ρ cu = .ok false cu1) (ha : s' ρ cu1 = .ok o cu2) : gIf gt s s' ρ cu = .ok o cu2 := by
  unfold gIf; rw [ht, Rs.bind_ok, if_neg Bool.false_ne_true, ha]
theorem rSkip : gSkip ρ cu = .ok (.nx ρ) cu := rfl
theorem rAsg (ha : ga ρ cu = .ok a cu1) (hg : gg a ρ = some ρ1) : gAsg ga gg ρ cu = .ok (.nx ρ1) cu1 := by
  unfold gAsg; rw [ha, Rs.bind_ok, hg, Rs.ofO_some, Rs.bind_ok]
theorem rPar (ha : ra ρ cu = .ok [.dat a, .dat b] cu1) : gPar i j ra ρ cu = .ok (.nx ((ρ.set i (.dat a)).set j (.dat b))) cu1 := by
  unfold gPar; rw [ha, Rs.bind_ok]
theorem rFor (hi : gi ρ cu = .ok items cu1) (hf : gForL gg s items ρ cu1 = .ok o cu2) : gFor gi gg s ρ cu = .ok o cu2 := by
  unfold gFor; rw [hi, Rs.bind_ok, hf]
theorem rForN : gForL gg s [] ρ cu = .ok (.nx ρ) cu := rfl
theorem rForC (hg : gg d ρ = some ρ1) (hb : s ρ1 cu = .ok (.nx ρ2) cu1) (hr : gForL gg s items ρ2 cu1 = .ok o cu2) : gForL gg s (d :: items) ρ cu = .ok o cu2 := by
  rw [gForL_cons, hg, Rs.ofO_some, Rs.bind_ok, hb, Rs.bind_ok]; exact hr
theorem rFrz (hv : ρ[i]? = some (Sl.own ds)) (hs : s (ρ.set i (.dat (.list ds))) cu = .ok o cu1) : gFrz i s ρ cu = .ok o cu1 := by
  unfold gFrz; rw [hv]; exact hs
theorem rApd (hv : ρ[i]? = some (Sl.own ds)) (ha : ga ρ cu = .ok a cu1) (hl : ds.length < 16777216) : gApd i ga ρ cu = .ok (.nx (ρ.set i (.own (ds ++ [a])))) cu1 := by
  unfold gApd; rw [hv]; dsimp only; rw [ha, Rs.bind_ok, if_pos hl]
theorem rAug (hv : ρ[i]? = some (Sl.dat d)) (ha : ga ρ cu = .ok a cu1) (hf : f d a = some z) : gAug i f ga ρ cu = .ok (.nx (ρ.set i (.dat z))) cu1 := by
  unfold gAug
  first
    | (rw [hv]; dsimp only; rw [ha, Rs.bind_ok, hf, Rs.ofO_some, Rs.bind_ok])
    | (simp only [gVar, hv, ha, hf, Rs.bind_ok, Rs.ofO_some])
theorem kFn {gs : GS} (hg : gs (as ++ List.replicate (n - as.length) .un) cu = .ok (.ret d) cu1) : gFn n gs as cu = .ok d cu1 := by
  unfold gFn; rw [hg]; rfl
theorem kFnN {gs : GS} (hg : gs (as ++ List.replicate (n - as.length) .un) cu = .ok (.nx ρ1) cu1) : gFn n gs as cu = .ok .none cu1 := by
  unfold gFn; rw [hg]; rfl
theorem rWhileF (ht : gt ρ cu = .ok false cu1) : gWhileF gt s (n + 1) ρ cu = .ok (.nx ρ) cu1 := by
  show ((gt ρ cu).bind _) = _
  rw [ht, Rs.bind_ok, if_neg Bool.false_ne_true]
theorem rWhileT (ht : gt ρ cu = .ok true cu1) (hb : s ρ cu1 = .ok (.nx ρ1) cu2) (hw : gWhileF gt s n ρ1 cu2 = .ok o cu3) : gWhileF gt s (n + 1) ρ cu = .ok o cu3 := by
  show ((gt ρ cu).bind _) = _
  rw [ht, Rs.bind_ok, if_pos rfl, hb, Rs.bind_ok]
  exact hw
theorem kLenO (hv : ρ[i]? = some (Sl.own ds)) : gLenO i ρ cu = .ok (.int ds.length) cu := by unfold gLenO; rw [hv]
theorem kIxO (hv : ρ[i]? = some (Sl.own ds)) (ha : ga ρ cu = .ok a cu1) (hz : dIx (.list ds) a = some z) : gIxO i ga ρ cu = .ok z cu1 := by
  unfold gIxO; rw [hv]; dsimp only; rw [ha, Rs.bind_ok, hz, Rs.ofO_some]
theorem rStO (hv : ρ[i]? = some (Sl.own ds)) (ha : ga ρ cu = .ok a cu1) (hb : gb ρ cu1 = .ok b cu2) (hx : ixO ds b a = some es) : gStO i ga gb ρ cu = .ok (.nx (ρ.set i (.own es))) cu2 := by
  unfold gStO; rw [hv]; dsimp only; rw [ha, Rs.bind_ok, hb, Rs.bind_ok, hx, Rs.ofO_some, Rs.bind_ok]
theorem rAugO (hv : ρ[i]? = some (Sl.own ds)) (ha : ga ρ cu = .ok a cu1) (hx : dIx (.list ds) a = some c) (hb : gb ρ cu1 = .ok b cu2) (hf : f c b = some d) (hy : ixO ds a d = some es) : gAugO i f ga gb ρ cu = .ok (.nx (ρ.set i (.own es))) cu2 := by
  unfold gAugO; rw [hv]; dsimp only; rw [ha, Rs.bind_ok, hx, Rs.ofO_some, Rs.bind_ok, hb, Rs.bind_ok, hf, Rs.ofO_some, Rs.bind_ok, hy, Rs.ofO_some, Rs.bind_ok]
theorem iRep (ha : ga ρ cu = .ok a cu1) (hb : gb ρ cu1 = .ok b cu2) (hx : repL a b = some ds) : gfRep ga gb ρ cu = .ok ds cu2 := by
  unfold gfRep; rw [ha, Rs.bind_ok, hb, Rs.bind_ok, hx, Rs.ofO_some]
theorem iDisp (ha : ra ρ cu = .ok as cu1) (hd : dats as = some ds := by rfl) (hl : ds.length ≤ 16777216 := by decide) : gfDisp ra ρ cu = .ok ds cu1 := by
  unfold gfDisp
  rw [ha, Rs.bind_ok, hd]
  first
    | rw [Option.bind_some, if_pos hl, Rs.ofO_some]
    | (dsimp only; rw [if_pos hl])
    | simp [hl, Rs.ofO_some]
end
/-! items -/
theorem dIxT {l : List Int} {i : Nat} (hi : i < l.length) : dIx (tupI l) (.int (i : Int)) = some (.int l[i]) := by
  rw [dIx_tup]
  exact atI_nat (by rw [List.getElem?_map, List.getElem?_eq_getElem hi]; rfl)
theorem dIxL {l : List Int} {i : Nat} (hi : i < l.length) : dIx (lstI l) (.int (i : Int)) = some (.int l[i]) := by
  rw [dIx_lst]
  exact atI_nat (by rw [List.getElem?_map, List.getElem?_eq_getElem hi]; rfl)
theorem ixN_nat {n i : Nat} (hi : i < n) : ixN n (i : Int) = some i := by
  unfold ixN
  split <;> first | omega | simp_all
theorem ixO_int {l : List Int} {i : Nat} {x : Int} (hi : i < l.length) : ixO (l.map .int) (.int (i : Int)) (.int x) = some ((l.set i x).map .int) := by
  show (ixN (l.map PyData.int).length (i : Int)).map _ = _
  rw [List.length_map, ixN_nat hi, Option.map_some, List.map_set]
end DL

set_option Elab.async false
set_option linter.all false
set_option maxRecDepth 100000
set_option maxHeartbeats 2000000
set_option autoImplicit false
/-! divmod -/
namespace DL
open PySem PySem.Spec PyProof.Rows L2
section
variable {X : Cx} {K : Kx}
theorem bb_divmod : bootBuiltins "divmod" = some (.builtin "divmod") := by decide +kernel
def rDm (xs : List V) (H : Hp) (Q : VK) : Prop := ∃ i j, xs = [.int i, .int j] ∧ divOk i j = true ∧ ∀ p, H p = none → Q (.ref p) (upd H p (.tup [.int (i.fdiv j), .int (i.fmod j)]))
theorem call_dm : CallR X (.builtin "divmod") rDm := by
  intro pins s σ H xs us Q I r h
  obtain ⟨i, j, rfl, hc, q⟩ := h
  unfold divOk at hc
  rw [Bool.and_eq_true, decide_eq_true_eq, decide_eq_true_eq] at hc
  obtain ⟨u, w', rfl, ⟨t, rfl⟩, ⟨t', rfl⟩⟩ := vals2 r
  refine divmod_int hc.1 ?_ (.inl (PyProof.noPylong_of_log2 hc.2))
  have hn : H s.heap.objs.size = none := I.hok.fresh (Nat.le_refl _)
  refine ⟨.ref s.heap.objs.size, _, ?_, rfl, q _ hn⟩
  refine I.laid (fun b o e => Heap.get?_push_of_some _ e) (Nat.le_refl _) ⟨by simp only [List.length_cons, List.length_nil]; rw [sizeLine_eq]; decide, [.int (i.fdiv j) s.toks, .int (i.fmod j) (s.toks + 1)], .cons ⟨_, rfl⟩ (.cons ⟨_, rfl⟩ .nil), ?_⟩
  exact ⟨_, Heap.get?_push_size s.heap rfl, rfl, 0, rfl⟩
def dDm : List PyData → Option PyData
  | [.int i, .int j] => if divOk i j = true then some (.tuple [.int (i.fdiv j), .int (i.fmod j)]) else none
  | _ => none
theorem callD_dm : CallD K rDm dDm := by
  intro c H G cu vs ds z Q wd r hz q
  unfold dDm at hz
  split at hz
  · split at hz
    · rename_i i j hc
      cases hz
      cases r with
      | cons h r =>
        obtain ⟨v, rfl, rv⟩ := r.one
        rw [h.int_of, rv.int_of]
        exact ⟨i, j, rfl, hc, fun p hp => new_tup wd (.cons (.int _) (.cons (.int _) .nil)) q hp⟩
    · cases hz
  · cases hz
theorem dDm_int {i j : Int} (h : divOk i j = true) : dDm [.int i, .int j] = some (.tuple [.int (i.fdiv j), .int (i.fmod j)]) := if_pos h
end
end DL

set_option Elab.async false
set_option linter.all false
set_option maxRecDepth 100000
set_option maxHeartbeats 2000000
set_option autoImplicit false
/-! a new list by a comprehension, one's own; any of a list of integers; range down -/
namespace DL
open PySem PySem.Spec PyProof.Rows L2
section
variable {X : Cx} {K : Kx} {E : XK} {a b c e iter tg elt : Expr} {es ifs : List Expr} {te : TE} {ge : GE} {tt : TT} {gt : GT} {ta : TA} {ga : GA} {pos : Pos}
theorem psd_lcSetO {i : Nat} {y : Str} {py spos : Pos} {scope : Scope} {own : List (Str × Nat)} {wi : TI} {gi : GI} {gg : GG} {ws : List Nat} (hc : X.calm = true) (hN : X.N.Nodup) (hy : X.N[i]? = some y) (hyl : X.env.scope.names.lookup y = some .local)
    (hsw : swapsWith (.ListComp elt [⟨tg, iter, ifs, 0⟩] scope pos) (some (.Name y py)) spos.line X.env = pure true) (hi : PID X K E tg iter wi gi) (ok : BlkOk X.N X.env.scope scope own)
    (hg : ∀ (s : Shared) (H : Hp) (C : Addr) (cl : List (Str × Addr)) (fp : List Addr), ∃ t1, PGD (X.blk s H scope (compEnvC scope cl C X.env) fp) K tg t1 gg ws)
    (ht : ∀ (s : Shared) (H : Hp) (C : Addr) (cl : List (Str × Addr)) (fp : List Addr), ∃ tt, PTsD (X.blk s H scope (compEnvC scope cl C X.env) fp) K E0 ifs tt gt)
    (he : ∀ (s : Shared) (H : Hp) (C : Addr) (cl : List (Str × Addr)) (fp : List Addr), ∃ te, PD (X.blk s H scope (compEnvC scope cl C X.env) fp) K E0 elt te ge)
    (hw : ∀ j ∈ ws, j ∈ own.map (·.2) := by decide) (hs : ∀ x, foldedSetIterable iter X.env x = pure x := by intro _; rfl) :
    PSD X K E (.Assign [.Name y py] (.ListComp elt [⟨tg, iter, ifs, 0⟩] scope pos) spos) (tAsg (tLc wi (tgOf K gg ws) (ttOf K E0 gt) (tOf K E0 ge) (own.map (·.2))) (gName i)) (gSetO i (gLc gi (own.map (·.2)) gg gt ge)) :=
  ⟨ps_setLc hc hN hy hyl hsw hi.pi ok (fun s H C cl fp => let ⟨_, h⟩ := hg s H C cl fp; h.canon) (fun s H C cl fp => let ⟨_, h⟩ := ht s H C cl fp; h.canon) (fun s H C cl fp => let ⟨_, h⟩ := he s H C cl fp; h.canon) hs,
    sem_setO (sem_lc hi.sem (semG_of K gg ws) hw (semT_of K E0 gt) (sem_of K E0 ge))⟩
theorem truth_ints {prog : Program} {w : World} {A : Around} {ns : List Int} {its : List Value} (e : IntsAre its ns) :
    TruthOf prog w A (fun i v => its.toArray[i]? = some v) (fun i => ns.getD i 0 != 0) := fun i v s Q E hv hq => by
  have hv' : its[i]? = some v := by simpa using hv
  obtain ⟨t, rfl⟩ := e.int_at i v hv'
  exact PySem.P.truthy_int hq
theorem any_rangeI : ∀ ns : List Int, (List.range ns.length).any (fun i => ns.getD i 0 != 0) = ns.any (· != 0)
  | [] => rfl
  | n :: ns => by
    rw [List.length_cons, List.range_succ_eq_map, List.any_cons, List.any_map, List.any_cons, ← any_rangeI ns]
    all_goals rfl
def rAnyI (K : PySem.W.Frag) : List V → Hp → VK → Prop := fun vs H Q => ∃ (a : Addr) (ns : List Int), vs = [V.ref a] ∧ SqL K H a (ns.map V.int) ∧ Q (.bl (ns.any (· != 0))) H
theorem cr_anyI (hc : X.calm = true) : CallR X (.builtin "any") (rAnyI X.K) := by
  intro pins s σ H vs us Q I r h
  obtain ⟨a, bs, rfl, hs, q⟩ := h
  obtain ⟨its, rv, hl, _⟩ := I.list hs
  rw [Vals.ref1 r]
  have hb := rv.ints
  refine call_any_walk (iter_any hl.isList fun s₂ e2 st hne => ?_)
  subst e2
  refine ⟨_, _, _, _, _, _, _, rfl, Walks.list (A := X.A.in1) (I.ok.hd hc) _ a hne its.toArray, st, truth_ints hb, fun h' tk hk => ?_⟩
  refine ⟨.bl _, H, I.kept fun b o eo => hk b o (fun hmem => ?_) (Heap.get?_push_of_some _ eo), ?_, q⟩
  · rcases List.mem_cons.mp hmem with e1 | hmem
    · exact absurd (e1 ▸ Heap.lt_size eo) (Nat.lt_irrefl _)
    · cases hmem
  · show Value.bool _ = Value.bool _
    have hl : its.length = bs.length := by have := rv.length; rw [List.length_map] at this; exact this.symm
    rw [← any_rangeI, List.size_toArray, hl]
def dAnyI : List PyData → Option PyData
  | [.list ds] => (intsD ds).map fun ns => .bool (ns.any (· != 0))
  | _ => none
theorem callD_anyI : CallD K (rAnyI X.K) dAnyI := by
  intro c H G cu vs ds z Q wd r hz q
  unfold dAnyI at hz
  split at hz
  · rename_i es
    obtain ⟨v, rfl, rv⟩ := r.one
    obtain ⟨a, xs, rfl, ha, ra⟩ := rv.lst_of
    cases ei : intsD es with
    | none => rw [ei] at hz; cases hz
    | some ns =>
      rw [ei] at hz
      cases hz
      refine ⟨a, ns, rfl, ?_, q _ H G Ext.refl wd (.bl _)⟩
      rw [← ints_rp ra ei]
      exact SqL.of (wd.sub _ _ ha)
  · cases hz
theorem bb_any : bootBuiltins "any" = some (.builtin "any") := by decide +kernel
/-- lo, lo - 1, .. (n of them) -/
def dwnD (lo : Int) (n : Nat) : List PyData := (List.range n).map fun (i : Nat) => .int (lo + (i : Int) * -1)
theorem wk_dwn {G1 : Hp} (lo : Int) (n : Nat) : Wk K (Itc lo (-1) n) G1 (dwnD lo n) := by
  intro c H G cu k w
  have hl : (dwnD lo n).length = n := by unfold dwnD; rw [List.length_map, List.length_range]
  refine ⟨fun i d e => ?_, by rw [hl]; exact Nat.le_refl n⟩
  have hi : i < n := by rw [← hl]; exact (List.getElem?_eq_some_iff.mp e).1
  unfold dwnD at e
  rw [List.getElem?_map, List.getElem?_range hi] at e
  cases e
  refine ⟨hi, fun x H' y => ?_⟩
  obtain ⟨rfl, rfl⟩ := y
  exact ⟨G, Ext.refl, w, .int _⟩
def dRng3 : List PyData → Option (List PyData)
  | [.int i, .int j, .int c] => if c = -1 ∧ -(2 ^ 62) ≤ i ∧ i < 2 ^ 62 ∧ -(2 ^ 62) ≤ j ∧ j < 2 ^ 62 then some (dwnD i (i - j).toNat) else none
  | _ => none
theorem pid_rng3 {p : Pos} (hg : Gl X "range") (hm : X.mg "range" = none) (ha : PAD X K E [a, b, c] ta ga)
    (hs : starEach [a, b, c] X.env = (false, eval a X.env) :: starEach [b, c] X.env := by rfl) (hpl : (backTo pos (starEach [b, c] X.env)).any (·.1) = false := by rfl) : PID X K E tg (.Call (.Name "range" p) [a, b, c] [] pos) (iRng3 ta) (giArg dRng3 ga) := by
  refine ⟨pi_range3 hg hm ha.pa hs hpl, fun c H0 G0 σ H G ρ cu R s q => ?_⟩
  refine ha.sem c H0 G0 σ H G ρ cu _ s (q.bind.imp fun as H1 G1 cu1 x1 w1 q1 vs rvs => ?_)
  obtain ⟨items, ez, q2⟩ := q1.ofO
  cases e : dats as with
  | none => rw [e] at ez; cases ez
  | some ds =>
    rw [e] at ez
    have ey : dRng3 ds = some items := ez
    have r := dats_rp rvs e
    unfold dRng3 at ey
    split at ey
    · split at ey
      · rename_i hb
        obtain ⟨h0, h1, h2, h3, h4⟩ := hb
        subst h0
        cases ey
        cases r with
        | cons r0 rr =>
          obtain ⟨v, w, rfl, rv, rw'⟩ := rr.two
          rw [r0.int_of, rv.int_of, rw'.int_of]
          exact ⟨_, _, _, _, rfl, RgC.neg h1 h2 h3 h4, q2 H1 G1 Ext.refl w1 _ (wk_dwn _ _)⟩
      · cases ey
    · cases ey
/-- x, y = [..], e, where x is one's own list, and x or y a cell -/
theorem psd_asgO {i j : Nat} {x y : Str} {a b : Expr} {ta tb : TE} {g1 : GI} {g2 : GE} {px py pt : Pos} {kt k2 : Nat} {pt2 : Pos} (hc : X.calm = true) (hN : X.N.Nodup) (hi : X.N[i]? = some x) (hj : X.N[j]? = some y) (hij : i ≠ j)
    (hx : Loc X.env.scope x) (hy : Loc X.env.scope y) (ha : PFD X K E a ta g1) (hb : PD X K E b tb g2)
    (hs : swapsWithSole [.Tuple [.Name x px, .Name y py] kt pt] (.Tuple [a, b] k2 pt2) pos.line X.env = pure false := by rfl)
    (hw : swappedStores [.Tuple [.Name x px, .Name y py] kt pt] (.Tuple [a, b] k2 pt2) X.env = pure none := by rfl)
    (h0 : (assignEach [.Tuple [.Name x px, .Name y py] kt pt] X.env).map (·.2) = [assign (.Tuple [.Name x px, .Name y py] kt pt) X.env] := by rfl)
    (h1 : starEach [a, b] X.env = (false, eval a X.env) :: starEach [b] X.env := by rfl) (h2 : starEach [b] X.env = (false, eval b X.env) :: starEach [] X.env := by rfl)
    (hn : (assignEach [.Name x px, .Name y py] X.env).length = 2 := by rfl) (hst : (assignEach [.Name x px, .Name y py] X.env).findIdx? (·.1) = none := by rfl)
    (hf : X.fn x = true ∨ X.env.scope.names.lookup x = some .local := by first | exact .inl rfl | exact .inr rfl | assumption)
    (hf' : X.fn y = true ∨ X.env.scope.names.lookup y = some .local := by first | exact .inl rfl | exact .inr rfl | assumption) :
    PSD X K E (.Assign [.Tuple [.Name x px, .Name y py] kt pt] (.Tuple [a, b] k2 pt2) pos) (tAsg (tTup (tCons ta (tCons tb tNil))) (gTup X.K 2 (gCons (gName i) (gCons (gName j) gNil)))) (gParO i j g1 g2) := by
  refine ⟨ps_asg (pe_tup (pa_cons ha.pe (pa_cons hb.pe pa_nil h2) h1)) (pg_tup hc (pgs_cons (pg_name hN hi hx hf) (pgs_cons (pg_name hN hj hy hf') pgs_nil)) hn hst) hs hw h0, fun c H0 G0 σ H G ρ cu D s q => ?_⟩
  refine ha.sem c H0 G0 σ H G ρ cu _ s ((q.exp s).imp fun ds H1 G1 cu1 x1 w1 q1 p xs hp hp' r gp => ?_)
  refine hb.sem c H0 G0 σ H1 G1 ρ cu1 _ (s.go x1 w1) ((q1.exp (s.go x1 w1)).imp fun d H2 G2 cu2 x2 w2 q2 v rv => ?_)
  refine ⟨by rw [sizeLine_eq]; show 2 ≤ 16777216; decide, fun P hP => ?_⟩
  obtain ⟨x3, w3, gP⟩ := w2.newH (o := .tup [.ref p, v]) hP
  have xx := (x1.trans x2).trans x3
  have k1 := x2.h p _ hp' nt_lst (s.wd.nc hp)
  exact ⟨P, [.ref p, v], rfl, SqT.of upd_same, rfl, _, _, rfl, _, _, rfl, rfl, q2 _ _ G2 ((s.setO xx w3 hp (x3.h p _ k1 nt_lst (s.wd.nc hp)) (r.mono x2.g) (x2.n p _ hp' nt_lst gp)).set rv)⟩
end
end DL

set_option Elab.async false
set_option linter.all false
set_option maxRecDepth 100000
set_option maxHeartbeats 2000000
set_option autoImplicit false
/-! tuple(elt for tg in iter if tests), its elements calling -/
namespace DL
open PySem PySem.Spec PyProof.Rows L2 GenW
/-- what is handed out, put behind acc -/
def gTupL (gg : GG) (gt : GT) (ge : GE) : List PyData → List PyData → En → Cu → Rs (List PyData)
  | [], acc => fun _ cu => .ok acc cu
  | d :: r, acc => fun ρ cu => (Rs.ofO (gg d ρ) cu).bind fun ρ1 cu1 => (gt ρ1 cu1).nox.bind fun b cu2 => if b = true then (ge ρ1 cu2).nox.bind fun y cu3 => gTupL gg gt ge r (acc ++ [y]) ρ cu3 else gTupL gg gt ge r acc ρ cu2
def QTp (K : Kx) (QT : List V → Hp → Prop) : List PyData → Hp → Hp → Cu → Prop := fun ds H G _ => ∀ ys, RpL K G ys ds → QT ys H
section
variable {K : Kx} {X : Cx} {AG : Around} {s0 : Shared} {H0 : Hp} {cenv : Env} {fp : List Addr} {pn : List (Addr × Obj)} {tg elt iter : Expr} {ifs : List Expr} {scope : Scope} {pos : Pos} {J : It} {it : Addr} {tn : Nat → Heap → Prop}
  {gg : GG} {gt : GT} {ge : GE} {ws vs : List Nat} {ρ : En} {items : List PyData} {G1 : Hp} {c : Option Addr} {Hc Gc : Hp}
theorem seg_tupL {S a : Addr} {g : Nat} {go : Obj} {QT : List V → Hp → Prop} (hco : cenv.scope.isCoroutine = false) (hov : AG.over (.compLoop (.GeneratorExp elt [⟨tg, iter, ifs, 0⟩] scope pos) 0 (.ref it) .none cenv) [] = AG.deeper cenv)
    (T : Turn X.prog X.w X.K tg J fp it tn) (hfx : ∀ b ∈ fp, b ≠ cenv.locals ∧ b ∉ frs X.stack ∧ (∀ x c, cenv.cells.lookup x = some c → c ≠ b) ∧ ∀ p ∈ pn, p.1 ≠ b) (wk : Wk K J G1 items)
    (hg : PG (gcx X (AG.deeper cenv) s0 H0 cenv fp pn) tg (tgOf K gg ws)) (ht : PTs (gcx X (AG.deeper cenv) s0 H0 cenv fp pn) ifs (ttOf K E0 gt)) (he : PE (gcx X (AG.deeper cenv) s0 H0 cenv fp pn) elt (tOf K E0 ge)) (hw : ∀ j ∈ ws, j ∈ vs)
    (hSf : ∀ b ∈ fp, b ≠ S) (hA : Apart (gcx X (AG.deeper cenv) s0 H0 cenv fp pn) S) (hSp : ∀ p ∈ pn, p.1 ≠ S) (hgen : ∀ h : Heap, h.get? a = some go → h.IsGen a g) (hap : (a, go) ∈ pn) :
    ∀ (k i n : Nat) (s₀ s : Shared) (σ1 : L2.St) (H G : Hp) (cu : Cu) (ys : List V) (ds : List PyData), items.length - i = k → i ≤ items.length → n + ys.length = sizeLine → k + ys.length ≤ sizeLine → L2.GI (gcx X (AG.deeper cenv) s0 H0 cenv fp pn) S [] ys σ1 H s → RpL K G ys ds → SRep K c Hc Gc σ1 H G (wipeE ρ vs) cu → tn i s.heap → (∀ b ∈ fp, H b = none) →
      (∀ b o, G1 b = some o → G b = some o) → Post K E0 c H G (gTupL gg gt ge (items.drop i) ds (wipeE ρ vs) cu) (QTp K QT) →
      Seg (model X.prog X.w) AG (REnd X.prog X.w X.stack H0 s0 fp S a g QT E0) (YItem s0 S a g) n s₀
        (.compLoop (.GeneratorExp elt [⟨tg, iter, ifs, 0⟩] scope pos) 0 (.ref it) .none cenv) ((model X.prog X.w).den (.compLoop (.GeneratorExp elt [⟨tg, iter, ifs, 0⟩] scope pos) 0 (.ref it) .none cenv)) [] s := by
  have fpok : ∀ {H : Hp} {acc : Array Value} {cn : Nat}, (∀ b ∈ fp, H b = none) → ∀ b ∈ fp, FpOk (gcx X (AG.deeper cenv) s0 H0 cenv fp pn) [(S, lstObj acc cn)] H b := fun {H acc cn} hn b hb => by
    obtain ⟨h1, h2, h3, h4⟩ := hfx b hb
    refine ⟨hn b hb, h1, h2, .inl hb, h3, fun p hp => ?_⟩
    rcases List.mem_append.mp hp with z | z
    · exact h4 p z
    · rw [List.mem_singleton.mp z]
      exact (hSf b hb).symm
  intro k
  induction k with
  | zero =>
    intro i n s₀ s σ1 H G cu ys ds hk hi hn hz hI hys r htn hfn hG q
    obtain ⟨acc, cn, hv, I⟩ := hI
    show Seg _ AG _ _ n s₀ _ ((compTurn (.GeneratorExp elt [⟨tg, iter, ifs, 0⟩] scope pos) 0 (.ref it) .none cenv).onRaise (leaving cenv)) [] s
    rw [compTurn_gen, Sem.onRaise_eq_wrap]
    refine seg_bind_wrap (wpAny_standAt ?_)
    have hstop := (wk c H G cu hG r.wd).2
    have hii : i = items.length := by omega
    subst hii
    rw [List.drop_length] at q
    refine seg_bind_wrap ?_
    rw [hov]
    refine wpAny_mono (T.done (gcx X (AG.deeper cenv) s0 H0 cenv fp pn) rfl rfl rfl rfl items.length [(S, lstObj acc cn)] s σ1 H (fun _ _ => False) I (fpok hfn) htn hstop) (fun o s1 ho => ?_) fun _ _ z => z.elim
    obtain ⟨rfl, I1⟩ := ho
    have pS := I1.pin (S, lstObj acc cn) (List.mem_append_right _ List.mem_cons_self)
    exact seg_end (.ok .next) (.inl ⟨.inr rfl, H, ys, acc, cn, I1.os, I1.bare, I1.base, I1.hok, pS.2.1, pS.1, hv, by omega, q H G Ext.refl r.wd ys hys⟩)
  | succ k ih =>
    intro i n s₀ s σ1 H G cu ys ds hk hi hn hz hI hys r htn hfn hG q
    obtain ⟨acc, cn, hv, I⟩ := hI
    have hlt : i < items.length := by omega
    obtain ⟨n, rfl⟩ : ∃ n', n = n' + 1 := ⟨n - 1, by omega⟩
    show Seg _ AG _ _ (n + 1) s₀ _ ((compTurn (.GeneratorExp elt [⟨tg, iter, ifs, 0⟩] scope pos) 0 (.ref it) .none cenv).onRaise (leaving cenv)) [] s
    rw [compTurn_gen, Sem.onRaise_eq_wrap]
    refine seg_bind_wrap (wpAny_standAt ?_)
    obtain ⟨gw, yl⟩ := (wk c H G cu hG r.wd).1 i _ (List.getElem?_eq_getElem hlt)
    refine seg_bind_wrap ?_
    rw [hov]
    refine wpAny_mono (T.item (gcx X (AG.deeper cenv) s0 H0 cenv fp pn) rfl rfl rfl rfl i [(S, lstObj acc cn)] s σ1 H (fun _ _ => False) I (fpok hfn) htn gw) (fun o s1 ho => ?_) fun _ _ z => z.elim
    obtain ⟨u, rfl, ho⟩ := ho
    refine seg_bind_wrap ?_
    rw [hov]
    refine wpAny_mono ho (fun _ s2 h2 => ?_) fun _ _ z => z.elim
    obtain ⟨x, H2, I2, rv, y, tn2, fn2⟩ := h2
    obtain ⟨G2, x2, w2, rx⟩ := yl x H2 y
    have r2 : SRep K c Hc Gc σ1 H2 G2 (wipeE ρ vs) cu := r.go x2 w2
    have q2 : Post K E0 c H2 G2 (gTupL gg gt ge (items.drop i) ds (wipeE ρ vs) cu) (QTp K QT) := Post.go x2 q
    rw [List.drop_eq_getElem_cons hlt] at q2
    have iS : ∀ {σ' : L2.St} {H' : Hp} {s' : Shared}, Inv (gcx X (AG.deeper cenv) s0 H0 cenv fp pn) [(S, lstObj acc cn)] σ' H' s' → tn (i + 1) s'.heap → (∀ b ∈ fp, H' b = none) →
        Inv (gcx X (AG.deeper cenv) s0 H0 cenv fp pn) ((S, lstObj acc cn) :: pinsAt fp s'.heap) σ' H' s' := fun {σ' H' s'} J tnJ fnJ => J.pins_of fun p hp => by
      rcases List.mem_cons.mp hp with z | z
      · subst z
        exact J.pin _ (List.mem_append_right _ List.mem_cons_self)
      · obtain ⟨hb, e⟩ := pinsAt_mem z
        obtain ⟨o, e', nc⟩ := T.obj (i + 1) s'.heap tnJ p.1 hb
        rw [e] at e'
        cases e'
        exact ⟨e, fnJ _ hb, (hfx _ hb).1, (hfx _ hb).2.1, nc⟩
    have Ip := iS I2 tn2 fn2
    have keepIt : ∀ {σ' : L2.St} {H' : Hp} {s' : Shared}, Inv (gcx X (AG.deeper cenv) s0 H0 cenv fp pn) ((S, lstObj acc cn) :: pinsAt fp s2.heap) σ' H' s' → tn (i + 1) s'.heap ∧ ∀ b ∈ fp, H' b = none := fun {σ' H' s'} I' => by
      refine ⟨T.keep (i + 1) s2.heap s'.heap tn2 fun b hb o e => (I'.pin (b, o) (List.mem_append_right _ (List.mem_cons_of_mem _ (pinsAt_of hb e)))).1, fun b hb => ?_⟩
      obtain ⟨o, e, _⟩ := T.obj (i + 1) s2.heap tn2 b hb
      exact (I'.pin (b, o) (List.mem_append_right _ (List.mem_cons_of_mem _ (pinsAt_of hb e)))).2.1
    have unpin : ∀ {σ' : L2.St} {H' : Hp} {s' : Shared}, Inv (gcx X (AG.deeper cenv) s0 H0 cenv fp pn) ((S, lstObj acc cn) :: pinsAt fp s2.heap) σ' H' s' → Inv (gcx X (AG.deeper cenv) s0 H0 cenv fp pn) [(S, lstObj acc cn)] σ' H' s' := fun {σ' H' s'} I' =>
      I'.pins_of fun p hp => by
        rw [List.mem_singleton.mp hp]
        exact I'.pin _ (List.mem_append_right _ List.mem_cons_self)
    obtain ⟨ρ1, e1, q3⟩ := (Post.bind q2).ofO
    refine seg_bind_wrap ?_
    rw [hov]
    refine wpAny_mono (hg.run ((S, lstObj acc cn) :: pinsAt fp s2.heap) s2 σ1 H2 x u (fun σ' H' => H' = H2 ∧ SRep K c Hc Gc σ' H2 G2 ρ1 cu ∧ σ'.length = σ1.length ∧ ∀ j : Nat, j ∉ ws → σ'[j]? = σ1[j]?) Ip rv
      ⟨c, Hc, Gc, G2, _, cu, _, ρ1, r2, rx, e1, fun σ' a b d => ⟨rfl, a, b, d⟩⟩) (fun _ s3 h3 => ?_) fun _ _ z => z.elim
    obtain ⟨σ3, H3, I3, rfl, r3, l3, k3⟩ := h3
    have q3 := q3 H3 G2 Ext.refl w2
    have rw3 : SRep K c Hc Gc σ3 H3 G2 (wipeE ρ vs) cu := srep_ws r2 l3 k3 hw
    refine seg_bind_wrap ?_
    rw [hov]
    refine wpAny_mono (ht.run ((S, lstObj acc cn) :: pinsAt fp s2.heap) s3 σ3 H3 (fun b H4 => ∃ G4 cu4, Ext c H3 G2 H4 G4 ∧ Wd K c H4 G4 cu4 ∧
        Post K E0 c H4 G4 (if b = true then (ge ρ1 cu4).nox.bind fun y cu3 => gTupL gg gt ge (items.drop (i + 1)) (ds ++ [y]) (wipeE ρ vs) cu3 else gTupL gg gt ge (items.drop (i + 1)) ds (wipeE ρ vs) cu4) (QTp K QT)) I3
      ⟨c, Hc, Gc, G2, ρ1, cu, r3, (Post.nox q3).imp fun b H4 G4 cu4 x4 w4 q4 => ⟨G4, cu4, x4, w4, Post.go x4 q4⟩⟩) (fun b s4 h4 => ?_) fun _ _ z => z.elim
    obtain ⟨H4, I4, G4, cu4, x4, w4, q4⟩ := h4
    have hys2 : RpL K G2 ys ds := hys.mono x2.g
    have hys4 : RpL K G4 ys ds := hys2.mono x4.g
    cases b with
    | false =>
      simp only [Bool.false_eq_true, if_false] at q4 ⊢
      obtain ⟨tn4, fn4⟩ := keepIt I4
      exact seg_again rfl (ih (i + 1) (n + 1) s₀ s4 σ3 H4 G4 cu4 ys ds (by omega) hlt hn (by omega) ⟨acc, cn, hv, unpin I4⟩ hys4 (rw3.go x4 w4) tn4 fn4 (fun b o e => x4.g _ _ (x2.g _ _ (hG b o e))) q4)
    | true =>
      simp only [if_true] at q4 ⊢
      have hy : ∀ v, yieldOut cenv v = yieldValue v := fun v => by simp only [yieldOut, hco, Bool.false_eq_true, if_false]
      simp only [hy]
      rw [Sem.bind_eq_wrap', Sem.bind_eq_wrap', Sem.wrap_wrap, Sem.wrap_wrap]
      refine seg_wrap ?_
      rw [hov]
      refine wpAny_mono (he.run ((S, lstObj acc cn) :: pinsAt fp s2.heap) s4 σ3 H4 (fun v H5 => ∃ y G5 cu5, Rp K G5 v y ∧ Ext c H4 G4 H5 G5 ∧ Wd K c H5 G5 cu5 ∧ Post K E0 c H5 G5 (gTupL gg gt ge (items.drop (i + 1)) (ds ++ [y]) (wipeE ρ vs) cu5) (QTp K QT)) I4
        ⟨c, Hc, Gc, G4, ρ1, cu4, r3.go x4 w4, (Post.nox q4).imp fun z H5 G5 cu5 x5 w5 q5 v rz => ⟨z, G5, cu5, rz, x5, w5, Post.go x5 q5⟩⟩) (fun v s5 h5 => ?_) fun _ _ z => z.elim
      obtain ⟨xv, H5, I5, rv5, y, G5, cu5, ry, x5, w5, q5⟩ := h5
      obtain ⟨tn5, fn5⟩ := keepIt I5
      have J5 := unpin I5
      have pS := J5.pin (S, lstObj acc cn) (List.mem_append_right _ List.mem_cons_self)
      have pa := J5.pin (a, go) (List.mem_append_left _ hap)
      have hvl : acc.size = ys.length := by
        have h1 := Vals.length hv
        rw [Array.length_toList] at h1
        exact h1.symm
      refine seg_at (seg_yield rfl rfl rfl ⟨J5.os, J5.bare, J5.nolimit, hgen _ pa.1, ⟨acc, cn, pS.1, by omega⟩, fun s' sl => ?_⟩)
      have gi : L2.GI (gcx X (AG.deeper cenv) s0 H0 cenv fp pn) S [] (ys ++ [xv]) σ3 H5 s' := L2.GI.woken hSp (fun p hp => absurd hp (by simp)) hA ⟨acc, cn, hv, J5⟩ rv5 sl
      refine seg_again rfl (ih (i + 1) n s' s' σ3 H5 G5 cu5 (ys ++ [xv]) (ds ++ [y]) (by omega) hlt (by rw [List.length_append]; show n + (ys.length + 1) = _; omega) (by rw [List.length_append]; show k + (ys.length + 1) ≤ _; omega) gi
        (RpL.app (hys4.mono x5.g) (.cons ry .nil)) ((rw3.go x4 w4).go x5 w5) (T.keep (i + 1) s5.heap s'.heap tn5 fun b hb o e => sl.keep b o (hSf b hb) e) fn5 (fun b o e => x5.g _ _ (x4.g _ _ (x2.g _ _ (hG b o e)))) q5)
end
end DL

set_option Elab.async false
set_option linter.all false
set_option maxRecDepth 100000
set_option maxHeartbeats 2000000
set_option autoImplicit false
/-! tuple(..) of a generator that calls: its consumer -/
namespace DL
open PySem PySem.Spec PyProof.Rows L2 GenW
section
variable {P : Program} {w : World} {outer : List Env} {H0 : Hp} {s0 s : Shared} {fp : List Addr} {QT : List V → Hp → Prop} {A : Around} {a : Addr} {g : Nat} {cd : Code} {E : Value → Shared → Prop}
theorem e0_no {ex : List Addr} {e : Value} {s' : Shared} {G : Prop} (h : L2.CX P w outer H0 s0 E0 e s') : G := by
  obtain ⟨_, _, _, _, _, _, _, _, _, _, _, _, z⟩ := h
  exact z.elim
/-- what the consumer has when the generator is through -/
structure Through (P : Program) (w : World) (outer : List Env) (H0 : Hp) (s0 : Shared) (fp : List Addr) (QT : List V → Hp → Prop) (S : Addr) (acc : Array Value) (s' : Shared) : Prop where
  run : ∃ (c : Nat) (H' : Hp) (ys : List V), s'.heap.get? S = some (lstObj acc c) ∧ Vals ys acc.toList ∧ ys.length ≤ sizeLine ∧ s'.os = s0.os ∧ AllBare s'.gens ∧ Un (frs outer) fp H0 H' s0.heap s'.heap ∧ HOk P w H' s'.heap ∧ H' S = none ∧ QT ys H'
theorem collect_gx {Q : List Value → Shared → Prop} (hh : A.handled = none) (hd : A.depth < recursionLimit) (hg : s.heap.IsGen a g) (hgs : s.gens[g]? = some (.fresh cd)) (hb : AllBare s.gens) (hl : s.heap.NoLimit)
    (hrun : ∀ s2 : Shared, Woke s s2 → (∃ c, s2.heap.get? s.heap.objs.size = some (lstObj #[] c)) → Seg (model P w) A.in1.in1 (REnd P w outer H0 s0 fp s.heap.objs.size a g QT E0) (YItem s0 s.heap.objs.size a g) sizeLine s2 cd ((model P w).den cd) [] s2)
    (hQ : ∀ s' acc, Through P w outer H0 s0 fp QT s.heap.objs.size acc s' → Q acc.toList s') : wpAny (model P w) A (collect (.ref a)) Q E s := by
  have ha : a < s.heap.objs.size := let ⟨_, _, _, e, _⟩ := hg; Heap.lt_size e
  have hSa : s.heap.objs.size ≠ a := Nat.ne_of_gt ha
  have hcl : cStatics < s.heap.objs.size := let ⟨_, hn, _⟩ := hl; hn.lt
  have hSc : s.heap.objs.size ≠ cStatics := Nat.ne_of_gt hcl
  unfold collect
  refine wpAny_bind (wpAny_runValue ?_)
  refine codeAny_builtin F.entry_proto_collect ?_
  rw [Around.under_plainId F.plain_proto_collect _]
  show wpAny _ A.in1 (newList [] >>= fun l => again (.builtin "list.__iadd__" ⟨[l, .ref a], []⟩)) _ _ s
  refine wpAny_bind (wpAny_newObj_type ?_)
  refine wpAny_pure ⟨plainId_quiet F.plain_list_iadd _, ?_⟩
  refine codeAny_builtin F.entry_list_iadd ?_
  rw [Around.under_plainId F.plain_list_iadd _]
  have up : ∀ (h : Heap) (f : Obj → Obj), (∀ b o, s.heap.get? b = some o → h.get? b = some o) →
      ∀ b o, s.heap.get? b = some o → (h.update s.heap.objs.size f).get? b = some o := fun h f q b o e => by
    rw [Heap.get?_update_other _ _ (Ne.symm (Nat.ne_of_lt (Heap.lt_size e)))]
    exact q b o e
  have k1 : ∀ b o, s.heap.get? b = some o → (s.heap.push { cls := .type "list", data := .seq ([] : List Value).toArray }).get? b = some o := fun b o => Heap.get?_push_of_some _
  have gty : ∀ {h : Heap}, (∀ b o, s.heap.get? b = some o → h.get? b = some o) → h.IsGen a g := fun {h} => hg.keeps
  show wpAny _ A.in1 (Builtin.List.listExtendWith (.ref s.heap.objs.size) (.ref a) (.ref s.heap.objs.size)) _ _ _
  unfold Builtin.List.listExtendWith
  refine wpAny_bind (wpAny_typeOf (Heap.IsGen.typeIs (s := { s with heap := _ }) (gty k1)) ?_)
  have n1 : Builtin.List.listSameRef (.ref s.heap.objs.size) (.ref a) = false := by
    simp [Builtin.List.listSameRef, hSa]
  have n2 : ((Value.type "generator" == Value.type "list") || (Value.type "generator" == Value.type "tuple")) = false := by decide
  have n3 : (Value.type "generator" == Value.type "list") = false := by decide
  have n4 : (Value.type "generator" == Value.type "tuple") = false := by decide
  simp only [n1, n3, n4, Bool.or_false, Bool.false_eq_true, if_false]
  refine wpAny_bind (wpAny_pyIter_gen (s := { s with heap := _ }) (gty k1) ?_)
  refine wpAny_bind ?_
  refine wpAny_holding ?_
  unfold Builtin.List.listLengthHint
  refine wpAny_bind (wpAny_specialOf (Heap.IsGen.typeIs (s := { s with heap := _ }) (gty k1)) F.gen_no_len ?_)
  show wpAny _ A.in1 ((specialOf (Value.ref a) (Str.ofString "__length_hint__")) >>= _) _ _ _
  refine wpAny_bind (wpAny_specialOf (Heap.IsGen.typeIs (s := { s with heap := _ }) (gty k1)) F.gen_no_hint ?_)
  refine wpAny_pure ?_
  show wpAny _ A.in1 (rule "list.extend.makes-room" >>= fun _ => (Builtin.List.listTouch (.ref s.heap.objs.size)) >>= fun _ => again (.builtin "list.extend.loop" ⟨[.ref s.heap.objs.size, .ref a, .ref s.heap.objs.size], []⟩)) _ _ _
  refine wpAny_bind (wpAny_rule ?_)
  have hS : (s.heap.push { cls := .type "list", data := .seq ([] : List Value).toArray }).get? s.heap.objs.size = some { cls := .type "list", data := .seq ([] : List Value).toArray } := Heap.get?_push_size _ (by rfl)
  refine wpAny_bind ?_
  show wpAny _ A.in1 ((updateSeq s.heap.objs.size (·.push .none)) >>= fun _ => updateSeq s.heap.objs.size (·.pop)) _ _ _
  refine wpAny_bind ?_
  refine wpAny_updateSeq hS rfl ?_
  have hS3 := Heap.get?_update_self (Obj.mapSeq (·.push Value.none)) hS (by rfl)
  refine wpAny_updateSeq (hz := by seq_fits) hS3 (by rfl) ?_
  have hS4 := Heap.get?_update_self (Obj.mapSeq (·.pop)) hS3 (by rfl)
  have k4 := up _ (Obj.mapSeq (·.pop)) (up _ (Obj.mapSeq (·.push Value.none)) k1)
  refine wpAny_pure ⟨plainId_quiet F.plain_extend_loop _, ?_⟩
  refine drain (P := P) (w := w) (outer := outer) (H := H0) (sc := s0) (ex := fp) (Q := QT) (EX := E0) (A := A) (g := g) hh hd hSa hSc (fun s' acc c H' ys q1 q2 q3 q4 q5 q6 q7 q8 q9 => ?_) (fun e s' hc => e0_no (ex := fp) hc)
    sizeLine _ (gty k4) (hl.keeps k4) ⟨_, hgs, rfl, hrun _ ⟨rfl, allBare_setGen (s := { s with heap := _ }) hb rfl, k4⟩ ⟨_, hS4⟩⟩
  show wpAny _ A ((load s.heap.objs.size) >>= _) _ _ s'
  exact wpAny_bind (wpAny_load q1 (wpAny_pure (hQ s' acc ⟨c, H', ys, q1, q2, q3, q4, q5, q6, q7, q8, q9⟩)))
/-- tuple.__new__ of it -/
theorem new_gx {Q1 : Value → Shared → Prop} {R : Shared → Array Value → Prop} (hg : s.heap.IsGen a g)
    (hcol : ∀ {Q : List Value → Shared → Prop} {E : Value → Shared → Prop}, (∀ s' acc, R s' acc → Q acc.toList s') → wpAny (model P w) A.in1 (collect (.ref a)) Q E s)
    (hz : ∀ s' acc, R s' acc → acc.size ≤ sizeLine)
    (hQ : ∀ s' acc, R s' acc → Q1 (.ref s'.heap.objs.size) { s' with heap := s'.heap.push { cls := .type "tuple", data := .seq acc } }) :
    codeAny (model P w) A (.call (.builtin "tuple.__new__") ⟨[.type "tuple", .ref a], []⟩) (wants Q1 E) s := by
  refine codeAny_of_tree ?_
  show wpAny _ A.in1 ((checkBuiltinCall "tuple.__new__" ⟨[.type "tuple", .ref a], []⟩) >>= fun _ => again (.builtin "tuple.__new__" ⟨[.type "tuple", .ref a], []⟩)) _ _ s
  refine wpAny_bind (wpAny_of_eq (F.newCall_tuple_1 _) ?_)
  refine wpAny_pure ⟨plainId_quiet F.plain_tuple_new _, ?_⟩
  refine codeAny_builtin F.entry_tuple_new ?_
  rw [Around.under_plainId F.plain_tuple_new _]
  have h1 := sub_tuple_self
  have h2 := init_tuple_lookup
  have h3 := madeHere_tuple
  have h4 := Heap.IsGen.typeIs (s := s) hg
  wp_walk using wpAny_typeOf h4, hcol
  intro s' acc hr
  show wpAny _ _ ((Builtin.Tuple.tupleExact acc.toList.toArray) >>= fun v => ret v) _ _ _
  unfold Builtin.Tuple.tupleExact
  have e : acc.toList.toArray = acc := by simp
  rw [e]
  exact wpAny_bind (wpAny_newObj_type (wpAny_pure (hQ s' acc hr)) (by show acc.size ≤ sizeLine; exact hz s' acc hr))
theorem call_gx {Q : Value → Shared → Prop} {R : Shared → Array Value → Prop} (hg : s.heap.IsGen a g)
    (hcol : ∀ {Q : List Value → Shared → Prop} {E : Value → Shared → Prop}, (∀ s' acc, R s' acc → Q acc.toList s') → wpAny (model P w) A.in1.in1 (collect (.ref a)) Q E s)
    (hz : ∀ s' acc, R s' acc → acc.size ≤ sizeLine)
    (hQ : ∀ s' acc, R s' acc → Q (.ref s'.heap.objs.size) { s' with heap := s'.heap.push { cls := .type "tuple", data := .seq acc } }) :
    wpAny (model P w) A (call (.type "tuple") [.ref a]) Q E s := by
  have nw := new_gx (P := P) (w := w) (A := A.in1) (E := E) (Q1 := fun v s1 => s1.TypeIs v "tuple" ∧ Q v s1) hg hcol hz fun s' acc hr => ⟨⟨_, Heap.get?_push_size _ (by rfl), by rfl⟩, hQ s' acc hr⟩
  refine callType_codes F.called_tuple (F.typeCall_tuple_1 _) F.entry_object_init nw fun v s1 h1 => ?_
  refine ⟨h1.1, F.args_object_init_2 v _, ?_⟩
  exact object_init_meets F.called_tuple.init.lookup F.called_tuple.made (by decide) P w A.in1 _ s1 ⟨h1.1, by rfl, h1.2⟩
end
end DL

set_option Elab.async false
set_option linter.all false
set_option maxRecDepth 100000
set_option maxHeartbeats 2000000
set_option autoImplicit false
/-! tuple(elt for tg in iter if tests), its elements calling: the rule -/
namespace DL
open PySem PySem.Spec PyProof.Rows L2 GenW
def gTupE (gi : GI) (vs : List Nat) (gg : GG) (gt : GT) (ge : GE) : GE := fun ρ cu => (gi ρ cu).bind fun items cu1 =>
  if items.length ≤ 16777216 then (gTupL gg gt ge items [] (wipeE ρ vs) cu1).bind fun ds cu2 => .ok (.tuple ds) cu2 else .stuck
theorem room_gx4 {k : Nat} {A : Around} {env : Env} (r : Room (k + 2) A) : Room k (A.in1.in1.in1.in1.deeper env) := by
  obtain ⟨h1, h2, h3⟩ := r
  exact ⟨h1, by show A.depth + 1 + 3 * k + 5 < _; omega, by show A.units + 1 + 1 + 1 + 1 + 3 + 16 * k + 200 < _; omega⟩
section
variable {X : Cx} {K : Kx}
theorem gx_around {A A' : Around} {s0 s1 : Shared} {H0 H' : Hp} {σ : L2.St} {cenv : Env} {fp : List Addr} {pn pins : List (Addr × Obj)} (I : Inv (gcx X A s0 H0 cenv fp pn) pins σ H' s1) (hA : A'.handled = none) (hf : A'.frames = some (cenv :: X.stack)) :
    Inv (gcx X A' s0 H0 cenv fp pn) pins σ H' s1 :=
  ⟨⟨I.ok.mod, I.ok.kind, I.ok.glob, I.ok.blt, I.ok.above, I.ok.inj, I.ok.has, I.ok.cab, fun _ => hA, hf, I.ok.stk, I.ok.exf, I.ok.bs, I.ok.bsz, I.ok.noex, I.ok.exfs, I.ok.funs, I.ok.frf⟩, I.os, I.bare, I.base, I.loc, I.cell, I.free, I.freeC, I.pin, I.hok, I.len⟩
theorem pe_gTup {c P : Addr} {tg iter elt : Expr} {ifs : List Expr} {p pos gpos : Pos} {scope : Scope} {own : List (Str × Nat)} {wi : TI} {gi : GI} {gg : GG} {gt : GT} {ge : GE} {ws : List Nat} {k : Nat}
    (hN : X.N.Nodup) (hr : Room (k + 2) X.A) (hgl : Gl X "tuple") (hm : X.mg "tuple" = none) (TB : LamX.TabB X.base X.mg c P) (hcode : X.env.code = .ref c) (hmT : (P, X.env.qual ++ "<genexpr>") ∈ K.T) (hu : ∀ p ∈ K.T, p.1 = P → p.2 = X.env.qual ++ "<genexpr>")
    (hi : PID X K E0 tg iter wi gi) (ok : BlkOk X.N X.env.scope scope own) (S : gnB scope = true)
    (hg : ∀ (A : Around) (s : Shared) (H : Hp) (C : Addr) (code : Value) (fp : List Addr) (pn : List (Addr × Obj)), ∃ t1, PGD (gcx X A s H (gEnv X scope C code) fp pn) K tg t1 gg ws)
    (ht : ∀ (A : Around) (s : Shared) (H : Hp) (C : Addr) (code : Value) (fp : List Addr) (pn : List (Addr × Obj)), Room k A → ∃ tt, PTsD (gcx X A s H (gEnv X scope C code) fp pn) K E0 ifs tt gt)
    (he : ∀ (A : Around) (s : Shared) (H : Hp) (C : Addr) (code : Value) (fp : List Addr) (pn : List (Addr × Obj)), Room k A → ∃ te, PD (gcx X A s H (gEnv X scope C code) fp pn) K E0 elt te ge)
    (hw : ∀ j ∈ ws, j ∈ own.map (·.2)) (hs : ∀ x, genFold iter X.env x = pure x)
    (hst : starEach [.GeneratorExp elt [⟨tg, iter, ifs, 0⟩] scope gpos] X.env = (false, eval (.GeneratorExp elt [⟨tg, iter, ifs, 0⟩] scope gpos) X.env) :: starEach [] X.env) :
    PE X (.Call (.Name "tuple" p) [.GeneratorExp elt [⟨tg, iter, ifs, 0⟩] scope gpos] [] pos) (tOf K E0 (gTupE gi (own.map (·.2)) gg gt ge)) := by
  refine ⟨fun pins s σ H Q I h => ?_⟩
  obtain ⟨cc, Hc, Gc, G, ρ, cu, r, q⟩ := h
  have hwi : wi σ H (fun J H1 => ∃ items G1 cu1, items.length ≤ 16777216 ∧ Wk K J G1 items ∧ Ext cc H G H1 G1 ∧ Wd K cc H1 G1 cu1 ∧ Post K E0 cc H1 G1 (gTupL gg gt ge items [] (wipeE ρ (own.map (·.2))) cu1) (fun ds H' G' cu' => Post K E0 cc H' G' (.ok (.tuple ds) cu') (QD K Q) ∧ Wd K cc H' G' cu')) :=
    hi.sem cc Hc Gc σ H G ρ cu _ r ((Post.bind q).imp fun items H1 G1 cu1 x1 w1 q2 J wk => by
      by_cases hle : items.length ≤ 16777216
      · rw [if_pos hle] at q2
        exact ⟨items, G1, cu1, hle, wk, x1, w1, (Post.bind q2).imp fun ds H' G' cu' x w h => ⟨h, w⟩⟩
      · rw [if_neg hle] at q2
        exact q2.elim)
  have hroom : X.A.depth < recursionLimit := by have := hr.dp; omega
  refine wpAny_Call_Name_kw (ld_blt I hgl hm bb_tuple ?_)
  refine PyProof.Rows.callWith_type1 ?_ hst (by rfl)
  rw [hst]
  show wpAny _ _ (spliced ((false, eval (.GeneratorExp elt [⟨tg, iter, ifs, 0⟩] scope gpos) X.env) :: backTo pos (starEach [] X.env))) _ _ s
  refine Calls.spliced_cons (gx_make hN hroom hr.hd TB hcode hmT hu hi.pi ok S hs I r hwi (fun J H1 hR => let ⟨_, _, _, _, _, _, w, _⟩ := hR; w.tab) fun it fp tn J H1 H3 s3 s5 code a go hR eN T3 I3 hfp3 T tn5 I5 hgen hget hgs hfx => ?_)
  obtain ⟨items, G1, cu1, hle, wk, x1, w1, q1⟩ := hR
  refine Calls.spliced_nil ?_
  obtain ⟨x3, w3⟩ := wd_ext w1 eN T3
  have r1 : SRep K cc Hc Gc (wipe σ (own.map (·.2))) H1 G1 (wipeE ρ (own.map (·.2))) cu1 := ⟨w1, r.ext.trans x1, (r.go x1 w1).rep.wipe (own.map (·.2))⟩
  have r3 := r1.go x3 w3
  have hloc : (gEnv X scope s3.heap.objs.size code).locals = s3.heap.objs.size := rfl
  generalize hcv : gEnv X scope s3.heap.objs.size code = cenv at *
  rw [← hloc] at hfx
  obtain ⟨t1, hg1⟩ := hg (X.A.in1.in1.in1.in1.deeper cenv) s3 H3 s3.heap.objs.size code fp [(a, go)]
  obtain ⟨tt, ht1⟩ := ht (X.A.in1.in1.in1.in1.deeper cenv) s3 H3 s3.heap.objs.size code fp [(a, go)] (room_gx4 hr)
  obtain ⟨te, he1⟩ := he (X.A.in1.in1.in1.in1.deeper cenv) s3 H3 s3.heap.objs.size code fp [(a, go)] (room_gx4 hr)
  rw [hcv] at hg1 ht1 he1
  have hco : cenv.scope.isCoroutine = false := by
    unfold gnB at S
    simp only [Bool.and_eq_true, Bool.not_eq_true'] at S
    rw [← hcv]
    exact S.1.1
  have hIg := hgen _ hget
  have hlt : ∀ b ∈ fp, b < s5.heap.objs.size := fun b hb => let ⟨_, e, _⟩ := T.obj 0 s5.heap tn5 b hb; Heap.lt_size e
  have hal : a < s5.heap.objs.size := Heap.lt_size hget
  have hfr : (X.A.in1.in1.in1.in1.deeper cenv).frames = some (cenv :: X.stack) := Around.frames_deeper (A := X.A.in1.in1.in1.in1) I.ok.frames
  have I6 : Inv (gcx X (X.A.in1.in1.in1.in1.deeper cenv) s3 H3 cenv fp [(a, go)]) [] (wipe σ (own.map (·.2))) H3 s5 := gx_around I5 (show X.A.handled = none from hr.hd) hfr
  have hap : Apart (gcx X (X.A.in1.in1.in1.in1.deeper cenv) s3 H3 cenv fp [(a, go)]) s5.heap.objs.size := by
    refine ⟨I6.sz, Nat.ne_of_gt I6.lt, fun x c e z => ?_⟩
    obtain ⟨_, k⟩ := I6.cell x c e
    rw [z] at k
    exact Nat.lt_irrefl _ k.lt
  have loop := seg_tupL (AG := X.A.in1.in1.in1.in1) (S := s5.heap.objs.size) (a := a) (g := s3.gens.size) (go := go) (QT := fun ys H' => ∃ ds G' cu', RpL K G' ys ds ∧ Post K E0 cc H' G' (.ok (.tuple ds) cu') (QD K Q) ∧ Wd K cc H' G' cu') (ρ := ρ) (iter := iter) (scope := scope) (pos := gpos) (c := cc) (Hc := Hc) (Gc := Gc)
    hco over_loop' T hfx wk hg1.canon ht1.canon he1.canon hw (fun b hb => Nat.ne_of_lt (hlt b hb)) hap (fun p hp => by rw [List.mem_singleton.mp hp]; exact Nat.ne_of_lt hal) hgen (List.mem_singleton.mpr rfl)
  refine call_gx (R := fun s' acc => Through X.prog X.w X.stack H3 s3 fp (fun ys H' => ∃ ds G' cu', RpL K G' ys ds ∧ Post K E0 cc H' G' (.ok (.tuple ds) cu') (QD K Q) ∧ Wd K cc H' G' cu') s5.heap.objs.size acc s') hIg (fun {Q'} {E'} hq => collect_gx (A := X.A.in1.in1) hr.hd hroom hIg hgs I5.bare I5.nolimit (fun s2 wo hS => ?_) hq) (fun s' acc th => ?_) (fun s' acc th => ?_)
  · obtain ⟨cn, eS⟩ := hS
    have I7 := DL.Inv.woke I6 wo
    have gi : L2.GI (gcx X (X.A.in1.in1.in1.in1.deeper cenv) s3 H3 cenv fp [(a, go)]) s5.heap.objs.size [] [] (wipe σ (own.map (·.2))) H3 s2 := by
      refine ⟨#[], cn, .nil, I7.pins_of fun p hp => ?_⟩
      rw [List.mem_singleton.mp hp]
      exact ⟨eS, I6.hok.fresh (Nat.le_refl _), Nat.ne_of_gt I6.lt, I6.nofs (Nat.le_refl _), fun v z => by cases z⟩
    have lp := loop items.length 0 sizeLine s2 s2 _ H3 G1 cu1 [] [] (Nat.sub_zero _) (Nat.zero_le _) rfl (by show items.length + 0 ≤ 16777216; omega) gi .nil r3 (T.keep 0 s5.heap s2.heap tn5 fun b _ o e => wo.keep b o e) (fun b hb => (hfp3 b hb).1) (fun b o e => e)
      (by rw [List.drop_zero]; exact (Post.go x3 q1).imp fun ds H' G' cu' _ w h ys rl => ⟨ds, G', cu', rl, h.1, h.2⟩)
    have tn2 := T.keep 0 s5.heap s2.heap tn5 fun b _ o e => wo.keep b o e
    show Seg _ X.A.in1.in1.in1.in1 _ _ _ _ _ ((compStart (.GeneratorExp elt [⟨tg, iter, ifs, 0⟩] scope gpos) 0 (.ref it) .none cenv).onRaise (leaving cenv)) [] _
    unfold compStart
    rw [Sem.onRaise_eq_wrap]
    show Seg _ X.A.in1.in1.in1.in1 _ _ _ _ _ ((ask >>= _).wrap _ _ _ _) [] _
    refine seg_bind_wrap (wpAny_askSetting ?_)
    split
    · exact seg_again rfl lp
    · first
        | exact seg_bind_wrap (wpAny_rule (seg_bind_wrap (wpAny_standAt (seg_bind_wrap (T.self _ 0 _ _ _ tn2 (seg_again rfl lp))))))
        | (refine seg_bind_wrap (wpAny_rule ?_); show Seg _ X.A.in1.in1.in1.in1 _ _ _ _ _ ((standAt iter.pos >>= _).wrap _ _ _ _) [] _; exact seg_bind_wrap (wpAny_standAt (seg_bind_wrap (T.self _ 0 _ _ _ tn2 (seg_again rfl lp)))))
  · obtain ⟨c', H', ys, _, hv, hz, _⟩ := th.run
    have e : ys.length = acc.toList.length := Vals.length hv
    have e2 : acc.toList.length = acc.size := by simp
    rw [← e2, ← e]
    exact hz
  · obtain ⟨c', H', ys, _, hv, hz, ho, hb, un, hok, hn, ds, G', cu', rl, qq, ww⟩ := th.run
    have J : Inv X pins σ H' s' := I3.call' (ch := fp) ho un hok hb fun b hb => let ⟨_, h2, _, h4, h5, h6⟩ := hfp3 b hb; ⟨h4, h2, h5, h6⟩
    have hp : H' s'.heap.objs.size = none := J.hok.fresh (Nat.le_refl _)
    refine ⟨.ref s'.heap.objs.size, upd H' s'.heap.objs.size (.tup ys), J.laid (t' := s'.toks) (fun b o e => Heap.get?_push_of_some _ e) (Nat.le_refl _) ?_, rfl, ?_⟩
    · exact ⟨hz, acc.toList, hv, ⟨_, Heap.get?_push_size _ rfl, rfl, 0, by simp⟩⟩
    · exact new_tup (Q := Q) ww rl (fun v' H2 G2 x w r => qq H2 G2 x w v' r) hp
def gTupN (gi : GI) (vs : List Nat) (gg : GG) (gt : GT) (ge : GE) : GE := fun ρ cu => (gTupE gi vs gg gt ge ρ cu).nox
/-- tuple(elt for tg in iter if tests) -/
theorem pd_gTup {E : XK} {c P : Addr} {tg iter elt : Expr} {ifs : List Expr} {p pos gpos : Pos} {scope : Scope} {own : List (Str × Nat)} {wi : TI} {gi : GI} {gg : GG} {gt : GT} {ge : GE} {ws : List Nat} {k : Nat}
    (hN : X.N.Nodup) (hr : Room (k + 2) X.A) (hgl : Gl X "tuple") (hm : X.mg "tuple" = none) (TB : LamX.TabB X.base X.mg c P) (hcode : X.env.code = .ref c) (hmT : (P, X.env.qual ++ "<genexpr>") ∈ K.T) (hu : ∀ p ∈ K.T, p.1 = P → p.2 = X.env.qual ++ "<genexpr>")
    (hi : PID X K E0 tg iter wi gi) (ok : BlkOk X.N X.env.scope scope own) (S : gnB scope = true)
    (hg : ∀ (A : Around) (s : Shared) (H : Hp) (C : Addr) (code : Value) (fp : List Addr) (pn : List (Addr × Obj)), ∃ t1, PGD (gcx X A s H (gEnv X scope C code) fp pn) K tg t1 gg ws)
    (ht : ∀ (A : Around) (s : Shared) (H : Hp) (C : Addr) (code : Value) (fp : List Addr) (pn : List (Addr × Obj)), Room k A → ∃ tt, PTsD (gcx X A s H (gEnv X scope C code) fp pn) K E0 ifs tt gt)
    (he : ∀ (A : Around) (s : Shared) (H : Hp) (C : Addr) (code : Value) (fp : List Addr) (pn : List (Addr × Obj)), Room k A → ∃ te, PD (gcx X A s H (gEnv X scope C code) fp pn) K E0 elt te ge)
    (hw : ∀ j ∈ ws, j ∈ own.map (·.2) := by decide) (hs : ∀ x, genFold iter X.env x = pure x := by intro _; rfl)
    (hst : starEach [.GeneratorExp elt [⟨tg, iter, ifs, 0⟩] scope gpos] X.env = (false, eval (.GeneratorExp elt [⟨tg, iter, ifs, 0⟩] scope gpos) X.env) :: starEach [] X.env := by rfl) :
    PD X K E (.Call (.Name "tuple" p) [.GeneratorExp elt [⟨tg, iter, ifs, 0⟩] scope gpos] [] pos) (tOf K E0 (gTupE gi (own.map (·.2)) gg gt ge)) (gTupN gi (own.map (·.2)) gg gt ge) :=
  ⟨pe_gTup hN hr hgl hm TB hcode hmT hu hi ok S hg ht he hw hs hst, fun c H0 G0 σ H G ρ cu Q s q => ⟨c, H0, G0, G, ρ, cu, s, post_nox q⟩⟩
end
end DL

set_option Elab.async false
set_option linter.all false
set_option maxRecDepth 100000
set_option maxHeartbeats 2000000
set_option autoImplicit false
/-! sorted(..) of a list of data that are alike -/
namespace DL
open PySem PySem.Spec PyProof.Rows L2
/-- the data sorted, where they can be -/
def srtL (ds : List PyData) : List PyData := match ds with
  | [] => []
  | [d] => [d]
  | ds => ds.mergeSort (PySem.W.dataLe false id)
theorem srtL_eq (ds : List PyData) : srtL ds = ds.mergeSort (PySem.W.dataLe false id) := by
  unfold srtL
  split
  · simp
  · simp
  · rfl
def tupB : PyData → Bool
  | .tuple (_ :: _) => true
  | _ => false
def sclB : PyData → Bool
  | .int _ => true
  | .bool _ => true
  | .str _ => true
  | _ => false
def sortB (ds : List PyData) : Bool := (ds.all fun d => ds.all fun e => PySem.W.alike d e) && (ds.all tupB || ds.all sclB) && ds.all (fun d => decide (d.depth ≤ 60)) && decide (ds.length ≤ 16777216)
theorem sortB_of {ds : List PyData} (h : sortB ds = true) : PySem.W.AllAlike (ds.map id) ∧ PySem.W.Sortable (ds.map id) ∧ (∀ d ∈ ds, d.depth ≤ 60) ∧ ds.length ≤ sizeLine := by
  unfold sortB at h
  simp only [Bool.and_eq_true, Bool.or_eq_true, List.all_eq_true, decide_eq_true_eq] at h
  obtain ⟨⟨⟨h1, h2⟩, h3⟩, h4⟩ := h
  rw [List.map_id]
  refine ⟨fun d hd e he => h1 d hd e he, ?_, h3, h4⟩
  rcases h2 with h2 | h2
  · refine .inl fun d hd => ?_
    have k := h2 d hd
    unfold tupB at k
    split at k
    · exact ⟨_, _, rfl⟩
    · cases k
  · refine .inr fun d hd => ?_
    have k := h2 d hd
    unfold sclB at k
    split at k
    · exact ⟨fun z => (nomatch z), fun _ z => (nomatch z)⟩
    · exact ⟨fun z => (nomatch z), fun _ z => (nomatch z)⟩
    · exact ⟨fun z => (nomatch z), fun _ z => (nomatch z)⟩
    · cases k
def dSort : List PyData → Option PyData
  | [.list ds] => if sortB ds = true then some (.list (srtL ds)) else none
  | _ => none
theorem each_back {xs : List V} {ds : List PyData} : ∀ {out : List Value} {es : List PyData}, PySem.W.EachIs (fun v d => ∃ y, RelV y v ∧ (y, d) ∈ xs.zip ds) out es → ∃ ys : List V, Vals ys out ∧ PySem.W.EachIs (fun y d => (y, d) ∈ xs.zip ds) ys es
  | _, _, .nil => ⟨[], .nil, .nil⟩
  | _, _, .cons ⟨y, h1, h2⟩ t => by
    obtain ⟨ys, a, b⟩ := each_back t
    exact ⟨y :: ys, .cons h1 a, .cons h2 b⟩
section
variable {X : Cx} {K : Kx}
def rSort (X : Cx) : List V → Hp → VK → Prop := fun vs H Q => ∃ a xs ds, vs = [V.ref a] ∧ SqL X.K H a xs ∧ DpAll X.K H xs ds ∧ sortB ds = true ∧
  ∀ ys, PySem.W.EachIs (fun y d => (y, d) ∈ xs.zip ds) ys (srtL ds) → ∀ l, H l = none → Q (.ref l) (upd H l (.lst ys))
theorem dpall_at {F : PySem.W.Frag} {H : Hp} : ∀ {xs : List V} {ds : List PyData} {i : Nat} {x : V} {d : PyData}, DpAll F H xs ds → xs[i]? = some x → ds[i]? = some d → Dp F H x d
  | _, _, 0, _, _, .cons h _, e1, e2 => by cases e1; cases e2; exact h
  | _, _, i + 1, _, _, .cons _ t, e1, e2 => dpall_at t (by simpa using e1) (by simpa using e2)
theorem dpall_len {F : PySem.W.Frag} {H : Hp} : ∀ {xs : List V} {ds : List PyData}, DpAll F H xs ds → xs.length = ds.length
  | _, _, .nil => rfl
  | _, _, .cons _ t => by rw [List.length_cons, List.length_cons, dpall_len t]
theorem cr_sortD (hu : X.A.units + 2 + 60 < cLine) : CallR X (.builtin "sorted") (rSort X) := by
  intro pins s σ H vs us Q I r h
  obtain ⟨a, xs, ds, rfl, hs, hdp, hb, q⟩ := h
  obtain ⟨its, rv, hl, hz⟩ := I.list hs
  obtain ⟨u, rfl, ru⟩ := vals1 r
  obtain rfl : u = Value.ref a := ru
  obtain ⟨k1, k2, k3, k4⟩ := sortB_of hb
  have l1 : xs.length = its.length := rv.length
  have l2 := dpall_len hdp
  have pr : ∀ p ∈ its.zip ds, ∃ y, RelV y p.1 ∧ (y, p.2) ∈ xs.zip ds ∧ Dp X.K H y p.2 := fun p hp => by
    obtain ⟨i, hi⟩ := List.mem_iff_getElem?.mp hp
    obtain ⟨e1, e2⟩ := List.getElem?_zip_eq_some.mp hi
    have hi2 : i < xs.length := by
      rw [l1]
      exact (List.getElem?_eq_some_iff.mp e1).1
    have e3 : xs[i]? = some xs[i] := List.getElem?_eq_getElem hi2
    obtain ⟨v, e4, e5⟩ := rv.get e3
    rw [e1] at e4
    cases e4
    exact ⟨xs[i], e5, List.mem_iff_getElem?.mpr ⟨i, List.getElem?_zip_eq_some.mpr ⟨e3, e2⟩⟩, dpall_at hdp e3 e2⟩
  have e : PySem.W.EachIs (fun v d => ∃ y, RelV y v ∧ (y, d) ∈ xs.zip ds) its ds := PySem.W.EachIs.of_zip (l1.symm.trans l2) fun p hp => let ⟨y, a, b, _⟩ := pr p hp; ⟨y, a, b⟩
  have er : PySem.W.EachIs (fun v d => ∃ as, Reads s.heap v (id d) as) its ds := PySem.W.EachIs.of_zip (l1.symm.trans l2) fun p hp => let ⟨y, a, _, c⟩ := pr p hp; Dp.reads I p.2 y p.1 c a
  refine PySem.W.sorted_data (enc := id) hl.isList e er k1 k2 k4 (fun d hd => ?_) fun out ho eo => ?_
  · have := k3 d hd
    show X.A.units + 2 + d.depth < cLine
    omega
  · rw [← srtL_eq] at eo
    obtain ⟨ys, v1, v2⟩ := each_back eo
    obtain ⟨n, hn⟩ := sortedAll_at s.heap its (List.toArray out)
    refine ⟨.ref (s.heap.objs.size + 1), upd H (s.heap.objs.size + 1) (.lst ys), I.laid (t' := s.toks) (fun b o e => sortedAll_old e) (Nat.le_succ _) ⟨?_, out, n, v1, hn⟩, rfl, q ys v2 _ (I.hok.fresh (Nat.le_succ _))⟩
    rw [v1.length, ho]
    exact k4
theorem cr_sortU (hu : X.A.units + 64 < cLine) : CallR X (.builtin "sorted") (rSort X) := cr_sortD (by omega)
theorem bb_sorted : bootBuiltins "sorted" = some (.builtin "sorted") := by decide +kernel
theorem rpl_sorted {G : Hp} {xs : List V} {ds : List PyData} (r : RpL K G xs ds) : ∀ {ys : List V} {es : List PyData}, PySem.W.EachIs (fun y d => (y, d) ∈ xs.zip ds) ys es → RpL K G ys es
  | _, _, .nil => .nil
  | _, _, .cons h t => by
    obtain ⟨i, hi⟩ := List.mem_iff_getElem?.mp h
    obtain ⟨e1, e2⟩ := List.getElem?_zip_eq_some.mp hi
    obtain ⟨v, e3, e4⟩ := r.get e2
    rw [e1] at e3
    cases e3
    exact .cons e4 (rpl_sorted r t)
mutual
theorem plain_alike : ∀ d : PyData, PySem.W.alike d d = true → d.plain = true
  | .none, _ => rfl
  | .bool _, _ => rfl
  | .int _, _ => rfl
  | .str _, _ => rfl
  | .list xs, h => by
    simp only [PyData.plain]
    exact plainAll_alike xs (by simpa [PySem.W.alike] using h)
  | .tuple xs, h => by
    simp only [PyData.plain]
    exact plainAll_alike xs (by simpa [PySem.W.alike] using h)
  | .dict _, h => by simp [PySem.W.alike] at h
theorem plainAll_alike : ∀ xs : List PyData, PySem.W.alikeAll xs xs = true → PyData.plainAll xs = true
  | [], _ => rfl
  | x :: xs, h => by
    have h' : PySem.W.alike x x = true ∧ PySem.W.alikeAll xs xs = true := by simpa [PySem.W.alikeAll] using h
    simp only [PyData.plainAll, plain_alike x h'.1, plainAll_alike xs h'.2, Bool.and_self]
end
theorem plainAll_of : ∀ {xs : List PyData}, (∀ d ∈ xs, d.plain = true) → PyData.plainAll xs = true
  | [], _ => rfl
  | x :: xs, h => by
    simp only [PyData.plainAll, h x (.head _), plainAll_of (fun d hd => h d (.tail _ hd)), Bool.and_self]
theorem plain_sortB {ds : List PyData} (h : sortB ds = true) : PyData.plain (.list ds) = true := by
  simp only [PyData.plain]
  refine plainAll_of fun d hd => plain_alike d ?_
  unfold sortB at h
  simp only [Bool.and_eq_true, List.all_eq_true] at h
  exact h.1.1.1 d hd d hd
theorem callD_sort (hKF : K.F = X.K := by assumption) : CallD K (rSort X) dSort := by
  intro c H G cu vs ds z Q wd r hz q
  unfold dSort at hz
  split at hz
  · rename_i es
    split at hz
    · rename_i hb
      cases hz
      obtain ⟨v, rfl, rv⟩ := r.one
      obtain ⟨a, xs, rfl, ha, ra⟩ := rv.lst_of
      exact ⟨a, xs, es, rfl, SqL.of (wd.sub _ _ ha), RpL.dp' hKF (ra.mono wd.sub) (by have := plain_sortB hb; simpa only [PyData.plain] using this), hb, fun ys e p hp => new_lst wd (rpl_sorted ra e) q hp⟩
    · cases hz
  · cases hz
end
end DL

set_option Elab.async false
set_option linter.all false
set_option maxRecDepth 100000
set_option maxHeartbeats 2000000
set_option autoImplicit false
/-! list(reversed(a list)), tuple(reversed(a list)) -/
namespace DL
open PySem PySem.Spec PyProof.Rows L2
section
variable {prog : Program} {w : World} {A : Around} {E : Value → Shared → Prop} {s : Shared}
theorem call_list_rev {it l : Addr} {items : Array Value} {Q : Value → Shared → Prop} (hh : A.handled = none) (hit : s.heap.IsRevIter it l ((items.size : Int) - 1)) (hl : s.heap.IsList l items) (hne : l ≠ it) (hn : items.size ≤ sizeLine)
    (hQ : ∀ (h' : Heap) (tk : Nat) (acc : Array Value) (n : Nat), (∀ b o, b ≠ it → s.heap.get? b = some o → h'.get? b = some o) → ItemsOf (fun i v => items[items.size - 1 - i]? = some v) acc items.size →
      h'.get? s.heap.objs.size = some { cls := .type "list", data := .seq acc n } → Q (.ref s.heap.objs.size) { s with heap := h', toks := tk }) :
    wpAny (model prog w) A (call (.type "list") [.ref it]) Q E s := by
  obtain ⟨oi, hoi, _⟩ := id hit
  obtain ⟨ol, hol, _⟩ := id hl
  have hSi : s.heap.objs.size ≠ it := Nat.ne_of_gt (Heap.lt_size hoi)
  have hSl : s.heap.objs.size ≠ l := Nat.ne_of_gt (Heap.lt_size hol)
  have hSf : s.heap.objs.size ∉ [it, l] := by
    simp only [List.mem_cons, List.not_mem_nil, or_false, not_or]
    exact ⟨hSi, hSl⟩
  refine callType_codes (Q₁ := fun obj s₁ => obj = .ref s.heap.objs.size ∧ s₁ = { s with heap := s.heap.push { cls := .type "list", data := .seq #[] } }) F.called_list (F.typeCall_list_1 _) F.entry_list_init (code_list_new _ ⟨rfl, rfl⟩)
    fun obj s₁ h₁ => ?_
  obtain ⟨rfl, rfl⟩ := h₁
  have W := (Walks.listRev (prog := prog) (w := w) (A := A.in1.in1) (by exact hh) it l hne items).toS
  have hS : (s.heap.push { cls := .type "list", data := .seq #[] }).get? s.heap.objs.size = some { cls := .type "list", data := .seq #[] } := Heap.get?_push_size _ (by rfl)
  refine ⟨⟨_, hS, rfl⟩, F.args_list_init_2 _ _, ?_⟩
  show wpAny _ A.in1.in1 ((Builtin.List.listItems (.ref s.heap.objs.size)) >>= fun old => (Builtin.List.listUpdate (.ref s.heap.objs.size) (fun _ => #[])) >>= fun _ => (letGo old.toList.reverse) >>= fun _ => Builtin.List.listExtendWith (.ref s.heap.objs.size) (.ref it) .none) _ _ _
  refine wpAny_bind ?_
  unfold Builtin.List.listItems
  refine wpAny_bind (wpAny_seqItems hS (by rfl) (wpAny_pure ?_))
  refine wpAny_bind ?_
  show wpAny _ A.in1.in1 (updateSeq s.heap.objs.size (fun _ => #[])) _ _ _
  refine wpAny_updateSeq hS (by rfl) ?_
  have hS2 := Heap.get?_update_self (Obj.mapSeq (fun _ => (#[] : Array Value))) hS (by rfl)
  refine wpAny_bind (wpAny_letGo ?_)
  have up : ∀ b o, s.heap.get? b = some o → ((s.heap.push { cls := .type "list", data := .seq #[] }).update s.heap.objs.size (Obj.mapSeq (fun _ => (#[] : Array Value)))).get? b = some o := fun b o e => by
    rw [Heap.get?_update_other _ _ (Ne.symm (Nat.ne_of_lt (Heap.lt_size e)))]
    exact Heap.get?_push_of_some _ e
  generalize hH : (s.heap.push { cls := .type "list", data := .seq #[] }).update s.heap.objs.size (Obj.mapSeq (fun _ => (#[] : Array Value))) = H2 at *
  have hit1 : H2.IsRevIter it l ((items.size : Int) - 1) := hit.at fun o e => up _ _ e
  have hl1 : H2.IsList l items := let ⟨o, ho, r⟩ := hl; ⟨o, up _ _ ho, r⟩
  have hT : ({ s with heap := H2 } : Shared).TypeIs (.ref it) "list_reverseiterator" := Heap.IsRevIter.typeIs (s := { s with heap := H2 }) hit1
  have h1 : Builtin.List.listSameRef (.ref s.heap.objs.size) (.ref it) = false := by simp [Builtin.List.listSameRef, hSi]
  unfold Builtin.List.listExtendWith
  refine wpAny_bind (wpAny_typeOf hT ?_)
  rw [if_neg (by rw [h1]; decide)]
  refine wpAny_bind (wpAny_pyIter_revIter (s := { s with heap := H2 }) hit1 ?_)
  refine wpAny_bind ?_
  refine wpAny_holding ?_
  unfold Builtin.List.listLengthHint
  refine wpAny_bind (wpAny_specialOf hT RT.nolen_lri ?_)
  show wpAny _ A.in1.in1 ((specialOf (Value.ref it) (Str.ofString "__length_hint__")) >>= _) _ _ _
  refine wpAny_bind (wpAny_specialOf hT RT.hint_lri ?_)
  generalize hid : ("list_reverseiterator.__length_hint__" : String) = id0
  wp_delta
  rw [show splitId id0 = some ("list_reverseiterator", "__length_hint__") from by subst hid; decide +kernel]
  subst hid
  refine wpAny_bind (wpAny_isInstance (b := true) hT (by rw [isSubtype_type]; kernel_rfl) ?_)
  refine wpAny_pure ?_
  rw [if_neg (by decide)]
  have e0 : ((items.size : Nat) : Int) - 1 - ((0 : Nat) : Int) = (items.size : Int) - 1 := by omega
  obtain ⟨n2, hS3⟩ : ∃ n2, H2.get? s.heap.objs.size = some { cls := .type "list", data := .seq #[] n2 } := ⟨_, hS2⟩
  refine wpAny_pure ⟨plainId_quiet F.plain_extend_loop _, ?_⟩
  refine codeAny_extend_loopS W hn _ hSf _ items.size 0 { s with heap := H2 } _ _ (by rfl) (Nat.zero_le _) ⟨Nat.zero_le _, by rw [e0]; exact hit1, hl1⟩ hS3 (ItemsOf.nil _) fun s' acc' c' hm hS' hacc => ?_
  rw [Moved.eq_with hm]
  refine ⟨rfl, hQ s'.heap s'.toks acc' c' (fun b o hb e => hm.heap b o (fun hmem => ?_) (up b o e)) hacc hS'⟩
  rcases List.mem_cons.mp hmem with e' | hmem
  · exact absurd (Heap.lt_size e) (by rw [e']; exact Nat.lt_irrefl _)
  · exact hb (List.mem_singleton.mp hmem)
end
section
variable {X : Cx} {K : Kx} {E : XK}
def tLstRev (F : PySem.W.Frag) (te : TE) : TE := fun σ H Q => te σ H fun v H1 => ∃ (a : Addr) (xs : List V), v = .ref a ∧ SqL F H1 a xs ∧ ∀ q, H1 q = none → Q (.ref q) (upd H1 q (.lst xs.reverse))
theorem pe_lstRev {e : Expr} {te : TE} {p p2 pos pos2 : Pos} (hc : X.calm = true) (hg : Gl X "list") (hm : X.mg "list" = none) (hg2 : Gl X "reversed") (hm2 : X.mg "reversed" = none) (he : PE X e te)
    (hs : starEach [e] X.env = (false, eval e X.env) :: starEach [] X.env)
    (hs2 : starEach [.Call (.Name "reversed" p2) [e] [] pos2] X.env = (false, eval (.Call (.Name "reversed" p2) [e] [] pos2) X.env) :: starEach [] X.env) :
    PE X (.Call (.Name "list" p) [.Call (.Name "reversed" p2) [e] [] pos2] [] pos) (tLstRev X.K te) := by
  refine ⟨fun pins s σ H Q I h => ?_⟩
  refine Call_ (ld_blt I hg hm boot_list (PyProof.Rows.callWith_type1 (args_cons ?_ hs2) hs2 rfl))
  refine Call_ (ld_blt I hg2 hm2 PyProof.Rows.boot_reversed (PyProof.Rows.callWith_type1 (args_cons (thn (he.run pins s σ H _ I h) fun u s1 ⟨v, H1, I1, r1, q1⟩ => args_nil ?_) hs) hs rfl))
  obtain ⟨a, xs, ev, hq, q⟩ := q1
  subst ev
  obtain rfl : u = Value.ref a := r1
  obtain ⟨its, rv, p', hz⟩ := I1.list hq
  refine call_reversed_list p'.isList (args_nil ?_)
  have k0 : ∀ b o, s1.heap.get? b = some o → (s1.heap.push (revObj a ((its.toArray.size : Int) - 1))).get? b = some o := fun b o => Heap.get?_push_of_some _
  have hl := p'.isList
  obtain ⟨ol, hol, _⟩ := id hl
  have hne : a ≠ s1.heap.objs.size := Nat.ne_of_lt (Heap.lt_size hol)
  have hn : its.toArray.size ≤ sizeLine := by
    rw [List.size_toArray, ← rv.length]
    exact hz
  have hlt := Heap.size_push s1.heap (revObj a ((its.toArray.size : Int) - 1))
  refine call_list_rev (s := { s1 with heap := s1.heap.push (revObj a ((its.toArray.size : Int) - 1)) }) (I1.ok.hd hc) ⟨_, Heap.get?_push_size _ rfl, rfl, rfl⟩ (hl.push _) hne hn fun h' tk acc n hk hi hS => ?_
  refine ⟨.ref (s1.heap.push (revObj a ((its.toArray.size : Int) - 1))).objs.size, upd H1 (s1.heap.push (revObj a ((its.toArray.size : Int) - 1))).objs.size (.lst xs.reverse), I1.laid (t' := tk) (fun b u e => hk b u (Nat.ne_of_lt (Heap.lt_size e)) (k0 b u e)) ?_ ⟨by rw [List.length_reverse]; exact hz, acc.toList, n, RT.vals_rev rv hi, by rw [Array.toArray_toList]; exact hS⟩, rfl, q _ (I1.hok.fresh ?_)⟩
  · show s1.heap.objs.size ≤ (s1.heap.push _).objs.size
    rw [hlt]
    exact Nat.le_succ _
  · show s1.heap.objs.size ≤ (s1.heap.push _).objs.size
    rw [hlt]
    exact Nat.le_succ _
def dLstRev : PyData → Option PyData
  | .list ds => some (.list ds.reverse)
  | _ => none
def dTupRev : PyData → Option PyData
  | .list ds => some (.tuple ds.reverse)
  | _ => none
theorem pd_lstRev {e : Expr} {te : TE} {ge : GE} {p p2 pos pos2 : Pos} (hc : X.calm = true) (hg : Gl X "list") (hm : X.mg "list" = none) (hg2 : Gl X "reversed") (hm2 : X.mg "reversed" = none) (he : PD X K E e te ge)
    (hs : starEach [e] X.env = (false, eval e X.env) :: starEach [] X.env := by rfl)
    (hs2 : starEach [.Call (.Name "reversed" p2) [e] [] pos2] X.env = (false, eval (.Call (.Name "reversed" p2) [e] [] pos2) X.env) :: starEach [] X.env := by rfl) :
    PD X K E (.Call (.Name "list" p) [.Call (.Name "reversed" p2) [e] [] pos2] [] pos) (tLstRev X.K te) (gUn dLstRev ge) := by
  refine ⟨pe_lstRev hc hg hm hg2 hm2 he.pe hs hs2, fun c H0 G0 σ H G ρ cu Q s q => ?_⟩
  refine he.sem c H0 G0 σ H G ρ cu _ s (q.bind.imp fun d H1 G1 cu1 x1 w1 q1 v rv => ?_)
  obtain ⟨z, e1, q2⟩ := q1.ofO
  unfold dLstRev at e1
  split at e1
  · cases e1
    obtain ⟨a, xs, rfl, ha, ra⟩ := rv.lst_of
    exact ⟨a, xs, rfl, SqL.of (w1.sub _ _ ha), fun p hp => new_lst w1 ra.rev (fun v' H' G' x w r => q2 H' G' x w v' r) hp⟩
  · cases e1
theorem pd_tupRev {e : Expr} {te : TE} {ge : GE} {p p2 pos pos2 : Pos} (hc : X.calm = true) (hg : Gl X "tuple") (hm : X.mg "tuple" = none) (hg2 : Gl X "reversed") (hm2 : X.mg "reversed" = none) (he : PD X K E e te ge)
    (hs : starEach [e] X.env = (false, eval e X.env) :: starEach [] X.env := by rfl)
    (hs2 : starEach [.Call (.Name "reversed" p2) [e] [] pos2] X.env = (false, eval (.Call (.Name "reversed" p2) [e] [] pos2) X.env) :: starEach [] X.env := by rfl) :
    PD X K E (.Call (.Name "tuple" p) [.Call (.Name "reversed" p2) [e] [] pos2] [] pos) (RT.tTupRev X.K te) (gUn dTupRev ge) := by
  refine ⟨RT.pe_tupRev hc hg hm hg2 hm2 he.pe hs hs2, fun c H0 G0 σ H G ρ cu Q s q => ?_⟩
  refine he.sem c H0 G0 σ H G ρ cu _ s (q.bind.imp fun d H1 G1 cu1 x1 w1 q1 v rv => ?_)
  obtain ⟨z, e1, q2⟩ := q1.ofO
  unfold dTupRev at e1
  split at e1
  · cases e1
    obtain ⟨a, xs, rfl, ha, ra⟩ := rv.lst_of
    exact ⟨a, xs, rfl, SqL.of (w1.sub _ _ ha), fun p hp => new_tup w1 ra.rev (fun v' H' G' x w r => q2 H' G' x w v' r) hp⟩
  · cases e1
end
end DL

set_option Elab.async false
set_option linter.all false
set_option maxRecDepth 100000
set_option maxHeartbeats 2000000
set_option autoImplicit false
/-! y = x.pop() op m -/
namespace DL
open PySem PySem.Spec PyProof.Rows L2
def gPopM (j i : Nat) (f : PyData → PyData → Option PyData) (gm : GE) : GS := fun ρ cu => match ρ[i]? with
  | some (.own xs) => (Rs.ofO xs.getLast? cu).bind fun d cu1 => (gm (ρ.set i (.own xs.dropLast)) cu1).bind fun e cu2 => (Rs.ofO (f d e) cu2).bind fun z cu3 => .ok (.nx ((ρ.set i (.own xs.dropLast)).set j (.dat z))) cu3
  | _ => .stuck
section
variable {X : Cx} {K : Kx} {E : XK}
theorem psd_popM {i j : Nat} {x y : Str} {p ap cp bp pos pos' : Pos} {op : Operator} {r : R2} {f : PyData → PyData → Option PyData} {m : Expr} {tm : TE} {gm : GE} (hN : X.N.Nodup) (hj : X.N[j]? = some y) (hy : Loc X.env.scope y) (h : PE X (.Name x p) (tVar i))
    (hpe : PE X (.Call (.Attribute (.Name x p) "pop" ap) [] [] cp) (tBM0 X.K "list" rPop (tVar i))) (ho : OpR X (binaryOp op) r) (hd : OpD K r f) (hm : PD X K E m tm gm)
    (hs : swapsWith (.BinOp (.Call (.Attribute (.Name x p) "pop" ap) [] [] cp) op m bp) (some (.Name y pos')) pos.line X.env = pure false := by rfl)
    (hf : X.fn y = true ∨ X.env.scope.names.lookup y = some .local := by first | exact .inl rfl | exact .inr rfl | assumption) :
    PSD X K E (.Assign [.Name y pos'] (.BinOp (.Call (.Attribute (.Name x p) "pop" ap) [] [] cp) op m bp) pos) (tAsg (tOp r (tBM0 X.K "list" rPop (tVar i)) tm) (gName j)) (gPopM j i f gm) := by
  refine ⟨ps_set hN hj hy (pe_op ho hpe hm.pe) hs hf, fun c H0 G0 σ H G ρ cu D s q => ?_⟩
  unfold gPopM at q
  split at q
  · rename_i xs eo
    obtain ⟨A, k1, k2⟩ := s.rep.own
    obtain ⟨e1, ⟨vs, e2, e3⟩, e4, e5, e6⟩ := k1 i xs eo
    obtain ⟨d, ed, q2⟩ := PostS.ofO q
    have hl := e3.length
    rw [List.getLast?_eq_getElem?] at ed
    obtain ⟨v, ev, rv⟩ := e3.get ed
    have s1 := s.updO Ext.refl s.wd eo e1 (RpL.dropLast e3)
    refine ⟨_, e1, .inl ⟨rfl, _, SqL.of e2⟩, A i, vs, v, rfl, rfl, e2, by rw [hl]; exact ev, ?_⟩
    refine hm.sem c H0 G0 σ _ G _ cu _ s1 ((q2.exp s1).imp fun b H2 G2 cu2 x2 w2 q3 bv rb => ?_)
    obtain ⟨z, ez, q4⟩ := PostS.ofO q3
    exact hd c H2 G2 cu2 v bv d b z _ w2 (rv.mono x2.g) rb ez fun v' H3 G3 x3 w3 r3 => q4 _ H3 G3 (((s1.go x2 w2).go x3 w3).set r3)
  · exact q.elim
end
end DL

set_option Elab.async false
set_option linter.all false
set_option maxRecDepth 100000
set_option maxHeartbeats 2000000
set_option autoImplicit false
/-! sorted(a list of one, key=f), f a def -/
namespace DL
open PySem PySem.Spec PyProof.Rows L2
section
variable {X : Cx} {pins : List (Addr × Obj)} {σ : L2.St} {H : Hp} {s : Shared}
theorem sorted_one {l f : Addr} {v : Value} {x : V} {k : Nat} {fd : FuncData} {ps : List Str} {sp : Sp} {Q : VK} {Qk : VK} (I : Inv X pins σ H s) (hl : s.heap.IsList l (List.toArray [v])) (rv : RelV x v)
    (Fn : FnOk X.prog X.w X.K X.mg X.base (L2.CX X.prog X.w) k f fd ps sp) (hr : Room (k + 1) X.A) (hb : Binds X.K fd ps []) (hsp : sp [x] H Qk E0)
    (hQ : ∀ y H' l', Qk y H' → H' l' = none → H l' = none → Q (.ref l') (upd H' l' (.lst [x]))) :
    wpAny (model X.prog X.w) X.A (call (.builtin "sorted") [.ref l] [(Str.ofString "key", .ref f)]) (EP X pins σ Q) X.xe s := by
  refine PySem.W.sorted_of_sort hl (by show 1 ≤ 16777216; decide) (PyProof.Rows.ksk_s1 _ _) (fun _ => PyProof.Rows.ksk_l1 _ _) fun E' => ?_
  rw [PyProof.Rows.ksk_t1]
  have ho := PySem.W.copyHeap_at s.heap [v]
  have ok0 : ∀ b o, s.heap.get? b = some o → (PySem.W.copyHeap s.heap [v]).get? b = some o := fun b o => PySem.W.copyHeap_old
  generalize ea : s.heap.objs.size + 1 = a at *
  generalize eh : PySem.W.copyHeap s.heap [v] = H0 at *
  have ha : a < H0.objs.size := Heap.lt_size ho
  obtain ⟨e1, ho1⟩ : ∃ e1, (H0.update a (Obj.mapSeq fun _ => (#[] : Array Value))).get? a = some (seqObj "list" #[] e1) := ⟨_, get?_update_seq ho fun _ => #[]⟩
  unfold PyProof.Rows.ksk_tree
  refine wpAny_bind (listItems_at ho rfl ?_)
  refine wpAny_bind (listUpdate_at ho rfl ?_ (by show 1 ≤ 16777216; decide) (Nat.zero_le _))
  refine wpAny_bind (seqEpoch_at ho1 rfl ?_)
  refine wpAny_bind (wpAny_newTuple ?_ (by show 1 ≤ 16777216; decide))
  refine wpAny_bind (wpAny_newList ?_ (Nat.zero_le _))
  refine wpAny_holding ?_
  have old : ∀ b o, b ≠ a → H0.get? b = some o → (PySem.W.sortingHeap H0 a [v]).get? b = some o := fun b o hb e => PySem.W.sortingHeap_old hb e
  have eks : ((H0.update a (Obj.mapSeq fun _ => (#[] : Array Value))).push (seqObj "tuple" (List.toArray [v]) 0)).objs.size = H0.objs.size + 1 := by rw [size_push', Heap.size_update]
  have hsa : s.heap.objs.size ≤ a := Nat.le_of_lt (Nat.lt_of_succ_le (Nat.le_of_eq ea))
  have hna : ∀ b o, s.heap.get? b = some o → b ≠ a := fun b o e z => by
    have h1 : b < s.heap.objs.size := Heap.lt_size e
    rw [z] at h1
    exact Nat.lt_irrefl _ (Nat.lt_of_lt_of_le h1 hsa)
  have k2 : ∀ b o, s.heap.get? b = some o → (PySem.W.sortingHeap H0 a [v]).get? b = some o := fun b o e => old b o (hna b o e) (ok0 b o e)
  show wpAny (model X.prog X.w) X.A.in1.in1 (ksk_rest a (.ref f) false (List.toArray [v]) e1 (.ref ((H0.update a (Obj.mapSeq fun _ => (#[] : Array Value))).push (seqObj "tuple" (List.toArray [v]) 0)).objs.size)) _ _ { s with heap := PySem.W.sortingHeap H0 a [v] }
  have nkS : (PySem.W.sortingHeap H0 a [v]).get? ((H0.update a (Obj.mapSeq fun _ => (#[] : Array Value))).push (seqObj "tuple" (List.toArray [v]) 0)).objs.size = some (seqObj "list" #[] 0) := Heap.get?_push_size _ rfl
  have naS : (PySem.W.sortingHeap H0 a [v]).get? a = some (seqObj "list" #[] e1) := Heap.get?_push_of_some _ (Heap.get?_push_of_some _ ho1)
  generalize ek : ((H0.update a (Obj.mapSeq fun _ => (#[] : Array Value))).push (seqObj "tuple" (List.toArray [v]) 0)).objs.size = kS at *
  generalize eg : PySem.W.sortingHeap H0 a [v] = H2 at *
  have hka : kS ≠ a := fun z => by
    rw [z] at eks
    rw [eks] at ha
    exact Nat.lt_irrefl _ (Nat.lt_of_succ_lt ha)
  have hsk : s.heap.objs.size ≤ kS := by
    rw [eks]
    exact Nat.le_succ_of_le (Nat.le_trans hsa (Nat.le_of_lt ha))
  have I1 : Inv X pins σ H { s with heap := H2 } := I.kept (t' := s.toks) k2
  have hr' : Room k X.A.in1.in1 := by
    obtain ⟨h1, h2, h3⟩ := hr
    exact ⟨h1, by show X.A.depth + 3 * k + 5 < _; omega, by show X.A.units + 1 + 1 + 16 * k + 200 < _; omega⟩
  have run := Fn.run X.A.in1.in1 X.stack { s with heap := H2 } H ⟨[v], []⟩ ([v] ++ []) ([x] ++ []) Qk E0 hr' ⟨I1.ok.frames, I1.ok.mod, I1.bs, Nat.le_trans I1.ok.bsz I1.sz, I1.stack, I1.stkFree, I1.hok, I1.bare⟩ (hb { s with heap := H2 } [v] I1.kIn (by
    have := Fn.len _ _ _ _ hsp
    exact this)) (.cons rv .nil) hsp
  unfold ksk_rest
  refine wpAny_bind (wpAny_rule ?_)
  first
    | rw [List.forIn_toArray]
    | (rw [← Array.forIn_toList]; simp only [List.toList_toArray])
    | rw [← Array.forIn_toList]
  rw [List.forIn_cons]
  simp only [List.forIn_nil]
  refine wpAny_bind ?_
  refine wpAny_bind ?_
  refine wpAny_bind (wpAny_attempt (wpAny_call (codeAny_mono run fun r s2 hq => ?_)))
  cases r with
  | error e => exact e0_no (ex := []) hq
  | ok fl =>
    cases fl with
    | next => exact hq.elim
    | brk => exact hq.elim
    | cont => exact hq.elim
    | ret key =>
      obtain ⟨y, H', os, bare, un, hok, ry, qk⟩ := hq
      have nfr : ∀ b, s.heap.objs.size ≤ b → b ∉ frs X.stack := fun b hb z => by
        rcases List.mem_cons.mp (I.stkSub b z) with z | z
        · have h1 := I.lt
          rw [← z] at h1
          exact Nat.lt_irrefl _ (Nat.lt_of_lt_of_le h1 hb)
        · exact I.nofs hb z
      have nk2 : s2.heap.get? kS = some (seqObj "list" #[] 0) := un.keep _ _ nkS (I.hok.fresh hsk) (nfr _ hsk) (by simp)
      have na2 : s2.heap.get? a = some (seqObj "list" #[] e1) := un.keep _ _ naS (I.hok.fresh hsa) (nfr _ hsa) (by simp)
      have hk0 : H' kS = none := un.free _ _ nkS (I.hok.fresh hsk) (by simp)
      have ha0 : H' a = none := un.free _ _ naS (I.hok.fresh hsa) (by simp)
      have J : Inv X pins σ H' s2 := I1.call' (ch := []) os un hok bare (fun b z => absurd z (by simp))
      try dsimp only
      refine wpAny_bind (listUpdate_at nk2 rfl ?_ (Nat.zero_le _) (by show 1 ≤ 16777216 + 1; decide))
      refine wpAny_pure ?_
      try dsimp only
      refine wpAny_pure ?_
      obtain ⟨c1, hc1⟩ : ∃ c1, (s2.heap.update kS (Obj.mapSeq fun x => x.push key)).get? kS = some (seqObj "list" ((#[] : Array Value).push key) c1) := ⟨_, get?_update_seq nk2 fun x => x.push key⟩
      have na3 : (s2.heap.update kS (Obj.mapSeq fun x => x.push key)).get? a = some (seqObj "list" #[] e1) := (Heap.get?_update_other _ _ hka).trans na2
      refine wpAny_bind (listItems_at hc1 rfl ?_)
      have hl2 : (List.toArray [v]).size < 2 := by show 1 < 2; decide
      unfold ksk_end
      dsimp only
      rw [if_pos hl2, if_pos hl2]
      simp only [Bool.false_eq_true, if_false]
      refine wpAny_bind (wpAny_pure ?_)
      rw [StateT.run_pure]
      refine wpAny_bind (wpAny_pure ?_)
      unfold ksk_tail
      dsimp only
      have eA : (if false = true then (Array.map (fun x => x.snd) (arrOf (SortSt.mk' general' (((#[] : Array Value).push key).zip #[v]) #[] 7 none))).reverse else Array.map (fun x => x.snd) (arrOf (SortSt.mk' general' (((#[] : Array Value).push key).zip #[v]) #[] 7 none))) = #[v] := by
        rw [if_neg Bool.false_ne_true]
        show Array.map (fun x => x.snd) (((#[] : Array Value).push key).zip #[v]) = #[v]
        simp
      rw [eA]
      refine wpAny_bind (listUpdate_at hc1 rfl ?_ (by show 1 ≤ 16777216; decide) (Nat.zero_le _))
      refine wpAny_bind (wpAny_letGo ?_)
      have na4 : ((s2.heap.update kS (Obj.mapSeq fun x => x.push key)).update kS (Obj.mapSeq fun _ => (#[] : Array Value))).get? a = some (seqObj "list" #[] e1) := (Heap.get?_update_other _ _ hka).trans na3
      refine wpAny_bind (seqEpoch_at na4 rfl ?_)
      refine wpAny_bind (listUpdate_at na4 rfl ?_ (Nat.zero_le _) (by show 1 ≤ 16777216 + 1; decide))
      simp only [bne_self_eq_false, Bool.false_eq_true, if_false]
      obtain ⟨c3, hc3⟩ : ∃ c3, (((s2.heap.update kS (Obj.mapSeq fun x => x.push key)).update kS (Obj.mapSeq fun _ => (#[] : Array Value))).update a (Obj.mapSeq fun _ => (#[v] : Array Value))).get? a = some (seqObj "list" #[v] c3) := ⟨_, get?_update_seq na4 fun _ => #[v]⟩
      have kk : ∀ b o, b ≠ kS → s2.heap.get? b = some o → ((s2.heap.update kS (Obj.mapSeq fun x => x.push key)).update kS (Obj.mapSeq fun _ => (#[] : Array Value))).get? b = some o := fun b o hb e => by
        rw [Heap.get?_update_other _ _ (Ne.symm hb), Heap.get?_update_other _ _ (Ne.symm hb)]
        exact e
      obtain ⟨f0, f1, f2, f3, f4, f5⟩ := I.fpOk (H' := H') (b := kS) hsk hk0
      have J2 := J.turned (t' := s2.toks) kk f0 f1 f3 f4 f5
      have J3 := Inv.take (t' := s2.toks) (o := .lst [x]) J2 (it := a) (h' := ((s2.heap.update kS (Obj.mapSeq fun x => x.push key)).update kS (Obj.mapSeq fun _ => (#[] : Array Value))).update a (Obj.mapSeq fun _ => (#[v] : Array Value)))
        (fun b o hb e => (Heap.get?_update_other _ _ (Ne.symm hb)).trans e) (I.fpOk (H' := H') (b := a) hsa ha0) ⟨by show 1 ≤ 16777216; decide, [v], c3, .cons rv .nil, hc3⟩
      show wpAny _ _ _ _ _ { s2 with heap := ((s2.heap.update kS (Obj.mapSeq fun x => x.push key)).update kS (Obj.mapSeq fun _ => (#[] : Array Value))).update a (Obj.mapSeq fun _ => (#[v] : Array Value)) }
      refine wpAny_pure ⟨rfl, .ref a, upd H' a (.lst [x]), J3, rfl, hQ y H' a qk ha0 (I.hok.fresh hsa)⟩
end
section
variable {X : Cx} {K : Kx} {E : XK}
def gSortK (gf : GF) (ge : GE) : GE := fun ρ cu => (ge ρ cu).bind fun d cu1 => match d with
  | .list [a] => (gf [.dat a] cu1).nox.bind fun _ cu2 => .ok (.list [a]) cu2
  | _ => .stuck
def fVal (X : Cx) (x : Str) : V := match X.mg x with
  | some (.ref f) => .ref f
  | _ => .non
def rSortK (X : Cx) (f : Str) (sp : Sp) : List V → List V → Hp → VK → Prop := fun vs zs H Q => ∃ a x, vs = [V.ref a] ∧ zs = [fVal X f] ∧ SqL X.K H a [x] ∧ ∃ Qk : VK, sp [x] H Qk E0 ∧ ∀ y H' l', Qk y H' → H' l' = none → H l' = none → Q (.ref l') (upd H' l' (.lst [x]))
theorem crk_sort {n : Str} {f : Addr} {k : Nat} {fd : FuncData} {ps : List Str} {sp : Sp} (Fn : FnOk X.prog X.w X.K X.mg X.base (L2.CX X.prog X.w) k f fd ps sp) (hr : Room (k + 1) X.A) (hb : Binds X.K fd ps []) (hm : X.mg n = some (.ref f)) : CallRK X (.builtin "sorted") [Str.ofString "key"] (rSortK X n sp) := by
  intro pins s σ H vs zs us ws Q I r rz h
  obtain ⟨a, x, rfl, rfl, hs, Qk, h1, h2⟩ := h
  obtain ⟨its, rv, hl, hz⟩ := I.list hs
  obtain ⟨u, rfl, ru⟩ := vals1 r
  obtain rfl : u = Value.ref a := ru
  obtain ⟨w, rfl, rw'⟩ := vals1 rz
  have ef : fVal X n = V.ref f := by
    unfold fVal
    rw [hm]
  rw [ef] at rw'
  obtain rfl : w = Value.ref f := rw'
  obtain ⟨v, rfl, rx⟩ := vals1 rv
  exact sorted_one I hl.isList rx Fn hr hb h1 h2
theorem pd_sortK {k : Nat} {e : Expr} {te : TE} {ge : GE} {x : Str} {gf : GF} {p p2 kp pos : Pos} (D : DefOk X.prog X.w X.K X.mg X.base K x k 1 gf) (hr : Room (k + 1) X.A) (hgl : Gl X "sorted") (hm : X.mg "sorted" = none) (hgx : Gl X x) (he : PD X K E e te ge)
    (hd : (x == ("__debug__" : Str)) = false := by decide) (hs1 : starEach [e] X.env = (false, eval e X.env) :: starEach [] X.env := by rfl)
    (hst : backTo pos (starEach [e] X.env) = (false, eval e X.env) :: backTo pos (starEach [] X.env) := by rfl) (hpl : (backTo pos (starEach [e] X.env)).any (·.1) = false := by rfl)
    (hall : (backToKw pos (keywordEach [⟨some "key", .Name x p2, kp⟩] X.env)).all (·.1.isSome) = true := by rfl) (hnone : (backToKw pos (keywordEach [⟨some "key", .Name x p2, kp⟩] X.env)).any (·.1.isNone) = false := by rfl)
    (hks : (backToKw pos (keywordEach [⟨some "key", .Name x p2, kp⟩] X.env)).filterMap (·.1) = [Str.ofString "key"] := by rfl) :
    PD X K E (.Call (.Name "sorted" p) [e] [⟨some "key", .Name x p2, kp⟩] pos) (tCKw (rSortK X x (spG K 1 gf)) (tCons te tNil) (tCons (tC (fVal X x)) tNil)) (gSortK gf ge) := by
  obtain ⟨f, fd, ps, Fn, hmx, hk, hb⟩ := D
  have ef : fVal X x = V.ref f := by
    unfold fVal
    rw [hmx]
  refine ⟨pe_callBK (crk_sort Fn hr hb hmx) hgl hm (by rfl) (pa_cons he.pe pa_nil hs1) (pk_cons (pe_glob (v := fVal X x) hgx hmx (by rw [ef]; rfl) hd) pk_nil) (by decide) (by decide) hst hpl hall hnone hks, fun c H0 G0 σ H G ρ cu Q s q => ?_⟩
  refine he.sem c H0 G0 σ H G ρ cu _ s (q.bind.imp fun d H1 G1 cu1 x1 w1 q1 v rv => ?_)
  split at q1
  · rename_i a
    obtain ⟨l, xs, rfl, hl, ra⟩ := rv.lst_of
    obtain ⟨y, rfl, ry⟩ := ra.one
    refine ⟨l, y, rfl, rfl, SqL.of (w1.sub _ _ hl), fun _ H' => ∃ G' cu', Ext c H1 G1 H' G' ∧ Wd K c H' G' cu' ∧ Post K E c H' G' (.ok (.list [a]) cu') (QD K Q), ⟨c, G1, [.dat a], cu1, rfl, w1, .dat ry .nil, post_nox ((Post.bind q1).imp fun _ H' G' cu' x2 w2 q2 _ _ => ⟨G', cu', x2, w2, q2⟩)⟩, fun _ H' l' hq hn _ => ?_⟩
    obtain ⟨G', cu', x2, w2, q2⟩ := hq
    exact new_lst w2 (ra.mono x2.g) (fun v' H2 G2 x w r => q2 H2 G2 x w v' r) hn
  · exact q1.elim
end
end DL

set_option Elab.async false
set_option linter.all false
set_option maxRecDepth 100000
set_option maxHeartbeats 2000000
set_option autoImplicit false
/-! x not in a list or tuple of plain values -/
namespace DL
open PySem PySem.Spec PyProof.Rows L2
def flatD : PyData → Option V
  | .none => some .non
  | .bool b => some (.bl b)
  | .int i => some (.int i)
  | .str x => some (.str x)
  | _ => none
def flatsD : List PyData → Option (List V)
  | [] => some []
  | d :: r => (flatD d).bind fun x => (flatsD r).map fun xs => x :: xs
theorem rp_flat {K : Kx} {G : Hp} {v x : V} {d : PyData} (r : Rp K G v d) (h : flatD d = some x) : v = x ∧ flatV x = true := by
  cases r <;> first | (cases h; exact ⟨rfl, rfl⟩) | cases h
theorem rpl_flats {K : Kx} {G : Hp} : ∀ {vs xs : List V} {ds : List PyData}, RpL K G vs ds → flatsD ds = some xs → vs = xs ∧ xs.all flatV = true
  | _, _, _, .nil, h => by cases h; exact ⟨rfl, rfl⟩
  | _, _, _, .cons r t, h => by
    unfold flatsD at h
    obtain ⟨x, e1, h⟩ := Option.bind_eq_some_iff.mp h
    obtain ⟨xs, e2, rfl⟩ := Option.map_eq_some_iff.mp h
    obtain ⟨rfl, f1⟩ := rp_flat r e1
    obtain ⟨rfl, f2⟩ := rpl_flats t e2
    exact ⟨rfl, by rw [List.all_cons, f1, f2]; rfl⟩
def dNotInF : PyData → PyData → Option PyData
  | d, .list ds => (flatD d).bind fun x => (flatsD ds).map fun xs => .bool (!inV x xs)
  | d, .tuple ds => (flatD d).bind fun x => (flatsD ds).map fun xs => .bool (!inV x xs)
  | _, _ => none
theorem opD_notInF {K : Kx} {F : PySem.W.Frag} (hKF : K.F = F := by assumption) : OpD K (rIn F true) dNotInF := by
  intro c H G cu v w d e z Q wd r1 r2 hz q
  unfold dNotInF at hz
  split at hz
  · obtain ⟨x, e1, hz⟩ := Option.bind_eq_some_iff.mp hz
    obtain ⟨xs, e2, rfl⟩ := Option.map_eq_some_iff.mp hz
    obtain ⟨a, ys, rfl, ha, ra⟩ := r2.lst_of
    obtain ⟨rfl, f1⟩ := rp_flat r1 e1
    obtain ⟨rfl, f2⟩ := rpl_flats ra e2
    exact ⟨a, _, rfl, .inl (SqL.of (wd.sub _ _ ha)), f1, f2, q _ H G Ext.refl wd (.bl _)⟩
  · obtain ⟨x, e1, hz⟩ := Option.bind_eq_some_iff.mp hz
    obtain ⟨xs, e2, rfl⟩ := Option.map_eq_some_iff.mp hz
    obtain ⟨a, ys, rfl, ha, ra⟩ := r2.tup_of
    obtain ⟨rfl, f1⟩ := rp_flat r1 e1
    obtain ⟨rfl, f2⟩ := rpl_flats ra e2
    exact ⟨a, _, rfl, .inr (TupAt.sq' hKF (TupAt.mono wd.sub ha)), f1, f2, q _ H G Ext.refl wd (.bl _)⟩
  · cases hz
end DL

set_option Elab.async false
set_option linter.all false
set_option maxRecDepth 100000
set_option maxHeartbeats 2000000
set_option autoImplicit false
/-! max(a list of integers, default=d) -/
namespace DL
open PySem PySem.Spec PyProof.Rows L2
def maxDef (d : Int) : List Int → Int
  | [] => d
  | y :: ys => PySem.W.maxOf y ys
section
variable {X : Cx} {K : Kx} {E : XK}
def rMaxDef (X : Cx) : List V → List V → Hp → VK → Prop := fun vs zs H Q => ∃ a ns d, vs = [V.ref a] ∧ zs = [V.int d] ∧ SqL X.K H a (ns.map V.int) ∧ Q (.int (maxDef d ns)) H
theorem dp_ints {F : PySem.W.Frag} {H : Hp} : ∀ ns : List Int, DpAll F H (ns.map V.int) (ns.map PyData.int)
  | [] => .nil
  | n :: ns => .cons (.int n) (dp_ints ns)
theorem crk_max (hc : X.calm = true) (hu : X.A.units + 64 < cLine) : CallRK X (.builtin "max") [Str.ofString "default"] (rMaxDef X) := by
  intro pins s σ H vs zs us ws Q I r rz h
  obtain ⟨a, ns, d, rfl, rfl, hs, q⟩ := h
  obtain ⟨its, rv, hl, hz⟩ := I.list hs
  obtain ⟨u, rfl, ru⟩ := vals1 r
  obtain rfl : u = Value.ref a := ru
  obtain ⟨w, rfl, rw'⟩ := vals1 rz
  obtain ⟨t, rfl⟩ : ∃ t, w = .int d t := rw'
  obtain ⟨as, ra⟩ := Dp.readsAll I (ns.map PyData.int) (ns.map V.int) its (dp_ints ns) rv
  have ra : ReadsAll s.heap its.toArray.toList (ns.map PySem.W.Datum.toD) as := by
    rw [show its.toArray.toList = its by simp]
    exact ra
  refine PySem.W.max_list_datum_default (α := Int) (xs := ns) (I.ok.hd hc) hl.isList ⟨as, ra⟩ (Nat.lt_of_le_of_lt (by show X.A.units + 1 + 0 ≤ X.A.units + 64; omega) hu) (fun e h' tk hk => ?_) fun y ys i v h' tk e hi hr hk => ?_
  · subst e
    exact ⟨.int d, H, I.kept hk, ⟨t, rfl⟩, q⟩
  · subst e
    obtain ⟨bs, hr⟩ := hr
    obtain ⟨t', rfl⟩ : ∃ t', v = .int (PySem.W.maxOf y ys) t' := by
      cases hr
      exact ⟨_, rfl⟩
    exact ⟨.int (PySem.W.maxOf y ys), H, I.kept hk, ⟨t', rfl⟩, q⟩
def gMaxDef (ge gd : GE) : GE := fun ρ cu => (ge ρ cu).bind fun l cu1 => (gd ρ cu1).bind fun d cu2 => match l, d with
  | .list ds, .int z => .ofO ((intsD ds).map fun ns => .int (maxDef z ns)) cu2
  | _, _ => .stuck
theorem pd_maxDef {e e2 : Expr} {te t2 : TE} {ge g2 : GE} {p kp pos : Pos} (hc : X.calm = true) (hu : X.A.units + 64 < cLine) (hgl : Gl X "max") (hm : X.mg "max" = none) (he : PD X K E e te ge) (h2 : PD X K E e2 t2 g2)
    (hs1 : starEach [e] X.env = (false, eval e X.env) :: starEach [] X.env := by rfl)
    (hst : backTo pos (starEach [e] X.env) = (false, eval e X.env) :: backTo pos (starEach [] X.env) := by rfl) (hpl : (backTo pos (starEach [e] X.env)).any (·.1) = false := by rfl)
    (hall : (backToKw pos (keywordEach [⟨some "default", e2, kp⟩] X.env)).all (·.1.isSome) = true := by rfl) (hnone : (backToKw pos (keywordEach [⟨some "default", e2, kp⟩] X.env)).any (·.1.isNone) = false := by rfl)
    (hks : (backToKw pos (keywordEach [⟨some "default", e2, kp⟩] X.env)).filterMap (·.1) = [Str.ofString "default"] := by rfl) :
    PD X K E (.Call (.Name "max" p) [e] [⟨some "default", e2, kp⟩] pos) (tCKw (rMaxDef X) (tCons te tNil) (tCons t2 tNil)) (gMaxDef ge g2) := by
  refine ⟨pe_callBK (crk_max hc hu) hgl hm (by rfl) (pa_cons he.pe pa_nil hs1) (pk_cons h2.pe pk_nil) (by decide) (by decide) hst hpl hall hnone hks, fun c H0 G0 σ H G ρ cu Q s q => ?_⟩
  refine he.sem c H0 G0 σ H G ρ cu _ s (q.bind.imp fun l H1 G1 cu1 x1 w1 q1 v rv => ?_)
  refine h2.sem c H0 G0 σ H1 G1 ρ cu1 _ (s.go x1 w1) (q1.bind.imp fun d H2 G2 cu2 x2 w2 q2 v2 rd => ?_)
  split at q2
  · rename_i ds z
    obtain ⟨a, xs, rfl, ha, ra⟩ := rv.lst_of
    obtain ⟨o, eo, q3⟩ := q2.ofO
    obtain ⟨ns, en, rfl⟩ := Option.map_eq_some_iff.mp eo
    have e1 := ints_rp (ra.mono x2.g) en
    subst e1
    have hl := w2.sub _ _ (x2.g _ _ ha)
    exact ⟨a, ns, z, rfl, by rw [rd.int_of], SqL.of hl, q3 H2 G2 Ext.refl w2 _ (.int _)⟩
  · exact q2.elim
end
end DL

set_option Elab.async false
set_option linter.all false
set_option maxRecDepth 100000
set_option maxHeartbeats 2000000
set_option autoImplicit false
/-! a <= b of two tuples of integers -/
namespace DL
open PySem PySem.Spec PyProof.Rows L2
def lexL (ns ms : List Int) : Bool := Ob.lexAt (fun j => decide (ns.getD j 0 = ms.getD j 0)) (fun j => decide (ns.getD j 0 ≤ ms.getD j 0)) (decide (ns.length ≤ ms.length)) 0 (min ns.length ms.length)
def dLeT : PyData → PyData → Option PyData
  | .tuple ds, .tuple es => match intsD ds, intsD es with
    | some ns, some ms => some (.bool (lexL ns ms))
    | _, _ => none
  | _, _ => none
theorem opD_leT {K : Kx} {F : PySem.W.Frag} (hKF : K.F = F := by assumption) : OpD K (rLeT F) dLeT := by
  intro c H G cu v w d e z Q wd r1 r2 hz q
  unfold dLeT at hz
  split at hz
  · split at hz
    · rename_i ds es _ _ ns ms h1 h2
      cases hz
      obtain ⟨a, xs, rfl, ha, ra⟩ := r1.tup_of
      obtain ⟨b, ys, rfl, hb, rb⟩ := r2.tup_of
      have e1 := ints_rp ra h1
      have e2 := ints_rp rb h2
      subst e1 e2
      exact ⟨a, b, ns, ms, rfl, rfl, TupAt.sq' hKF (TupAt.mono wd.sub ha), TupAt.sq' hKF (TupAt.mono wd.sub hb), q _ H G Ext.refl wd (.bl _)⟩
    · cases hz
  · cases hz
end DL

set_option Elab.async false
set_option linter.all false
set_option maxRecDepth 100000
set_option maxHeartbeats 2000000
set_option autoImplicit false
/-! zip of three, each a list or a tuple -/
namespace DL
open PySem PySem.Spec PyProof.Rows L2
def SqX (F : PySem.W.Frag) (H : Hp) (a : Addr) (xs : List V) : Bool → Prop
  | false => SqL F H a xs
  | true => SqT F H a xs
def ItX (h : Heap) (i a : Addr) (n : Nat) : Bool → Prop
  | false => h.IsListIter i a n
  | true => h.IsTupleIter i a n
def ItO (a : Addr) : Bool → Obj
  | false => { cls := .type "list_iterator", data := .fields #[.ref a, .int 0 0] }
  | true => { cls := .type "tuple_iterator", data := .fields #[.ref a, .int 0 0] }
theorem itx_obj {h : Heap} {i a : Addr} {n : Nat} {k : Bool} (x : ItX h i a n k) : ∃ o, h.get? i = some o ∧ ∀ v, o.data ≠ .cell v := by
  cases k with
  | false =>
    obtain ⟨o, e, _, d⟩ := x
    exact ⟨o, e, fun v q => by rw [d] at q; cases q⟩
  | true =>
    obtain ⟨o, e, _, d⟩ := x
    exact ⟨o, e, fun v q => by rw [d] at q; cases q⟩
theorem itx_at {h h' : Heap} {i a : Addr} {n : Nat} {k : Bool} (x : ItX h i a n k) (e : ∀ o, h.get? i = some o → h'.get? i = some o) : ItX h' i a n k := by
  cases k with
  | false => exact Heap.IsListIter.at x e
  | true => exact Heap.IsTupleIter.at x e
theorem itx_new {h : Heap} {i a : Addr} {k : Bool} (e : h.get? i = some (ItO a k)) : ItX h i a 0 k := by
  cases k with
  | false => exact ⟨_, e, rfl, rfl⟩
  | true => exact ⟨_, e, rfl, rfl⟩
section
variable {X : Cx} {pins : List (Addr × Obj)} {σ : L2.St} {H : Hp} {s : Shared}
theorem sqx_inj {a : Addr} {xs ys : List V} {k : Bool} (I : Inv X pins σ H s) (h : SqX X.K H a xs k) (h' : SqX X.K H a ys k) : xs = ys := by
  cases k with
  | false => exact I.list_inj h h'
  | true => exact I.tuple_inj h h'
theorem srcx {A : Around} {i a : Addr} {n : Nat} {xs : List V} {k : Bool} (hd : A.handled = none) (I : Inv X pins σ H s) (hq : SqX X.K H a xs k) (st : ItX s.heap i a n k) :
    ∃ (its : List Value) (St : Nat → Heap → Prop), Vals xs its ∧ Draws X.prog X.w A i [i, a] its.toArray.size (fun j v => its.toArray[j]? = some v) St ∧ St n s.heap ∧ ∀ m h', St m h' → ItX h' i a m k := by
  cases k with
  | false =>
    obtain ⟨its, rv, pl, _⟩ := I.list hq
    have hne : a ≠ i := fun q => by
      obtain ⟨o1, q1, c1, _⟩ := id st
      obtain ⟨o2, n2, q2, c2, _⟩ := id pl
      rw [q, q1] at q2; cases q2; rw [c1] at c2; exact absurd c2 (by decide)
    exact ⟨its, _, rv, Draws.list hd i a hne its.toArray, ⟨st, pl.isList⟩, fun m h' q => q.1⟩
  | true =>
    obtain ⟨its, rv, p2, _⟩ := I.tuple hq
    have hne : a ≠ i := fun q => by
      obtain ⟨o1, q1, c1, _⟩ := id st
      obtain ⟨o2, q2, c2, _⟩ := id p2
      rw [q, q1] at q2; cases q2; rw [c1] at c2; exact absurd c2 (by decide)
    exact ⟨its, _, rv, Draws.tuple hd i a hne its.toArray, ⟨st, p2⟩, fun m h' q => q.1⟩
theorem begx {a : Addr} {xs : List V} {k : Bool} (I : Inv X pins σ H s) (hq : SqX X.K H a xs k) : a < s.heap.objs.size ∧ ∃ H1 : Heap → Prop, Begins (.ref a) (ItO a k) H1 ∧ H1 s.heap := by
  cases k with
  | false =>
    obtain ⟨its, rv, pl, _⟩ := I.list hq
    exact ⟨pl.lt, _, begins_list a its.toArray, pl.isList⟩
  | true =>
    obtain ⟨its, rv, p2, _⟩ := I.tuple hq
    exact ⟨by obtain ⟨_, q, _⟩ := p2; exact Heap.lt_size q, _, begins_tuple a its.toArray, p2⟩
end
def Itz3 (K : PySem.W.Frag) (a b c : Addr) (k1 k2 k3 : Bool) : It where
  go := fun i H => ∃ (xs ys zs : List V) (x y z : V), SqX K H a xs k1 ∧ SqX K H b ys k2 ∧ SqX K H c zs k3 ∧ xs[i]? = some x ∧ ys[i]? = some y ∧ zs[i]? = some z
  yld := fun i H v H' => ∃ (q : Addr) (x y z : V), v = .ref q ∧ H q = none ∧ H' = upd H q (.tup [x, y, z]) ∧ (∀ xs, SqX K H a xs k1 → xs[i]? = some x) ∧ (∀ ys, SqX K H b ys k2 → ys[i]? = some y) ∧ ∀ zs, SqX K H c zs k3 → zs[i]? = some z
  stop := fun i H => ∃ xs ys zs : List V, SqX K H a xs k1 ∧ SqX K H b ys k2 ∧ SqX K H c zs k3 ∧ i ≤ xs.length ∧ i ≤ ys.length ∧ i ≤ zs.length ∧ (i = xs.length ∨ i = ys.length ∨ i = zs.length)
def Sn3 (a b c z TI TO i1 i2 i3 : Addr) (k1 k2 k3 : Bool) (i : Nat) (h : Heap) : Prop := IsZip h z TI TO .none ∧ IsTupOf3 h TI (.ref i1) (.ref i2) (.ref i3) ∧ (∃ x y u, IsTupOf3 h TO x y u) ∧ ItX h i1 a i k1 ∧ ItX h i2 b i k2 ∧ ItX h i3 c i k3
theorem turn_zip3 {P : Program} {w : World} {K : PySem.W.Frag} {elts : List Expr} {kk : Nat} {tpos : Pos} {a b c z TI TO i1 i2 i3 : Addr} {k1 k2 k3 : Bool} (D : ZipSep3 z TI TO i1 i2 i3 [i1, a] [i2, b] [i3, c]) :
    Turn P w K (.Tuple elts kk tpos) (Itz3 K a b c k1 k2 k3) [z, TI, TO, i1, i2, i3] z (Sn3 a b c z TI TO i1 i2 i3 k1 k2 k3) where
  mem := by simp
  obj := fun i h st m hm => by
    obtain ⟨hz, hTI, ⟨x, y, u, hTO⟩, h1, h2, h3⟩ := st
    simp only [List.mem_cons, List.not_mem_nil, or_false] at hm
    rcases hm with rfl | rfl | rfl | rfl | rfl | rfl
    · exact ⟨_, hz, fun v q => nomatch q⟩
    · exact ⟨_, hTI, fun v q => nomatch q⟩
    · exact ⟨_, hTO, fun v q => nomatch q⟩
    · exact itx_obj h1
    · exact itx_obj h2
    · exact itx_obj h3
  keep := fun i h h' st k => ⟨k z (by simp) _ st.1, k TI (by simp) _ st.2.1, let ⟨x, y, u, q⟩ := st.2.2.1; ⟨x, y, u, k TO (by simp) _ q⟩, itx_at st.2.2.2.1 fun o q => k i1 (by simp) o q, itx_at st.2.2.2.2.1 fun o q => k i2 (by simp) o q, itx_at st.2.2.2.2.2 fun o q => k i3 (by simp) o q⟩
  item := by
    intro X hP hw hK hc i pins s σ H E I hf st hg
    subst hP hw hK
    obtain ⟨hz, hTI, ⟨x0, y0, u0, hTO⟩, h1, h2, h3⟩ := st
    obtain ⟨xs, ys, zs, x, y, v, hqx, hqy, hqz, hx, hy, hv⟩ := hg
    have hd : X.A.in1.handled = none := I.ok.hd hc
    obtain ⟨its, S1, rv, D1, t1, f1⟩ := srcx hd I hqx h1
    obtain ⟨its2, S2, rv2, D2, t2, f2⟩ := srcx hd I hqy h2
    obtain ⟨its3, S3, rv3, D3, t3, f3⟩ := srcx hd I hqz h3
    obtain ⟨u, hu, ru⟩ := rv.get hx
    obtain ⟨u2, hu2, ru2⟩ := rv2.get hy
    obtain ⟨u3, hu3, ru3⟩ := rv3.get hv
    have lt1 : i < its.toArray.size := by rw [List.size_toArray]; exact (List.getElem?_eq_some_iff.mp hu).1
    have lt2 : i < its2.toArray.size := by rw [List.size_toArray]; exact (List.getElem?_eq_some_iff.mp hu2).1
    have lt3 : i < its3.toArray.size := by rw [List.size_toArray]; exact (List.getElem?_eq_some_iff.mp hu3).1
    refine wpAny_pyNext_zipD3_item D D1 D2 D3 hz hTI hTO t1 t2 t3 lt1 lt2 lt3 fun x1 x2 x3 h' tk P1 P2 P3 z' TO' s1 s2 s3 hT hsz hk => ?_
    have ex : ∀ {l : List Value} {q r : Value}, l.toArray[i]? = some q → l[i]? = some r → q = r := fun {l q r} e1 e2 => by
      rw [List.getElem?_toArray, e2] at e1
      exact (Option.some.inj e1).symm
    obtain rfl := ex P1 hu
    obtain rfl := ex P2 hu2
    obtain rfl := ex P3 hu3
    have lz := Heap.lt_size hz
    refine ⟨_, rfl, wpAny_letOwnedTupleGo_zip (s := { s with heap := h', toks := tk }) z' fun h'' z'' sb => ?_⟩
    have old : ∀ m o, m ≠ z → m ≠ TO → m ≠ i1 → m ≠ i2 → m ≠ i3 → s.heap.get? m = some o → h''.get? m = some o := fun m o n1 n2 n3 n4 n5 q => (sb.2 m n1).trans (hk m o n1 n2 n3 n4 n5 q)
    have new : ObjOk X.prog X.w (upd H s.heap.objs.size (.tup [x, y, v])) h'' s.heap.objs.size (.tup [x, y, v]) :=
      ⟨by show 3 ≤ sizeLine; decide, _, .cons ru (.cons ru2 (.cons ru3 .nil)), ⟨_, (sb.2 _ (Nat.ne_of_gt lz)).trans hT, rfl, _, rfl⟩⟩
    have I1 := I.turnedNew (t' := tk) (ch := [z, TI, TO, i1, i2, i3]) (fun m o hb q => old m o (fun e => hb (by simp [e])) (fun e => hb (by simp [e])) (fun e => hb (by simp [e])) (fun e => hb (by simp [e])) (fun e => hb (by simp [e])) q) hf (Nat.le_refl _) new
    refine ⟨.ref s.heap.objs.size, _, I1, rfl, ⟨_, x, y, v, rfl, I.hok.fresh (Nat.le_refl _), rfl, fun l hl => by rw [sqx_inj I hl hqx]; exact hx, fun l hl => by rw [sqx_inj I hl hqy]; exact hy, fun l hl => by rw [sqx_inj I hl hqz]; exact hv⟩,
      ⟨z'', old _ _ D.TIz D.TITO D.TIi1 D.TIi2 D.TIi3 hTI, ⟨_, _, _, (sb.2 _ D.TOz).trans TO'⟩, itx_at (f1 _ _ s1) fun o q => (sb.2 _ (Ne.symm D.zi1)).trans q, itx_at (f2 _ _ s2) fun o q => (sb.2 _ (Ne.symm D.zi2)).trans q, itx_at (f3 _ _ s3) fun o q => (sb.2 _ (Ne.symm D.zi3)).trans q⟩, fun m hcm => ?_⟩
    have hlt : m < s.heap.objs.size := by
      simp only [List.mem_cons, List.not_mem_nil, or_false] at hcm
      rcases hcm with rfl | rfl | rfl | rfl | rfl | rfl
      · exact lz
      · exact Heap.lt_size hTI
      · exact Heap.lt_size hTO
      · obtain ⟨_, q, _⟩ := itx_obj h1; exact Heap.lt_size q
      · obtain ⟨_, q, _⟩ := itx_obj h2; exact Heap.lt_size q
      · obtain ⟨_, q, _⟩ := itx_obj h3; exact Heap.lt_size q
    rw [upd_ne (Nat.ne_of_lt hlt)]
    exact (hf m hcm).1
  done := by
    intro X hP hw hK hc i pins s σ H E I hf st hg
    subst hP hw hK
    obtain ⟨hz, hTI, ⟨x0, y0, u0, hTO⟩, h1, h2, h3⟩ := st
    obtain ⟨xs, ys, zs, hqx, hqy, hqz, l1, l2, l3, l4⟩ := hg
    have hd : X.A.in1.handled = none := I.ok.hd hc
    obtain ⟨its, S1, rv, D1, t1, f1⟩ := srcx hd I hqx h1
    obtain ⟨its2, S2, rv2, D2, t2, f2⟩ := srcx hd I hqy h2
    obtain ⟨its3, S3, rv3, D3, t3, f3⟩ := srcx hd I hqz h3
    have n1 := rv.length
    have n2 := rv2.length
    have n3 := rv3.length
    refine wpAny_pyNext_zipD3_end D D1 D2 D3 hz hTI hTO t1 t2 t3 (by rw [List.size_toArray]; omega) (by rw [List.size_toArray]; omega) (by rw [List.size_toArray]; omega) (by rw [List.size_toArray, List.size_toArray, List.size_toArray]; omega) fun h' tk hk => ⟨rfl, ?_⟩
    exact I.turnedL (t' := tk) (ch := [z, TI, TO, i1, i2, i3]) (fun m o hb q => hk m o (fun e => hb (by simp [e])) (fun e => hb (by simp [e])) (fun e => hb (by simp [e])) (fun e => hb (by simp [e])) (fun e => hb (by simp [e])) q) hf
  self := fun A i s Q E st h => wpAny_pyIter_zip st.1 h
def iZip3 (F : PySem.W.Frag) (ta : TA) : TI := fun σ H R => ta σ H fun vs H1 => ∃ (a b c : Addr) (xs ys zs : List V) (k1 k2 k3 : Bool), vs = [.ref a, .ref b, .ref c] ∧ SqX F H1 a xs k1 ∧ SqX F H1 b ys k2 ∧ SqX F H1 c zs k3 ∧ R (Itz3 F a b c k1 k2 k3) H1
theorem pi_zip3 {X : Cx} {e e2 e3 : Expr} {ta : TA} {p pos tpos : Pos} {elts : List Expr} {kk : Nat} (hg : Gl X "zip") (hm : X.mg "zip" = none) (ha : PA X [e, e2, e3] ta)
    (hs : starEach [e, e2, e3] X.env = (false, eval e X.env) :: starEach [e2, e3] X.env) (hpl : (backTo pos (starEach [e2, e3] X.env)).any (·.1) = false) :
    PI X (.Tuple elts kk tpos) (.Call (.Name "zip" p) [e, e2, e3] [] pos) (iZip3 X.K ta) := by
  refine ⟨fun pins s σ H R I h => ?_⟩
  refine Call_ (ld_blt I hg hm PyProof.Rows.boot_zip (PyProof.Rows.callWith_type1 (thn (ha.run pos pins s σ H _ I h) fun us s1 ⟨vs, H1, I1, r1, q1⟩ => ?_) hs hpl))
  obtain ⟨a, b, c, xs, ys, zs, k1, k2, k3, ex, hqx, hqy, hqz, q⟩ := q1
  subst ex
  cases r1 with
  | cons r rr =>
    cases rr with
    | cons r' rr =>
      cases rr with
      | cons r'' rr =>
        cases rr
        cases r
        cases r'
        cases r''
        obtain ⟨la, Ha, B1, b1⟩ := begx I1 hqx
        obtain ⟨lb, Hb, B2, b2⟩ := begx I1 hqy
        obtain ⟨lc, Hc, B3, b3⟩ := begx I1 hqz
        refine zip_begins3 B1 B2 B3 b1 b2 b3 fun h' hz hTI hTO e1 e2 e3 hsz hk => wpAny_pyIter_zip hz ?_
        have I2 : Inv X pins σ H1 { s1 with heap := h' } := I1.kept (t' := s1.toks) hk
        have D := zip_sep3 (N := s1.heap.objs.size) (fp1 := [a]) (fp2 := [b]) (fp3 := [c]) (fun m hc => by rw [List.mem_singleton.mp hc]; exact la) (fun m hc => by rw [List.mem_singleton.mp hc]; exact lb) (fun m hc => by rw [List.mem_singleton.mp hc]; exact lc)
        refine ⟨_, [s1.heap.objs.size + 5, s1.heap.objs.size + 3, s1.heap.objs.size + 4, s1.heap.objs.size, s1.heap.objs.size + 1, s1.heap.objs.size + 2], _, _, H1, rfl, I2, turn_zip3 D, ⟨hz, hTI, ⟨_, _, _, hTO⟩, itx_new e1, itx_new e2, itx_new e3⟩, fun m hcm => ?_, q⟩
        have hle : s1.heap.objs.size ≤ m := by
          simp only [List.mem_cons, List.not_mem_nil, or_false] at hcm
          rcases hcm with e | e | e | e | e | e <;> rw [e] <;> omega
        exact I1.fpOk hle (I1.hok.fresh hle)
def zip3D : List PyData → List PyData → List PyData → List PyData
  | d :: ds, e :: es, f :: fs => .tuple [d, e, f] :: zip3D ds es fs
  | _, _, _ => []
theorem zip3D_length : ∀ ds es fs : List PyData, (zip3D ds es fs).length = min ds.length (min es.length fs.length)
  | [], _, _ => by simp [zip3D]
  | _ :: _, [], _ => by simp [zip3D]
  | _ :: _, _ :: _, [] => by simp [zip3D]
  | d :: ds, e :: es, f :: fs => by
    show (zip3D ds es fs).length + 1 = _
    rw [zip3D_length ds es fs]
    simp only [List.length_cons]
    omega
theorem zip3D_get : ∀ {ds es fs : List PyData} {i : Nat} {t : PyData}, (zip3D ds es fs)[i]? = some t → ∃ x y z, ds[i]? = some x ∧ es[i]? = some y ∧ fs[i]? = some z ∧ t = .tuple [x, y, z]
  | [], _, _, _, _, h => by simp [zip3D] at h
  | _ :: _, [], _, _, _, h => by simp [zip3D] at h
  | _ :: _, _ :: _, [], _, _, h => by simp [zip3D] at h
  | d :: ds, e :: es, f :: fs, 0, t, h => by
    have h : some (PyData.tuple [d, e, f]) = some t := h
    exact ⟨d, e, f, rfl, rfl, rfl, (Option.some.inj h).symm⟩
  | d :: ds, e :: es, f :: fs, i + 1, t, h => by
    have h : (zip3D ds es fs)[i]? = some t := by simpa [zip3D] using h
    obtain ⟨x, y, z, a, b, c, q⟩ := zip3D_get h
    exact ⟨x, y, z, by simpa using a, by simpa using b, by simpa using c, q⟩
def srcD : PyData → Option (Bool × List PyData)
  | .list ds => some (false, ds)
  | .tuple ds => some (true, ds)
  | _ => none
def dZip3 : List PyData → Option (List PyData)
  | [a, b, c] => (srcD a).bind fun x => (srcD b).bind fun y => (srcD c).map fun z => zip3D x.2 y.2 z.2
  | _ => none
section
variable {X : Cx} {K : Kx} {E : XK} {a b c : Expr} {ta : TA} {ga : GA} {pos : Pos}
/-- where a list or tuple of known data stands -/
def AtX (F : PySem.W.Frag) (G : Hp) (a : Addr) (xs : List V) : Bool → Prop
  | false => G a = some (.lst xs)
  | true => TupAt F G a xs
theorem atx_sq {F : PySem.W.Frag} (hKF : K.F = F) {c : Option Addr} {H G G1 : Hp} {cu : Cu} {a : Addr} {xs : List V} {k : Bool} (x : AtX K.F G1 a xs k) (m : ∀ b o, G1 b = some o → G b = some o) (w : Wd K c H G cu) : SqX F H a xs k := by
  cases k with
  | false => exact SqL.of (w.sub _ _ (m _ _ x))
  | true => exact TupAt.sq' hKF ((TupAt.mono m x).mono w.sub)
theorem src_rp {G : Hp} {v : V} {d : PyData} {k : Bool} {ds : List PyData} (r : Rp K G v d) (h : srcD d = some (k, ds)) : ∃ a xs, v = .ref a ∧ AtX K.F G a xs k ∧ RpL K G xs ds := by
  unfold srcD at h
  split at h
  · cases h
    obtain ⟨a, xs, e, ha, ra⟩ := r.lst_of
    exact ⟨a, xs, e, ha, ra⟩
  · cases h
    obtain ⟨a, xs, e, ha, ra⟩ := r.tup_of
    exact ⟨a, xs, e, ha, ra⟩
  · cases h
theorem wk_zip3 {F : PySem.W.Frag} (hKF : K.F = F) {G1 : Hp} {a b c : Addr} {xs ys zs : List V} {ds es fs : List PyData} {k1 k2 k3 : Bool} (h : AtX K.F G1 a xs k1) (r : RpL K G1 xs ds) (h' : AtX K.F G1 b ys k2) (r' : RpL K G1 ys es) (h'' : AtX K.F G1 c zs k3) (r'' : RpL K G1 zs fs) :
    Wk K (Itz3 F a b c k1 k2 k3) G1 (zip3D ds es fs) := by
  intro o H G cu m w
  have hA := atx_sq hKF h m w
  have hB := atx_sq hKF h' m w
  have hC := atx_sq hKF h'' m w
  have n1 := r.length
  have n2 := r'.length
  have n3 := r''.length
  refine ⟨fun i d e => ?_, ⟨xs, ys, zs, hA, hB, hC, by rw [zip3D_length]; omega, by rw [zip3D_length]; omega, by rw [zip3D_length]; omega, by rw [zip3D_length]; omega⟩⟩
  obtain ⟨x, y, z, e1, e2, e3, rfl⟩ := zip3D_get e
  obtain ⟨v, e1, rv⟩ := r.get e1
  obtain ⟨u, e2, ru⟩ := r'.get e2
  obtain ⟨t, e3, rt⟩ := r''.get e3
  refine ⟨⟨xs, ys, zs, v, u, t, hA, hB, hC, e1, e2, e3⟩, fun q H' yy => ?_⟩
  obtain ⟨T, x1, x2, x3, rfl, hT, rfl, f1, f2, f3⟩ := yy
  obtain rfl : v = x1 := Option.some.inj (e1.symm.trans (f1 xs hA))
  obtain rfl : u = x2 := Option.some.inj (e2.symm.trans (f2 ys hB))
  obtain rfl : t = x3 := Option.some.inj (e3.symm.trans (f3 zs hC))
  obtain ⟨n1, n2⟩ := w.new (o := .tup [v, u, t]) hT
  exact ⟨_, n1, n2, .tup upd_same (RpL.upd (.cons (rv.mono m) (.cons (ru.mono m) (.cons (rt.mono m) .nil))) (w.gp hT))⟩
theorem pid_zip3 {elts : List Expr} {kk : Nat} {tpos p : Pos} (hg : Gl X "zip") (hm : X.mg "zip" = none) (ha : PAD X K E [a, b, c] ta ga) (hs : starEach [a, b, c] X.env = (false, eval a X.env) :: starEach [b, c] X.env := by rfl) (hpl : (backTo pos (starEach [b, c] X.env)).any (·.1) = false := by rfl) (hKF : K.F = X.K := by assumption) :
    PID X K E (.Tuple elts kk tpos) (.Call (.Name "zip" p) [a, b, c] [] pos) (iZip3 X.K ta) (giArg dZip3 ga) := by
  refine ⟨pi_zip3 hg hm ha.pa hs hpl, fun c H0 G0 σ H G ρ cu R s q => ?_⟩
  refine ha.sem c H0 G0 σ H G ρ cu _ s (q.bind.imp fun as H1 G1 cu1 x1 w1 q1 vs rvs => ?_)
  obtain ⟨items, ez, q2⟩ := q1.ofO
  cases e : dats as with
  | none => rw [e] at ez; cases ez
  | some ds =>
    rw [e] at ez
    have ez : dZip3 ds = some items := ez
    have r := dats_rp rvs e
    unfold dZip3 at ez
    split at ez
    · obtain ⟨⟨k1, d1⟩, s1, ez⟩ := Option.bind_eq_some_iff.mp ez
      obtain ⟨⟨k2, d2⟩, s2, ez⟩ := Option.bind_eq_some_iff.mp ez
      obtain ⟨⟨k3, d3⟩, s3, rfl⟩ := Option.map_eq_some_iff.mp ez
      cases r with
      | cons r1 r =>
        cases r with
        | cons r2 r =>
          cases r with
          | cons r3 r =>
            cases r
            obtain ⟨a, xs, rfl, ha, ra⟩ := src_rp r1 s1
            obtain ⟨b, ys, rfl, hb, rb⟩ := src_rp r2 s2
            obtain ⟨c, zs, rfl, hc, rc⟩ := src_rp r3 s3
            exact ⟨a, b, c, xs, ys, zs, k1, k2, k3, rfl, atx_sq hKF ha (fun _ _ e => e) w1, atx_sq hKF hb (fun _ _ e => e) w1, atx_sq hKF hc (fun _ _ e => e) w1, q2 H1 G1 Ext.refl w1 _ (wk_zip3 hKF ha ra hb rb hc rc)⟩
    · cases ez
end
end DL

set_option Elab.async false
set_option linter.all false
set_option maxRecDepth 100000
set_option maxHeartbeats 2000000
set_option autoImplicit false
/-! zip of two, each a list or a tuple; a or b of any values -/
namespace DL
open PySem PySem.Spec PyProof.Rows L2
def ItzX (K : PySem.W.Frag) (a b : Addr) (k1 k2 : Bool) : It where
  go := fun i H => ∃ (xs ys : List V) (x y : V), SqX K H a xs k1 ∧ SqX K H b ys k2 ∧ xs[i]? = some x ∧ ys[i]? = some y
  yld := fun i H v H' => ∃ (q : Addr) (x y : V), v = .ref q ∧ H q = none ∧ H' = upd H q (.tup [x, y]) ∧ (∀ xs, SqX K H a xs k1 → xs[i]? = some x) ∧ ∀ ys, SqX K H b ys k2 → ys[i]? = some y
  stop := fun i H => ∃ xs ys : List V, SqX K H a xs k1 ∧ SqX K H b ys k2 ∧ i ≤ xs.length ∧ i ≤ ys.length ∧ (i = xs.length ∨ i = ys.length)
def SnX (a b z TI TO i1 i2 : Addr) (k1 k2 : Bool) (i : Nat) (h : Heap) : Prop := IsZip h z TI TO .none ∧ IsTupOf2 h TI (.ref i1) (.ref i2) ∧ (∃ x y, IsTupOf2 h TO x y) ∧ ItX h i1 a i k1 ∧ ItX h i2 b i k2
theorem turn_zipX {P : Program} {w : World} {K : PySem.W.Frag} {elts : List Expr} {kk : Nat} {tpos : Pos} {a b z TI TO i1 i2 : Addr} {k1 k2 : Bool} (D : ZipSep2 z TI TO i1 i2 [i1, a] [i2, b]) :
    Turn P w K (.Tuple elts kk tpos) (ItzX K a b k1 k2) [z, TI, TO, i1, i2] z (SnX a b z TI TO i1 i2 k1 k2) where
  mem := by simp
  obj := fun i h st m hm => by
    obtain ⟨hz, hTI, ⟨x, y, hTO⟩, h1, h2⟩ := st
    simp only [List.mem_cons, List.not_mem_nil, or_false] at hm
    rcases hm with rfl | rfl | rfl | rfl | rfl
    · exact ⟨_, hz, fun v q => nomatch q⟩
    · exact ⟨_, hTI, fun v q => nomatch q⟩
    · exact ⟨_, hTO, fun v q => nomatch q⟩
    · exact itx_obj h1
    · exact itx_obj h2
  keep := fun i h h' st k => ⟨k z (by simp) _ st.1, k TI (by simp) _ st.2.1, let ⟨x, y, q⟩ := st.2.2.1; ⟨x, y, k TO (by simp) _ q⟩, itx_at st.2.2.2.1 fun o q => k i1 (by simp) o q, itx_at st.2.2.2.2 fun o q => k i2 (by simp) o q⟩
  item := by
    intro X hP hw hK hc i pins s σ H E I hf st hg
    subst hP hw hK
    obtain ⟨hz, hTI, ⟨x0, y0, hTO⟩, h1, h2⟩ := st
    obtain ⟨xs, ys, x, y, hqx, hqy, hx, hy⟩ := hg
    have hd : X.A.in1.handled = none := I.ok.hd hc
    obtain ⟨its, S1, rv, D1, t1, f1⟩ := srcx hd I hqx h1
    obtain ⟨its2, S2, rv2, D2, t2, f2⟩ := srcx hd I hqy h2
    obtain ⟨u, hu, ru⟩ := rv.get hx
    obtain ⟨u2, hu2, ru2⟩ := rv2.get hy
    have lt1 : i < its.toArray.size := by rw [List.size_toArray]; exact (List.getElem?_eq_some_iff.mp hu).1
    have lt2 : i < its2.toArray.size := by rw [List.size_toArray]; exact (List.getElem?_eq_some_iff.mp hu2).1
    refine wpAny_pyNext_zipD2_item D D1 D2 hz hTI hTO t1 t2 lt1 lt2 fun x1 x2 h' tk P1 P2 z' TO' s1 s2 hT hsz hk => ?_
    have ex : ∀ {l : List Value} {q r : Value}, l.toArray[i]? = some q → l[i]? = some r → q = r := fun {l q r} e1 e2 => by
      rw [List.getElem?_toArray, e2] at e1
      exact (Option.some.inj e1).symm
    obtain rfl := ex P1 hu
    obtain rfl := ex P2 hu2
    have lz := Heap.lt_size hz
    refine ⟨_, rfl, wpAny_letOwnedTupleGo_zip (s := { s with heap := h', toks := tk }) z' fun h'' z'' sb => ?_⟩
    have old : ∀ m o, m ≠ z → m ≠ TO → m ≠ i1 → m ≠ i2 → s.heap.get? m = some o → h''.get? m = some o := fun m o n1 n2 n3 n4 q => (sb.2 m n1).trans (hk m o n1 n2 n3 n4 q)
    have new : ObjOk X.prog X.w (upd H s.heap.objs.size (.tup [x, y])) h'' s.heap.objs.size (.tup [x, y]) :=
      ⟨by show 2 ≤ sizeLine; decide, _, .cons ru (.cons ru2 .nil), ⟨_, (sb.2 _ (Nat.ne_of_gt lz)).trans hT, rfl, _, rfl⟩⟩
    have I1 := I.turnedNew (t' := tk) (ch := [z, TI, TO, i1, i2]) (fun m o hb q => old m o (fun e => hb (by simp [e])) (fun e => hb (by simp [e])) (fun e => hb (by simp [e])) (fun e => hb (by simp [e])) q) hf (Nat.le_refl _) new
    refine ⟨.ref s.heap.objs.size, _, I1, rfl, ⟨_, x, y, rfl, I.hok.fresh (Nat.le_refl _), rfl, fun l hl => by rw [sqx_inj I hl hqx]; exact hx, fun l hl => by rw [sqx_inj I hl hqy]; exact hy⟩,
      ⟨z'', old _ _ D.TIz D.TITO D.TIi1 D.TIi2 hTI, ⟨_, _, (sb.2 _ D.TOz).trans TO'⟩, itx_at (f1 _ _ s1) fun o q => (sb.2 _ (Ne.symm D.zi1)).trans q, itx_at (f2 _ _ s2) fun o q => (sb.2 _ (Ne.symm D.zi2)).trans q⟩, fun m hcm => ?_⟩
    have hlt : m < s.heap.objs.size := by
      simp only [List.mem_cons, List.not_mem_nil, or_false] at hcm
      rcases hcm with rfl | rfl | rfl | rfl | rfl
      · exact lz
      · exact Heap.lt_size hTI
      · exact Heap.lt_size hTO
      · obtain ⟨_, q, _⟩ := itx_obj h1; exact Heap.lt_size q
      · obtain ⟨_, q, _⟩ := itx_obj h2; exact Heap.lt_size q
    rw [upd_ne (Nat.ne_of_lt hlt)]
    exact (hf m hcm).1
  done := by
    intro X hP hw hK hc i pins s σ H E I hf st hg
    subst hP hw hK
    obtain ⟨hz, hTI, ⟨x0, y0, hTO⟩, h1, h2⟩ := st
    obtain ⟨xs, ys, hqx, hqy, l1, l2, l3⟩ := hg
    have hd : X.A.in1.handled = none := I.ok.hd hc
    obtain ⟨its, S1, rv, D1, t1, f1⟩ := srcx hd I hqx h1
    obtain ⟨its2, S2, rv2, D2, t2, f2⟩ := srcx hd I hqy h2
    have n1 := rv.length
    have n2 := rv2.length
    refine wpAny_pyNext_zipD2_end D D1 D2 hz hTI hTO t1 t2 (by rw [List.size_toArray]; omega) (by rw [List.size_toArray]; omega) (by rw [List.size_toArray, List.size_toArray]; omega) fun h' tk hk => ⟨rfl, ?_⟩
    exact I.turnedL (t' := tk) (ch := [z, TI, TO, i1, i2]) (fun m o hb q => hk m o (fun e => hb (by simp [e])) (fun e => hb (by simp [e])) (fun e => hb (by simp [e])) (fun e => hb (by simp [e])) q) hf
  self := fun A i s Q E st h => wpAny_pyIter_zip st.1 h
def iZipX (F : PySem.W.Frag) (ta : TA) : TI := fun σ H R => ta σ H fun vs H1 => ∃ (a b : Addr) (xs ys : List V) (k1 k2 : Bool), vs = [.ref a, .ref b] ∧ SqX F H1 a xs k1 ∧ SqX F H1 b ys k2 ∧ R (ItzX F a b k1 k2) H1
theorem pi_zipX {X : Cx} {e e2 : Expr} {ta : TA} {p pos tpos : Pos} {elts : List Expr} {kk : Nat} (hg : Gl X "zip") (hm : X.mg "zip" = none) (ha : PA X [e, e2] ta)
    (hs : starEach [e, e2] X.env = (false, eval e X.env) :: starEach [e2] X.env) (hpl : (backTo pos (starEach [e2] X.env)).any (·.1) = false) :
    PI X (.Tuple elts kk tpos) (.Call (.Name "zip" p) [e, e2] [] pos) (iZipX X.K ta) := by
  refine ⟨fun pins s σ H R I h => ?_⟩
  refine Call_ (ld_blt I hg hm PyProof.Rows.boot_zip (PyProof.Rows.callWith_type1 (thn (ha.run pos pins s σ H _ I h) fun us s1 ⟨vs, H1, I1, r1, q1⟩ => ?_) hs hpl))
  obtain ⟨a, b, xs, ys, k1, k2, ex, hqx, hqy, q⟩ := q1
  subst ex
  cases r1 with
  | cons r rr =>
    cases rr with
    | cons r' rr =>
      cases rr
      cases r
      cases r'
      obtain ⟨la, Ha, B1, b1⟩ := begx I1 hqx
      obtain ⟨lb, Hb, B2, b2⟩ := begx I1 hqy
      refine zip_begins2 B1 B2 b1 b2 fun h' hz hTI hTO e1 e2 hsz hk => wpAny_pyIter_zip hz ?_
      have I2 : Inv X pins σ H1 { s1 with heap := h' } := I1.kept (t' := s1.toks) hk
      have D := zip_sep2 (N := s1.heap.objs.size) (fp1 := [a]) (fp2 := [b]) (fun m hc => by rw [List.mem_singleton.mp hc]; exact la) (fun m hc => by rw [List.mem_singleton.mp hc]; exact lb)
      refine ⟨_, [s1.heap.objs.size + 4, s1.heap.objs.size + 2, s1.heap.objs.size + 3, s1.heap.objs.size, s1.heap.objs.size + 1], _, _, H1, rfl, I2, turn_zipX D, ⟨hz, hTI, ⟨_, _, hTO⟩, itx_new e1, itx_new e2⟩, fun m hcm => ?_, q⟩
      have hle : s1.heap.objs.size ≤ m := by
        simp only [List.mem_cons, List.not_mem_nil, or_false] at hcm
        rcases hcm with e | e | e | e | e <;> rw [e] <;> omega
      exact I1.fpOk hle (I1.hok.fresh hle)
def dZipX : List PyData → Option (List PyData)
  | [a, b] => (srcD a).bind fun x => (srcD b).map fun y => zipD x.2 y.2
  | _ => none
section
variable {X : Cx} {K : Kx} {E : XK} {a b : Expr} {ta tb : TE} {ga gb : GE} {taa : TA} {gaa : GA} {rest : List Expr} {pos : Pos}
theorem wk_zipX {F : PySem.W.Frag} (hKF : K.F = F) {G1 : Hp} {a b : Addr} {xs ys : List V} {ds es : List PyData} {k1 k2 : Bool} (h : AtX K.F G1 a xs k1) (r : RpL K G1 xs ds) (h' : AtX K.F G1 b ys k2) (r' : RpL K G1 ys es) :
    Wk K (ItzX F a b k1 k2) G1 (zipD ds es) := by
  intro o H G cu m w
  have hA := atx_sq hKF h m w
  have hB := atx_sq hKF h' m w
  have n1 := r.length
  have n2 := r'.length
  refine ⟨fun i d e => ?_, ⟨xs, ys, hA, hB, by rw [zipD_length]; omega, by rw [zipD_length]; omega, by rw [zipD_length]; omega⟩⟩
  obtain ⟨x, y, e1, e2, rfl⟩ := zipD_get e
  obtain ⟨v, e1, rv⟩ := r.get e1
  obtain ⟨u, e2, ru⟩ := r'.get e2
  refine ⟨⟨xs, ys, v, u, hA, hB, e1, e2⟩, fun q H' yy => ?_⟩
  obtain ⟨T, x1, x2, rfl, hT, rfl, f1, f2⟩ := yy
  obtain rfl : v = x1 := Option.some.inj (e1.symm.trans (f1 xs hA))
  obtain rfl : u = x2 := Option.some.inj (e2.symm.trans (f2 ys hB))
  obtain ⟨n1, n2⟩ := w.new (o := .tup [v, u]) hT
  exact ⟨_, n1, n2, .tup upd_same (RpL.upd (.cons (rv.mono m) (.cons (ru.mono m) .nil)) (w.gp hT))⟩
theorem pid_zipX {elts : List Expr} {kk : Nat} {tpos p : Pos} (hg : Gl X "zip") (hm : X.mg "zip" = none) (ha : PAD X K E [a, b] taa gaa) (hs : starEach [a, b] X.env = (false, eval a X.env) :: starEach [b] X.env := by rfl) (hpl : (backTo pos (starEach [b] X.env)).any (·.1) = false := by rfl) (hKF : K.F = X.K := by assumption) :
    PID X K E (.Tuple elts kk tpos) (.Call (.Name "zip" p) [a, b] [] pos) (iZipX X.K taa) (giArg dZipX gaa) := by
  refine ⟨pi_zipX hg hm ha.pa hs hpl, fun c H0 G0 σ H G ρ cu R s q => ?_⟩
  refine ha.sem c H0 G0 σ H G ρ cu _ s (q.bind.imp fun as H1 G1 cu1 x1 w1 q1 vs rvs => ?_)
  obtain ⟨items, ez, q2⟩ := q1.ofO
  cases e : dats as with
  | none => rw [e] at ez; cases ez
  | some ds =>
    rw [e] at ez
    have ez : dZipX ds = some items := ez
    have r := dats_rp rvs e
    unfold dZipX at ez
    split at ez
    · obtain ⟨⟨k1, d1⟩, s1, ez⟩ := Option.bind_eq_some_iff.mp ez
      obtain ⟨⟨k2, d2⟩, s2, rfl⟩ := Option.map_eq_some_iff.mp ez
      cases r with
      | cons r1 r =>
        cases r with
        | cons r2 r =>
          cases r
          obtain ⟨a, xs, rfl, ha, ra⟩ := src_rp r1 s1
          obtain ⟨b, ys, rfl, hb, rb⟩ := src_rp r2 s2
          exact ⟨a, b, xs, ys, k1, k2, rfl, atx_sq hKF ha (fun _ _ e => e) w1, atx_sq hKF hb (fun _ _ e => e) w1, q2 H1 G1 Ext.refl w1 _ (wk_zipX hKF ha ra hb rb)⟩
    · cases ez
def gOrT (ga gb : GE) : GE := fun ρ cu => (ga ρ cu).bind fun d cu1 => (Rs.ofO (dTru d) cu1).bind fun k cu2 => if k = true then .ok d cu2 else gb ρ cu2
theorem pd_orT {rest : List Expr} (h : PD X K E a ta ga) (h' : PD X K E (.BoolOp .Or (b :: rest) pos) tb gb) (hKF : K.F = X.K := by assumption) : PD X K E (.BoolOp .Or (a :: b :: rest) pos) (L2.tOrT X.K ta tb) (gOrT ga gb) := by
  refine ⟨L2.pe_orT h.pe h'.pe, fun c H0 G0 σ H G ρ cu Q s q => ?_⟩
  refine h.sem c H0 G0 σ H G ρ cu _ s (q.bind.imp fun d H1 G1 cu1 x1 w1 q1 v rv => ?_)
  obtain ⟨k, ek, q2⟩ := q1.bind.ofO
  refine ⟨k, tru_of hKF (rv.mono w1.sub) ek, ?_⟩
  have q3 := q2 H1 G1 Ext.refl w1
  cases k with
  | true => rw [if_pos rfl] at q3 ⊢; exact q3 H1 G1 Ext.refl w1 v rv
  | false => rw [if_neg Bool.false_ne_true] at q3 ⊢; exact h'.sem c H0 G0 σ H1 G1 ρ cu1 _ (s.go x1 w1) q3
def gAndT (ga gb : GE) : GE := fun ρ cu => (ga ρ cu).bind fun d cu1 => (Rs.ofO (dTru d) cu1).bind fun k cu2 => if k = true then gb ρ cu2 else .ok d cu2
theorem pd_andT {rest : List Expr} (h : PD X K E a ta ga) (h' : PD X K E (.BoolOp .And (b :: rest) pos) tb gb) (hKF : K.F = X.K := by assumption) : PD X K E (.BoolOp .And (a :: b :: rest) pos) (L2.tAndT X.K ta tb) (gAndT ga gb) := by
  refine ⟨L2.pe_andT h.pe h'.pe, fun c H0 G0 σ H G ρ cu Q s q => ?_⟩
  refine h.sem c H0 G0 σ H G ρ cu _ s (q.bind.imp fun d H1 G1 cu1 x1 w1 q1 v rv => ?_)
  obtain ⟨k, ek, q2⟩ := q1.bind.ofO
  refine ⟨k, tru_of hKF (rv.mono w1.sub) ek, ?_⟩
  have q3 := q2 H1 G1 Ext.refl w1
  cases k with
  | true => rw [if_pos rfl] at q3 ⊢; exact h'.sem c H0 G0 σ H1 G1 ρ cu1 _ (s.go x1 w1) q3
  | false => rw [if_neg Bool.false_ne_true] at q3 ⊢; exact q3 H1 G1 Ext.refl w1 v rv
end
end DL

set_option Elab.async false
set_option linter.all false
set_option maxRecDepth 100000
set_option maxHeartbeats 2000000
set_option autoImplicit false
/-! a law whose defs ask for repr: it is called where no repr is under way -/
namespace DL
open PySem PySem.Spec PyProof.Rows L2
/-- what a def promises where no repr is under way -/
structure FnG (P : Program) (w : World) (F : PySem.W.Frag) (mg : Str → Option Value) (base : Heap) (CX : CXT) (k : Nat) (f : Addr) (fd : FuncData) (ps : List Str) (sp : Sp) : Prop where
  len : ∀ vs H Q E, sp vs H Q E → vs.length = ps.length
  run : ∀ (A : Around), A.guards = some [] → ∀ (outer : List Env) (s : Shared) (H : Hp) (args : Args) (us : List Value) (vs : List V) (Q : VK) (E : XK), Room k A → Env0 P w F mg base A outer s H →
    BindsTo s fd args (ps.zip us) → Vals vs us → sp vs H Q E → codeAny (model P w) A (.call (.ref f) args) (CR CX outer P w H s Q E) s
theorem FnG.of {P : Program} {w : World} {F : PySem.W.Frag} {mg : Str → Option Value} {base : Heap} {CX : CXT} {k : Nat} {f : Addr} {fd : FuncData} {ps : List Str} {sp : Sp} (h : FnOk P w F mg base CX k f fd ps sp) : FnG P w F mg base CX k f fd ps sp :=
  ⟨h.len, fun A _ outer s H args us vs Q E r e b v q => h.run A outer s H args us vs Q E r e b v q⟩
/-- the abstract heap at the law's call: the script alone, where it is no object of the modules -/
def oneH (F : PySem.W.Frag) (a : Addr) (o : Obj) (xs : List V) : Hp := fun b => if b = a ∧ F.lookup a = none then some (.frz o (.lst xs)) else none
theorem oneH_some {F : PySem.W.Frag} {a b : Addr} {o : Obj} {xs : List V} {u : HO} (h : oneH F a o xs b = some u) : b = a ∧ F.lookup a = none ∧ u = .frz o (.lst xs) := by
  unfold oneH at h
  split at h
  · rename_i c
    exact ⟨c.1, c.2, (Option.some.inj h).symm⟩
  · cases h
section
variable {P : Program} {w : World} {K : PySem.W.Frag} {mg mb : Str → Option Value} {CX : CXT} {k : Nat} {fa a : Addr} {fd : FuncData} {x : Str} {sp : Sp} {s₁ : Shared} {vs : List Value} {ns : List Int}
abbrev scrO (vs : List Value) : Obj := { cls := .type "list", data := .seq vs.toArray }
theorem law_callG (KX : K.In s₁.heap) (hns : s₁.heap.Ns mainGlobals mg) (hb : s₁.heap.Ns builtinsNs mb) (hbb : ∀ x : Str, x ≠ "__name__" → mb x = bootBuiltins x) (hlim : s₁.heap.NoLimit)
    (hg : s₁.gens = #[]) (ha : s₁.heap.get? a = some (scrO vs)) (hi : IntsAre vs ns) (hl : ns.length ≤ sizeLine) (hr : Room k callerA)
    (hF : ∀ base : Heap, K.In base → base.Ns mainGlobals mg → FnG P w K mg base CX k fa fd [x] sp) (hbind : ∀ (s : Shared) (u : Value), BindsTo s fd ⟨[u], []⟩ [(x, u)])
    (hsp : ∀ H : Hp, SqL K H a (ns.map V.int) → sp [.ref a] H (fun v _ => v = .bl true) fun _ _ _ => False) (hCX : ∀ H e s', CX [] H s₁ (fun _ _ _ => False) e s' → False) :
    codeAny (model P w) callerA (.call (.ref fa) ⟨[.ref a], []⟩) (fun r s' => r = .ok (.ret (.bool true)) ∧ OldK s₁.heap s'.heap ∧ s'.os = s₁.os ∧ AllBare s'.gens) s₁ := by
  have rel := L2.vals_ints hi
  generalize hH : oneH K a (scrO vs) (ns.map V.int) = H
  have inv : ∀ {b : Addr} {u : HO}, H b = some u → b = a ∧ K.lookup a = none ∧ u = .frz (scrO vs) (.lst (ns.map V.int)) := fun {b u} e => oneH_some (by rw [hH]; exact e)
  have free : ∀ {b : Addr} {o : Obj}, s₁.heap.get? b = some o → (∀ vs n, o.data ≠ .seq vs n) → H b = none := fun {b o} e n => by
    cases q : H b with
    | none => rfl
    | some u =>
      obtain ⟨rfl, _, _⟩ := inv q
      cases ha.symm.trans e
      exact absurd rfl (n _ _)
  have old : ∀ {b : Addr} {o : Obj}, s₁.heap.get? b = some o → H b = none → (hidT s₁.heap H).get? b = some o := fun e n => hidT_get e n
  have nsp : ∀ {b : Addr} {m : Str → Option Value}, s₁.heap.Ns b m → (hidT s₁.heap H).Ns b m := by
    rintro b m ⟨o, es, ep, e, d, r⟩
    exact ⟨o, es, ep, old e (free e fun vs n z => by rw [d] at z; cases z), d, r⟩
  have kin : K.In (hidT s₁.heap H) := fun b o e => old (KX b o e) (by
    cases q : H b with
    | none => rfl
    | some u =>
      obtain ⟨rfl, z, _⟩ := inv q
      rw [z] at e; cases e)
  have ok : HOk P w H s₁.heap := fun b u e => by
    obtain ⟨rfl, _, rfl⟩ := inv e
    exact ⟨ha, by rw [List.length_map]; exact hl, vs, _, rel, ha⟩
  have sq : SqL K H a (ns.map V.int) := by
    cases q : K.lookup a with
    | none => exact .inl (.inr ⟨scrO vs, by rw [← hH]; exact if_pos ⟨rfl, q⟩⟩)
    | some o =>
      cases (KX a o q).symm.trans ha
      exact .inr ⟨_, vs.toArray, _, q, rfl, rfl, rfl, by rw [List.size_toArray, hi.length]; exact hl, by simpa using rel⟩
  obtain ⟨mc, l1, l2⟩ := hlim
  have e0 : Env0 P w K mg (hidT s₁.heap H) callerA [] s₁ H :=
    ⟨rfl, ⟨kin, nsp hns, ⟨mb, nsp hb, hbb⟩, ⟨mc, nsp l1, l2⟩⟩, fun b o e => of_hidT e, Nat.le_of_eq (hidT_size _ _), trivial, fun b z => absurd (show b ∈ ([] : List Addr) from z) List.not_mem_nil, ok, .of_eq hg⟩
  have run := (hF _ kin (nsp hns)).run callerA rfl [] s₁ H ⟨[.ref a], []⟩ [.ref a] [.ref a] _ _ hr e0 (hbind s₁ (.ref a)) (.cons rfl .nil) (hsp H sq)
  refine codeAny_mono run fun r s' h => ?_
  match r, h with
  | .error e, h => exact (hCX H e s' h).elim
  | .ok (.ret u), ⟨v, H', os, bare, un, ok', r', q⟩ =>
    cases (show v = .bl true from q)
    cases (show u = Value.bool true from r')
    refine ⟨rfl, OldK.of_keep fun b o e => ?_, os, bare⟩
    cases q : H b with
    | none => exact un.keep b o e q (fun z => absurd (show b ∈ ([] : List Addr) from z) List.not_mem_nil) List.not_mem_nil
    | some u =>
      obtain ⟨rfl, _, rfl⟩ := inv q
      cases (ha.symm.trans e)
      exact (ok' b _ (un.frzs b _ _ q)).1
  | .ok .next, h => exact h.elim
  | .ok .brk, h => exact h.elim
  | .ok .cont, h => exact h.elim
end
end DL

set_option Elab.async false
set_option linter.all false
set_option maxRecDepth 100000
set_option maxHeartbeats 2000000
set_option autoImplicit false
/-! repr of a tuple or a list of data, where no repr is under way -/
namespace DL
open PySem PySem.Spec PyProof.Rows L2
def repB (d : PyData) : Bool := d.showable && (!d.hasDict && (decide (d.depth ≤ 63) && decide (d.shown.length ≤ sizeLine)))
def bRep (b : Bool) : Str := if b then "True" else "False"
def dRep : List PyData → Option PyData
  | [.bool b] => some (.str (bRep b))
  | [.tuple ds] => if repB (.tuple ds) = true then some (.str (PyData.tuple ds).shown) else none
  | [.list ds] => if repB (.list ds) = true then some (.str (PyData.list ds).shown) else none
  | _ => none
theorem bb_repr : bootBuiltins "repr" = some (.builtin "repr") := by decide +kernel
section
variable {X : Cx} {K : Kx}
def rRep (X : Cx) : List V → Hp → VK → Prop := fun vs H Q => (∃ b, vs = [V.bl b] ∧ Q (.str (bRep b)) H) ∨ ∃ a d, vs = [V.ref a] ∧ Dp X.K H (.ref a) d ∧ repB d = true ∧ Q (.str d.shown) H
theorem cr_rep (hu : X.A.units + 64 < cLine) (hg : X.A.guards = some []) : CallR X (.builtin "repr") (rRep X) := by
  intro pins s σ H vs us Q I r h
  rcases h with ⟨b, rfl, q⟩ | ⟨a, d, rfl, hd, hb, q⟩
  · obtain ⟨u, rfl, ru⟩ := vals1 r
    obtain rfl : u = Value.bool b := ru
    exact PySem.P.repr_of_bool ⟨.str _, H, I.tok _, ⟨_, rfl⟩, q⟩
  obtain ⟨u, rfl, ru⟩ := vals1 r
  obtain rfl : u = Value.ref a := ru
  obtain ⟨as, rd⟩ := Dp.reads I d _ _ hd (show RelV (V.ref a) (Value.ref a) from rfl)
  unfold repB at hb
  simp only [Bool.and_eq_true, Bool.not_eq_true', decide_eq_true_eq] at hb
  obtain ⟨h1, h2, h3, h4⟩ := hb
  refine PySem.repr_of_reads' rd h1 (fun z => by rw [h2] at z; cases z) hg (by omega) (fun _ _ e => e) (fun h' u tk k => ?_) h4
  exact ⟨.str d.shown, H, I.kept (t' := tk) k, ⟨u, rfl⟩, q⟩
theorem callD_rep (hKF : K.F = X.K := by assumption) : CallD K (rRep X) dRep := by
  intro c H G cu vs ds z Q wd r hz q
  unfold dRep at hz
  split at hz
  · cases hz
    obtain ⟨v, rfl, rv⟩ := r.one
    rw [rv.bl_of]
    exact .inl ⟨_, rfl, q _ H G Ext.refl wd (.str _)⟩
  · split at hz
    · rename_i hb
      cases hz
      obtain ⟨v, rfl, rv⟩ := r.one
      have dp := (rv.mono wd.sub).dp' hKF (plain_noDict _ (by unfold repB at hb; simp only [Bool.and_eq_true, Bool.not_eq_true'] at hb; exact hb.2.1))
      obtain ⟨a, xs, rfl, _⟩ := rv.tup_of
      exact .inr ⟨a, _, rfl, dp, hb, q _ H G Ext.refl wd (.str _)⟩
    · cases hz
  · split at hz
    · rename_i hb
      cases hz
      obtain ⟨v, rfl, rv⟩ := r.one
      have dp := (rv.mono wd.sub).dp' hKF (plain_noDict _ (by unfold repB at hb; simp only [Bool.and_eq_true, Bool.not_eq_true'] at hb; exact hb.2.1))
      obtain ⟨a, xs, rfl, _⟩ := rv.lst_of
      exact .inr ⟨a, _, rfl, dp, hb, q _ H G Ext.refl wd (.str _)⟩
    · cases hz
  · cases hz
end
end DL

set_option Elab.async false
set_option linter.all false
set_option maxRecDepth 100000
set_option maxHeartbeats 2000000
set_option autoImplicit false
/-! try with clauses of which some bear a name -/
namespace DL
open PySem PySem.Spec PyProof.Rows L2
abbrev SuW := Addr → Value → Option Addr → TS
/-- the clause's name stands in slot i while its suite runs, and is gone behind it -/
def Ends.off (D : Ends) (i : Nat) : Ends := ⟨fun σ H => D.nx (σ.set i none) H, D.rt, fun σ H => D.bk (σ.set i none) H, fun σ H => D.ct (σ.set i none) H⟩
def suW (o : Option Nat) (t : SuW) (a : Addr) (cls : Value) (d : Option Addr) (D : Ends) (σ : L2.St) (H : Hp) : Prop := match o with
  | none => t a cls d D σ H
  | some i => t a cls d (Ends.off D i) (σ.set i (some (.ref a))) H
def wCl (F : PySem.W.Frag) (W : WX) (D : Ends) : List (Value × Option Nat × SuW) → WX
  | [] => W
  | q :: r => fun cls d σ H => ∃ b, PySem.W.exmOne F cls q.1 = some b ∧ (b = true → ∀ a, H a = none → suW q.2.1 q.2.2 a cls d D σ H) ∧ (b = false → wCl F W D r cls d σ H)
/-- a suite's run, for whatever exception of fields -/
def SuOk (X : Cx) (suite : List Stmt) (t : SuW) : Prop := ∀ (a : Addr) (o : Obj) (cls : Value) (d : Option Addr) (pn : List (Addr × Obj)), Zc cls d o → (∃ fs, o.data = .fields fs) → PSs (X.suite a ((a, o) :: pn)) suite (t a cls d)
inductive ClOk (X : Cx) : List ExceptHandler → List (Value × Option Nat × SuW) → Prop
  | nil : ClOk X [] []
  | plain {x : Str} {c : Value} {t : SuW} {st : Stmt} {sts : List Stmt} {p p' : Pos} {hs : List ExceptHandler} {l : List (Value × Option Nat × SuW)} : Names X x c → SuOk X (st :: sts) t → ClOk X hs l →
      ClOk X (.ExceptHandler (some (.Name x p)) none (st :: sts) p' :: hs) ((c, none, t) :: l)
  | named {x n : Str} {i : Nat} {c : Value} {t : SuW} {st : Stmt} {sts : List Stmt} {p p' : Pos} {hs : List ExceptHandler} {l : List (Value × Option Nat × SuW)} : X.N[i]? = some n → X.env.kindOf n = some .local → Names X x c → SuOk X (st :: sts) t → ClOk X hs l →
      ClOk X (.ExceptHandler (some (.Name x p)) (some n) (st :: sts) p' :: hs) ((c, some i, t) :: l)
section
variable {X : Cx}
/-- the class named by a clause is read -/
theorem names_read {x : Str} {c : Value} {p : Pos} {a : Addr} {pn : List (Addr × Obj)} {σ : L2.St} {H : Hp} {s : Shared} {Q : Value → Shared → Prop} {E : Value → Shared → Prop} (hc : Names X x c) (I : Inv (X.suite a pn) [] σ H s) (q : Q c s) :
    wpAny (model X.prog X.w) (X.A.mark (some (.ref a))) (eval (.Name x p) X.env) Q E s := by
  rcases hc with ⟨g, nd, m | ⟨m, v, nn⟩⟩
  · exact ld_glob (X := X.suite a pn) I g m q nd
  · exact ld_blt (X := X.suite a pn) I g m v q nn nd
theorem unsuiteP {a : Addr} {q : Addr × Obj} {pins : List (Addr × Obj)} {D : Ends} (ok : X.Ok) {f : Flow} {s : Shared} (h : SP (X.suite a (q :: (X.pn ++ pins))) [] D f s) : SP X pins D f s := by
  cases f with
  | ret u => exact let ⟨v, σ, H, I, r, z⟩ := h; ⟨v, σ, H, I.unsuite ok, r, z⟩
  | next => exact let ⟨σ, H, I, z⟩ := h; ⟨σ, H, I.unsuite ok, z⟩
  | brk => exact let ⟨σ, H, I, z⟩ := h; ⟨σ, H, I.unsuite ok, z⟩
  | cont => exact let ⟨σ, H, I, z⟩ := h; ⟨σ, H, I.unsuite ok, z⟩
variable {body : List Stmt} {h₀ : ExceptHandler} {hs : List ExceptHandler} {l : List (Value × Option Nat × SuW)} {pos : Pos} {tb : WX → TS} {W₀ : WX}
theorem ps_try_cl (hst : X.stack = X.env :: X.outer) (hfr : X.env.frame = some X.env.locals) (hN : X.N.Nodup) (tk : Takes X W₀)
    (hb : ∀ (W : WX) (pn : List (Addr × Obj)) (xe : Value → Shared → Prop), Takes (X.tr pn xe) W → PassesOwn (model X.prog X.w) X.A X.env xe → PSs (X.tr pn xe) body (tb W)) (hcl : ClOk X (h₀ :: hs) l) :
    PS X (.Try body (h₀ :: hs) [] [] pos) (fun D σ H => tb (wCl X.K W₀ D l) D σ H) := by
  refine ⟨fun pins s σ H D I h => ?_⟩
  have ok := I.ok
  have fram : X.A.frames = some (X.env :: X.outer) := ok.frames.trans (congrArg some hst)
  refine wpAny_Try_except (wpAny_mono ((hb (wCl X.K W₀ D l) (X.pn ++ pins) (fun e s₁ => wpAny (model X.prog X.w) X.A (noteFrame e X.env) (fun _ s₂ =>
    wpAny (model X.prog X.w) X.A (setFlight e none) (fun _ s₃ => wpAny (model X.prog X.w) X.A (handleBy e X.env (h₀ :: hs)) (SP X pins D) X.xe s₃) X.xe s₂) X.xe s₁)
    (fun u s' y => ?_) PassesOwn.looking).run [] s σ H D (I.toTry _) h) (fun f s1 y => ?_) fun _ _ y => y)
  case refine_2 =>
    cases f with
    | next => exact let ⟨σ1, H1, J, z⟩ := y; wpAny_execs_nil ⟨σ1, H1, J.ofTry ok, z⟩
    | brk => exact let ⟨σ1, H1, J, z⟩ := y; ⟨σ1, H1, J.ofTry ok, z⟩
    | cont => exact let ⟨σ1, H1, J, z⟩ := y; ⟨σ1, H1, J.ofTry ok, z⟩
    | ret u => exact let ⟨v, σ1, H1, J, r, z⟩ := y; ⟨v, σ1, H1, J.ofTry ok, r, z⟩
  obtain ⟨a, B, sI, pi', σ1, H1, cls, d, rfl, J0, nb, up, sky, na, os, ag, wish⟩ := y
  have J : Inv X pins σ1 H1 sI := J0.ofTry ok
  have sk : Sky B (X.env :: X.outer) a (Zc cls d) X.env.locals s'.heap := hst ▸ sky
  show wpAny (model X.prog X.w) X.A (noteFrame (.ref a) X.env) _ _ _
  refine Sky.land Zc.steady fram hfr sk fun h3 fl3 up3 => ?_
  have I3 : Inv X pins σ1 H1 { s' with heap := h3 } := J.landed nb fl3.1 (up.trans up3) os ag
  obtain ⟨o3, v3, at3, zc3, dt3⟩ := fl3.there
  -- the exception is no frame
  have far : a ∉ frs (X.env :: X.outer) := fun m => by
    obtain ⟨_, o', e', nf⟩ := fl3.2.2.1.mem m
    cases at3.symm.trans e'
    exact nf _ dt3
  have farL : a ≠ X.env.locals := fun z => far (List.mem_filterMap.mpr ⟨X.env, .head _, by rw [hfr, z]⟩)
  have farF : a ∉ X.fs := fun m => let ⟨e, me, q⟩ := List.mem_filterMap.mp m; far (List.mem_filterMap.mpr ⟨e, .tail _ me, q⟩)
  have go : ∀ {hs' : List ExceptHandler} {l' : List (Value × Option Nat × SuW)}, ClOk X hs' l' → wCl X.K W₀ D l' cls d σ1 H1 → wpAny (model X.prog X.w) X.A (handleBy (.ref a) X.env hs') (SP X pins D) X.xe { s' with heap := h3 } := by
    have looks : PySem.W.Looks (model X.prog X.w) h3 (typeOf (.ref a)) cls := fun _ _ _ _ k q => wpAny_typeOf_ref (k _ _ at3) (zc3.1 ▸ q)
    intro hs' l' ck
    induction ck with
    | nil =>
      intro w
      obtain ⟨k1, k2, k3, oe, vs, T, oT, ts', he, hz, hd, h1, hr⟩ := id fl3
      have last : wpAny (model X.prog X.w) X.A (setFlight (.ref a) X.env.frame) (fun _ t => wpAny (model X.prog X.w) X.A (throw (.ref a) : Sem Flow) (SP X pins D) X.xe t) X.xe { s' with heap := h3 } := by
        rw [hfr]
        exact HandSPX.setFlight_upZ fl3 fun h4 x4 up4 => wpAny_throw (tk _ _ ⟨a, B, sI, pins, σ1, H1, cls, d, rfl, J, nb, (up.trans up3).trans up4, .inr (.inr (hst ▸ x4)), na, os, ag, w⟩)
      refine wpAny_handleBy_nil ?_
      unfold PySem.passOn
      refine wpAny_bind (wpAny_field he hd h1 ?_)
      rw [if_neg (by simp : ¬ ((Value.ref T == Value.none) = true))]
      first
        | exact wpAny_bind (wpAny_pure (wpAny_bind last))
        | exact wpAny_bind last
    | plain hc hsu _ ih =>
      rintro ⟨b, mt, yes, no⟩
      refine wpAny_handleBy_cons (codeAny_handlers_test ?_) nofun
      refine names_read hc (I3.suite at3 dt3 na farL farF) ((PySem.W.exm_one (M := model X.prog X.w) I3.kIn looks mt).here ?_)
      cases b with
      | false => exact ih (no rfl)
      | true =>
        refine codeAny_handlers_suite (HandSPX.lands_againZ fl3 fun h4 fl4 up4 => ?_)
        have I4 : Inv X pins σ1 H1 { s' with heap := h4 } := J.landed nb fl4.1 ((up.trans up3).trans up4) os ag
        obtain ⟨o4, v4, at4, zc4, dt4⟩ := fl4.there
        refine wpAny_mono ((hsu a o4 cls d (X.pn ++ pins) zc4 ⟨_, dt4⟩).run [] _ _ H1 _ (I4.suite at4 dt4 na farL farF) (yes rfl a na)) (fun f s6 y => ?_) fun _ _ z => z.elim
        have y' := unsuiteP ok y
        cases f <;> exact y'
    | @named x n i c t st sts p p' hs2 l2 hi hl hc hsu _ ih =>
      rintro ⟨b, mt, yes, no⟩
      refine wpAny_handleBy_cons (codeAny_handlers_test ?_) nofun
      refine names_read hc (I3.suite at3 dt3 na farL farF) ((PySem.W.exm_one (M := model X.prog X.w) I3.kIn looks mt).here ?_)
      cases b with
      | false => exact ih (no rfl)
      | true =>
        refine codeAny_handlers_suite_as (HandSPX.lands_againZ fl3 fun h4 fl4 up4 => ?_)
        have I4 : Inv X pins σ1 H1 { s' with heap := h4 } := J.landed nb fl4.1 ((up.trans up3).trans up4) os ag
        obtain ⟨o4, v4, at4, zc4, dt4⟩ := fl4.there
        refine store_ok (X := X.suite a ((a, o4) :: (X.pn ++ pins))) (v := .ref a) (I4.suite at4 dt4 na farL farF) hN hi (.inl hl) rfl (fun s5 S5 => ?_) (.inr hl)
        refine wpAny_mono ((hsu a o4 cls d (X.pn ++ pins) zc4 ⟨_, dt4⟩).run [] s5 _ H1 _ S5 (yes rfl a na)) (fun f s6 y => ?_) fun _ _ z => z.elim
        have y' := unsuiteP ok y
        cases f with
        | next => exact let ⟨_, _, J6, q⟩ := y'; gone_ok J6 hN hi hl fun s7 J7 => ⟨_, _, J7, q⟩
        | brk => exact let ⟨_, _, J6, q⟩ := y'; gone_ok J6 hN hi hl fun s7 J7 => ⟨_, _, J7, q⟩
        | cont => exact let ⟨_, _, J6, q⟩ := y'; gone_ok J6 hN hi hl fun s7 J7 => ⟨_, _, J7, q⟩
        | ret u => exact let ⟨_, _, _, J6, r, q⟩ := y'; gone_ok J6 hN hi hl fun s7 J7 => ⟨_, _, _, J7, r, q⟩
  exact go hcl wish
end
end DL

set_option Elab.async false
set_option linter.all false
set_option maxRecDepth 100000
set_option maxHeartbeats 2000000
set_option autoImplicit false
/-! an error that bears a limit -/
namespace DL
open PySem PySem.Spec PyProof.Rows L2
abbrev kType : Value := .type "type"
/-- C: the class of errors with a limit, over P; fI: its __init__ -/
structure LimC (F : PySem.W.Frag) (C P fI : Addr) : Prop where
  ox : OexC F C
  iC : PySem.W.findIn F (.ref C) "__init__" = some (some (.ref fI))
  tI : PySem.W.typeIn F (.ref fI) = some (.type "function")
  xf : XfC F C
  no : PySem.W.findIn F (.ref C) "limit" = some none
  rd : PySem.W.readsIn F P kType = true
  ga : PySem.W.specialIn F (.ref P) "__getattribute__" = some (some (.builtin "type.__getattribute__"))
  vI : PySem.W.findCls F (.ref P) kType "__init__" = some (.val (.builtin "ValueError.__init__"))
def oexB (F : PySem.W.Frag) (C : Addr) : Bool := match F.lookup C with
  | some ⟨.type t, _, .cls cd, sl⟩ => decide (t = "type") && (match cd.mro, sl.toList with
    | .ref C' :: bm, [_, _, _, _, some (.builtin n), _] => decide (C' = C) && (decide (n = "ValueError.__new__") && (!cd.hasDel && (cd.hasDict && PySem.HandSPX.refsVE bm)))
    | _, _ => false)
  | _ => false
def limB (F : PySem.W.Frag) (C P fI : Addr) : Bool := oexB F C && (He.eqO (PySem.W.findIn F (.ref C) "__setattr__") (some (some (.builtin "object.__setattr__"))) && (decide (PySem.W.typeIn F (.ref C) = some (.type "type")) && (PySem.W.keepIn F (.ref C) &&
  (He.eqO (PySem.W.findIn F (.ref C) "__init__") (some (some (.ref fI))) && (decide (PySem.W.typeIn F (.ref fI) = some (.type "function")) && (xfB F C && (He.eqO (PySem.W.findIn F (.ref C) "limit") (some none) &&
  (PySem.W.readsIn F P kType && (He.eqO (PySem.W.specialIn F (.ref P) "__getattribute__") (some (some (.builtin "type.__getattribute__"))) && (match PySem.W.findCls F (.ref P) kType "__init__" with | some (.val (.builtin b)) => decide (b = "ValueError.__init__") | _ => false))))))))))
theorem oexB_ok {F : PySem.W.Frag} {C : Addr} (h : oexB F C = true) : ∃ nm q N bs bm sn sub ab col dd k0 k1 k2 k3 k5, F.lookup C = some (excClassObj nm q C N bs bm true sn sub ab col dd k0 k1 k2 k3 k5 "ValueError.__new__") ∧ PySem.HandSPX.refsVE bm = true := by
  unfold oexB at h
  split at h
  · rename_i t dd cd sl e
    rw [Bool.and_eq_true, decide_eq_true_eq] at h
    obtain ⟨rfl, h⟩ := h
    split at h
    · rename_i C' bm k0 k1 k2 k3 n k5 em es
      simp only [Bool.and_eq_true, decide_eq_true_eq, Bool.not_eq_true'] at h
      obtain ⟨rfl, rfl, hd, hh, hr⟩ := h
      obtain ⟨nm, bs, mro, ns, qn, hdct, sn, sub, ab, col, del⟩ := cd
      obtain ⟨sl⟩ := sl
      dsimp only at em es hd hh
      subst em es hd hh
      exact ⟨_, _, _, _, _, _, _, _, _, _, _, _, _, _, _, e, hr⟩
    · cases h
  · cases h
theorem limB_ok {F : PySem.W.Frag} {C P fI : Addr} (h : limB F C P fI = true) : LimC F C P fI := by
  unfold limB at h
  simp only [Bool.and_eq_true, decide_eq_true_eq] at h
  obtain ⟨a1, a2, a3, a4, a5, a6, a7, a8, a9, a10, a11⟩ := h
  have x := xfB_ok a7
  refine ⟨⟨oexB_ok a1, He.eqO_ok a2, x.exC, a3, a4⟩, He.eqO_ok a5, a6, x, He.eqO_ok a8, a9, He.eqO_ok a10, ?_⟩
  split at a11
  · rename_i b e
    rw [of_decide_eq_true a11] at e
    exact e
  · cases a11
section
variable {X : Cx} {e : Expr} {es : List Expr} {ta : TA} {x : Str} {p1 p2 pos : Pos}
/-- the base class's __init__, called by the class's name -/
theorem pe_baseInit {C P fI : Addr} {pl : Sem Bool} (T : LimC X.K C P fI) (hg : Gl X x) (hm : X.mg x = some (.ref P)) (ha : PA X (e :: es) ta) (hdb : (x == ("__debug__" : Str)) = false := by decide)
    (hc : eval (.Call (.Attribute (.Name x p1) "__init__" p2) (e :: es) [] pos) X.env = (do
      let o ← eval (.Name x p1) X.env
      standAt p2.atName
      let (g, fst) ← holding [o] (getMethod o "__init__" pl)
      callWith pos g fst (backTo pos (starEach (e :: es) X.env)) (backToKw pos (keywordEach [] X.env))) := by rfl)
    (hst : starEach (e :: es) X.env = (false, eval e X.env) :: starEach es X.env := by rfl) (hpl : (backTo pos (starEach es X.env)).any (·.1) = false := by rfl) :
    PE X (.Call (.Attribute (.Name x p1) "__init__" p2) (e :: es) [] pos) (tVeI X.K ta) := by
  refine ⟨fun pins s σ H Q I h => PySem.W.methodCall_KW (ld_glob I hg hm ?_ hdb) hc⟩
  refine PySem.W.method_cls I.kIn T.ga (PySem.W.cls_value I.kIn T.rd T.vI (by decide +kernel) ?_)
  show wpAny _ _ (callWith pos (Value.builtin "ValueError.__init__") [] (backTo pos (starEach (e :: es) X.env)) []) _ _ _
  refine PyProof.Rows.callWith_method1 (thn (ha.run pos pins _ σ H _ (I.tok _) h) fun us s1 ⟨vs, H1, I1, r, a, C', ws, ev, n, T', ex, q⟩ => ?_) hst hpl
  subst ev
  obtain ⟨u, ur, rfl, ru, rr⟩ : ∃ u ur, us = u :: ur ∧ RelV (V.ref a) u ∧ Vals ws ur := by cases r with | cons a b => exact ⟨_, _, rfl, a, b⟩
  obtain rfl : u = Value.ref a := ru
  exact oinit_ok T' I1 ex (by rw [← Paired.length rr, sizeLine_eq]; omega) fun s' J => ⟨.non, H1, J, rfl, q⟩
end
/-- what __init__ keeps -/
def spLim (F : PySem.W.Frag) (C : Addr) : Sp := fun vs H Q _ => ∃ (a : Addr) (z : Int), vs = [.ref a, .int z] ∧ H a = some (exo a C none) ∧ ∀ dx, H dx = none → dx ≠ a → Q .non (upd (upd H dx (exd dx [("limit", .int z)])) a (exo a C (some dx)))
/-- the reading of its two rows -/
theorem lim_read {F : PySem.W.Frag} {C P fI a : Addr} {z : Int} {y : Str} {H : Hp} {D : L2.Ends} {Q : VK} (T : LimC F C P fI) (e : H a = some (exo a C none)) (q : ∀ dx, H dx = none → dx ≠ a → Q .non (upd (upd H dx (exd dx [("limit", .int z)])) a (exo a C (some dx))))
    (hD : ∀ σ H', Q .non H' → D.nx σ H') :
    tSeq (tDrop (tVeI F (tCons (tVar 0) (tCons (tC (.str y)) tNil)))) (tOst F "limit" (tVar 0) (tVar 1)) D (L2.start ["self", "limit"] [.ref a, .int z]) H :=
  ⟨_, rfl, a, C, [.str y], rfl, by show 1 ≤ 1000; omega, T.ox, e, _, rfl, _, rfl, a, C, rfl, T.ox, T.no, .inl ⟨e, fun dx h1 h2 => hD _ _ (q dx h1 h2)⟩⟩
/-- what a text with such a class says -/
def LimOk (P : Program) (w : World) (F : PySem.W.Frag) (mg : Str → Option Value) (base : Heap) (K : Kx) (x : Str) (C : Addr) : Prop :=
  mg x = some (.ref C) ∧ ∃ (B fI : Addr) (fd : FuncData), LimC F C B fI ∧ FnOk P w F mg base (L2.CX P w) 1 fI fd ["self", "limit"] (spLim F C) ∧ Binds F fd ["self", "limit"] []
theorem pass_no {P : Program} {w : World} {X : Cx} : Passes (L2.CX P w) X (fun _ _ _ => False) := fun _ _ _ _ _ _ _ h => by
  obtain ⟨_, _, _, _, _, _, _, _, _, _, _, _, z⟩ := h
  exact z.elim
def gRaiseL (kz : Int → Option Nat) (g : GE) : GS := fun ρ cu => (g ρ cu).bind fun d cu1 => match d with
  | .int z => (match kz z with
    | some k => .exc k cu1
    | none => .stuck)
  | _ => .stuck
section
variable {X : Cx} {K : Kx} {E : XK}
theorem psd_raiseL {kz : Int → Option Nat} {C : Addr} {x : Str} {p pos pos2 : Pos} {e : Expr} {te : TE} {ge : GE} (hc : X.calm = true) (tk : Takes X (fun cls d _ H => E cls d H)) (T : LimOk X.prog X.w X.K X.mg X.base K x C) (hr : Room 2 X.A) (hg : Gl X x)
    (hk : ∀ z k, kz z = some k → K.CL k = C ∧ K.LM k = some z) (he : PD X K E e te ge) (hdb : (x == ("__debug__" : Str)) = false := by decide) (hst : starEach [e] X.env = (false, eval e X.env) :: starEach [] X.env := by rfl) (hpl : (backTo pos (starEach [] X.env)).any (·.1) = false := by rfl) :
    PSD X K E (.Raise (some (.Call (.Name x p) [e] [] pos)) none pos2) (fun _ σ H => tMkO C (spLim X.K C) [] (tCons te tNil) σ H fun cls d H' => E cls d H') (gRaiseL kz ge) := by
  obtain ⟨hm, B, fI, fd, L, F1, hb⟩ := T
  refine ⟨ps_raise hc tk (pmk_oex L.ox L.iC L.tI F1 hr hb .nil pass_no hg hm (pa_cons he.pe pa_nil hst) hdb hst hpl), fun c H0 G0 σ H G ρ cu D s q => ?_⟩
  refine he.sem c H0 G0 σ H G ρ cu _ s ((q.exp s).imp fun d H1 G1 cu1 x1 w1 q1 v rv => ?_)
  cases d with
  | int z =>
    dsimp only at q1
    cases hz : kz z with
    | none => rw [hz] at q1; exact q1.elim
    | some k =>
      rw [hz] at q1
      obtain ⟨h1, h2⟩ := hk z k hz
      cases rv.int_of
      refine ⟨by show 1 ≤ 1000; omega, fun a ha => ⟨a, z, rfl, upd_same, fun dx hd ne => ⟨rfl, dx, [("limit", .int z)], upd_same, (upd_ne ne).trans upd_same, ?_, ?_⟩⟩⟩
      · rw [upd_ne ne] at hd; exact hd
      · rw [upd_ne ne] at hd
        have eH : upd (del (upd (upd (upd H1 a (exo a C none)) dx (exd dx [("limit", .int z)])) a (exo a C (some dx))) a) dx (.xd [("limit", .int z)]) = upd H1 dx (.xd [("limit", .int z)]) := by
          funext b
          by_cases hbd : b = dx
          · rw [hbd, upd_same, upd_same]
          · rw [upd_ne hbd, upd_ne hbd]
            by_cases hba : b = a
            · rw [hba, del_same, ha]
            · rw [del_ne hba, upd_ne hba, upd_ne hbd, upd_ne hba]
        rw [eH, ← h1]
        obtain ⟨x2, w2, _⟩ := w1.newH (o := .xd [("limit", .int z)]) hd
        refine q1 _ G1 ((s.ext.trans x1).trans x2) w2 (some dx) ?_
        unfold XD
        rw [h2]
        exact ⟨dx, rfl, upd_same⟩
  | none => exact q1.elim
  | bool _ => exact q1.elim
  | str _ => exact q1.elim
  | list _ => exact q1.elim
  | tuple _ => exact q1.elim
  | dict _ => exact q1.elim
end
end DL

set_option Elab.async false
set_option linter.all false
set_option maxRecDepth 100000
set_option maxHeartbeats 2000000
set_option autoImplicit false
/-! try whose clauses return what they tell of the error alone -/
namespace DL
open PySem PySem.Spec PyProof.Rows L2
def tOfS (K : Kx) (E : XK) (g : GS) : TS := fun D σ H => ∃ c H0 G0 G ρ cu, SRep K c H0 G0 σ H G ρ cu ∧ PostS K E c H0 G0 (g ρ cu) D
theorem PSsD.canon {X : Cx} {K : Kx} {E : XK} {st : List Stmt} {t : TS} {g : GS} (h : PSsD X K E st t g) : PSs X st (tOfS K E g) :=
  ⟨fun pins s σ H D I ⟨c, H0, G0, G, ρ, cu, r, q⟩ => h.ps.run pins s σ H D I (h.sem c H0 G0 σ H G ρ cu D r q)⟩
/-- a wish that knows how many slots there are -/
theorem takes_len {X : Cx} {W : WX} (t : Takes X W) : Takes X (fun cls d _ H => ∀ σ, σ.length = X.N.length → W cls d σ H) :=
  fun u s' ⟨a, B, sI, pins, σ, H, cls, d, e, I, nb, up, sky, na, os, ag, w⟩ => t u s' ⟨a, B, sI, pins, σ, H, cls, d, e, I, nb, up, sky, na, os, ag, w σ I.len⟩
def gTryR (g : GS) (ok : Nat → Bool) (res : Nat → PyData) : GS := fun ρ cu => match g ρ cu with
  | .stuck => .stuck
  | .exc k cu' => if ok k = true then .ok (.ret (res k)) cu' else .stuck
  | .ok o cu' => .ok o cu'
section
variable {X : Cx} {K : Kx} {E : XK}
theorem psd_tryR {body : List Stmt} {h₀ : ExceptHandler} {hs : List ExceptHandler} {l : List (Value × Option Nat × SuW)} {pos : Pos} {g : GS} {ok : Nat → Bool} {res : Nat → PyData}
    (hst : X.stack = X.env :: X.outer) (hfr : X.env.frame = some X.env.locals) (hN : X.N.Nodup)
    (hb : ∀ (pn : List (Addr × Obj)) (xe : Value → Shared → Prop) (E' : XK), Takes (X.tr pn xe) (fun cls d _ H => E' cls d H) → PassesOwn (model X.prog X.w) X.A X.env xe → ∃ t, PSsD (X.tr pn xe) K E' body t g) (hcl : ClOk X (h₀ :: hs) l)
    (hw : ∀ k, ok k = true → ∀ (D : L2.Ends) (σ : L2.St) (H : Hp) (d : Option Addr) (c : Option Addr) (G : Hp) (cu : Cu), σ.length = X.N.length → XD K k d H → Wd K c H G cu →
      (∀ v H' G', Ext c H G H' G' → Wd K c H' G' cu → Rp K G' v (res k) → D.rt v H') → wCl X.K (fun _ _ _ _ => False) D l (.ref (K.CL k)) d σ H) :
    PSD X K E (.Try body (h₀ :: hs) [] [] pos) (fun D σ H => tOfS K (fun cls d H => ∀ σ, σ.length = X.N.length → wCl X.K (fun _ _ _ _ => False) D l cls d σ H) g D σ H) (gTryR g ok res) := by
  refine ⟨ps_try_cl (tb := fun W D σ H => tOfS K (fun cls d H => ∀ σ, σ.length = X.N.length → W cls d σ H) g D σ H) hst hfr hN takes0 (fun W pn xe tk hp => ?_) hcl, fun c H0 G0 σ H G ρ cu D s q => ?_⟩
  · obtain ⟨t, h⟩ := hb pn xe (fun cls d H => ∀ σ, σ.length = X.N.length → W cls d σ H) (takes_len tk) hp
    exact h.canon
  · refine ⟨c, H0, G0, G, ρ, cu, s, ?_⟩
    unfold gTryR at q
    cases hg : g ρ cu with
    | stuck => rw [hg] at q; exact q
    | ok o cu1 =>
      rw [hg] at q
      cases o <;> exact q
    | exc k cu1 =>
      rw [hg] at q
      dsimp only at q
      split at q
      · rename_i hk
        exact fun H' G' x w d hd σ' hl => hw k hk D σ' H' d c G' cu1 hl hd w fun v H2 G2 x2 w2 r => q v H2 G2 (x.trans x2) w2 r
      · exact q.elim
end
/-- nothing is known of the slots -/
theorem srep_un {K : Kx} {c : Option Addr} {H G : Hp} {σ : L2.St} {n : Nat} {cu : Cu} (w : Wd K c H G cu) (hl : σ.length = n) : SRep K c H G σ H G (List.replicate n .un) cu := by
  have un : ∀ (i : Nat) (s : Sl), (List.replicate n Sl.un)[i]? = some s → s = .un := fun i s e => by
    rw [List.getElem?_replicate] at e
    split at e
    · exact (Option.some.inj e).symm
    · cases e
  exact ⟨w, Ext.refl, by rw [List.length_replicate, hl], fun i d e => (nomatch un i _ e), fun i e => (nomatch un i _ e), fun _ => 0, fun i ds e => (nomatch un i _ e), fun i j ds es e => (nomatch un i _ e)⟩
abbrev E0 : XK := fun _ _ _ => False
/-- a clause that returns what is written -/
theorem su_const {X : Cx} {K : Kx} {st : List Stmt} {g : GS} (h : ∀ (a : Addr) (o : Obj) (pn : List (Addr × Obj)), ∃ t, PSsD (X.suite a ((a, o) :: pn)) K E0 st t g) : SuOk X st (fun _ _ _ => tOfS K E0 g) :=
  fun a o _ _ pn _ _ => let ⟨_, q⟩ := h a o pn; q.canon
theorem su_const_read {K : Kx} {g : GS} {r : PyData} {D : L2.Ends} {σ : L2.St} {H : Hp} {c : Option Addr} {G : Hp} {cu : Cu} {n : Nat} (hl : σ.length = n) (hg : ∀ cu, g (List.replicate n .un) cu = .ok (.ret r) cu) (w : Wd K c H G cu)
    (q : ∀ v H' G', Ext c H G H' G' → Wd K c H' G' cu → Rp K G' v r → D.rt v H') : tOfS K E0 g D σ H :=
  ⟨c, H, G, G, _, cu, srep_un w hl, by rw [hg]; exact fun v H' G' x w' r' => q v H' G' x w' r'⟩
/-- a clause `return ('..', e.limit)` -/
theorem su_lim {X : Cx} {C P fI : Addr} {wd n : Str} {i j : Nat} {q1 q2 q3 q4 q5 : Pos} {k0 : Nat} (T : LimC X.K C P fI) (hn : ∀ (a : Addr) (o : Obj) (pn : List (Addr × Obj)), PE (X.suite a ((a, o) :: pn)) (.Name n q1) (tVar i))
    (hb : ∀ (a : Addr) (o : Obj) (pn : List (Addr × Obj)), attributeBase (.Name n q1) "limit" (X.suite a ((a, o) :: pn)).env (eval (.Name n q1) (X.suite a ((a, o) :: pn)).env) = eval (.Name n q1) (X.suite a ((a, o) :: pn)).env := by intro _ _ _; rfl)
    (h1 : ∀ (a : Addr) (o : Obj) (pn : List (Addr × Obj)), starEach [.Constant (.str wd) j q3, .Attribute (.Name n q1) "limit" q2] (X.suite a ((a, o) :: pn)).env = (false, eval (.Constant (.str wd) j q3) (X.suite a ((a, o) :: pn)).env) :: starEach [.Attribute (.Name n q1) "limit" q2] (X.suite a ((a, o) :: pn)).env := by intro _ _ _; rfl)
    (h2 : ∀ (a : Addr) (o : Obj) (pn : List (Addr × Obj)), starEach [.Attribute (.Name n q1) "limit" q2] (X.suite a ((a, o) :: pn)).env = (false, eval (.Attribute (.Name n q1) "limit" q2) (X.suite a ((a, o) :: pn)).env) :: starEach [] (X.suite a ((a, o) :: pn)).env := by intro _ _ _; rfl) :
    SuOk X [.Return (some (.Tuple [.Constant (.str wd) j q3, .Attribute (.Name n q1) "limit" q2] k0 q4)) q5] (fun a cls d => tRet (tTup (tCons (tC (.str wd)) (tCons (tXf a cls d C "limit" (tVar i)) tNil)))) :=
  fun a o cls d pn hz hf => pss_one (ps_ret (pe_tup (pa_cons pe_str (pa_cons (pe_xf T.xf T.no hz hf (hn a o pn) (hb a o pn)) pa_nil (h2 a o pn)) (h1 a o pn))))
theorem su_lim_read {K : Kx} {C a : Addr} {wd : Str} {i : Nat} {d : Option Addr} {D : L2.Ends} {σ : L2.St} {H : Hp} {c : Option Addr} {G : Hp} {cu : Cu} {z : Int} (hi : i < σ.length) (hd : ∃ b, d = some b ∧ H b = some (.xd [("limit", .int z)])) (w : Wd K c H G cu)
    (q : ∀ v H' G', Ext c H G H' G' → Wd K c H' G' cu → Rp K G' v (.tuple [.str wd, .int z]) → D.rt v H') :
    tRet (tTup (tCons (tC (.str wd)) (tCons (tXf a (.ref C) d C "limit" (tVar i)) tNil))) (Ends.off D i) (σ.set i (some (.ref a))) H := by
  obtain ⟨b, rfl, e⟩ := hd
  refine ⟨.ref a, by rw [List.getElem?_set_self hi], rfl, rfl, b, _, .int z, rfl, e, rfl, by show 2 ≤ sizeLine; rw [sizeLine_eq]; omega, fun p hp => ?_⟩
  exact new_tup (ds := [.str wd, .int z]) w (.cons (.str _) (.cons (.int _) .nil)) (fun v' H' G' x w' r => q v' H' G' x w' r) hp
end DL

set_option Elab.async false
set_option linter.all false
set_option maxRecDepth 100000
set_option maxHeartbeats 2000000
set_option autoImplicit false
/-! a dict of the modules: texts to integers -/
namespace DL
open PySem PySem.Spec PyProof.Rows L2
structure KD (F : PySem.W.Frag) (w : World) (p : Addr) (tab : List (Str × Int)) : Prop where
  kd : ∃ es n, KDict F w p es n
  get : ∀ z, ∃ r, PySem.W.nsIn F p z = some r ∧ match tab.lookup z with
    | some v => ∃ t, r = some (.int v t)
    | none => r = none
def kvB (F : PySem.W.Frag) (p : Addr) (tab : List (Str × Int)) : Bool := tab.all fun q => match PySem.W.nsIn F p q.1 with
  | some (some (.int j _)) => decide (j = q.2)
  | _ => false
theorem nsIn_none {F : PySem.W.Frag} {P : Params} {p : Addr} {o : Obj} {es : Array DictEntry} {n : Nat} {ks : List Str} {z : Str} (hl : F.lookup p = some o) (hd : o.data = .dict es n) (hk : es.toList.map He.keyOf = He.keysIn P ks) (hz : z ∉ ks) : PySem.W.nsIn F p z = some none := by
  have key : ∀ (l : List DictEntry) (ks : List Str), l.map He.keyOf = He.keysIn P ks → z ∉ ks → (l.find? (·.key.isStr z) = none) ∧ l.any (·.refKey) = false := by
    intro l
    induction l with
    | nil => intro ks _ _; exact ⟨rfl, rfl⟩
    | cons e l ih =>
      intro ks h hz
      cases ks with
      | nil => cases h
      | cons k ks =>
        have h1 : He.keyOf e :: l.map He.keyOf = some (k, PyData.keyHash P k) :: He.keysIn P ks := h
        injection h1 with h2 h3
        obtain ⟨i1, i2⟩ := ih ks h3 (fun m => hz (.tail _ m))
        unfold He.keyOf at h2
        split at h2
        · rename_i x t q
          have e1 := (Prod.mk.inj (Option.some.inj h2)).1
          subst e1
          have ne : ¬ (x = z) := fun q => hz (by rw [q]; exact .head _)
          refine ⟨?_, ?_⟩
          · rw [List.find?_cons, q]
            have : (Value.str x t).isStr z = false := by
              simp only [Value.isStr, beq_eq_false_iff_ne, ne_eq]
              intro h; exact ne h
            rw [this]
            exact i1
          · rw [List.any_cons, i2, Bool.or_false]
            unfold DictEntry.refKey
            rw [q] <;> rfl
        · cases h2
  obtain ⟨a, b⟩ := key es.toList ks hk hz
  unfold PySem.W.nsIn
  rw [hl]
  obtain ⟨c1, c2, c3, c4⟩ := o
  dsimp only at hd ⊢
  subst hd
  dsimp only
  rw [a]
  dsimp only
  rw [b]
  rfl
theorem lookup_mem {z : Str} {v : Int} : ∀ {tab : List (Str × Int)}, tab.lookup z = some v → (z, v) ∈ tab
  | q :: r, h => by
    rw [List.lookup] at h
    split at h
    · rename_i e
      cases h
      have : z = q.1 := by simpa using e
      rw [this]
      exact .head _
    · exact .tail _ (lookup_mem h)
theorem lookup_nomem {z : Str} : ∀ {tab : List (Str × Int)}, tab.lookup z = none → z ∉ tab.map (·.1)
  | [], _ => by simp
  | q :: r, h => by
    rw [List.lookup] at h
    split at h
    · cases h
    · rename_i e
      rw [List.map_cons, List.mem_cons, not_or]
      exact ⟨by simpa using e, lookup_nomem h⟩
theorem kd_of {F : PySem.W.Frag} {w : World} {p : Addr} {tab : List (Str × Int)} (h : He.dicW F p = some (He.keysIn w.params (tab.map (·.1)))) (hv : kvB F p tab = true) : KD F w p tab := by
  obtain ⟨es, n, D⟩ := He.dicW_ok h
  refine ⟨⟨es, n, D⟩, fun z => ?_⟩
  cases hz : tab.lookup z with
  | some v =>
    have := List.all_eq_true.mp hv _ (lookup_mem hz)
    dsimp only at this
    split at this
    · rename_i j t e
      have := of_decide_eq_true this
      subst this
      exact ⟨_, e, t, rfl⟩
    · cases this
  | none =>
    refine ⟨none, ?_, rfl⟩
    have hk : es.toList.map He.keyOf = He.keysIn w.params (tab.map (·.1)) := by
      unfold He.dicW at h
      rw [D.at_] at h
      dsimp only at h
      split at h
      · exact Option.some.inj h
      · cases h
    exact nsIn_none D.at_ rfl hk (lookup_nomem hz)
section
variable {X : Cx} {K : Kx} {E : XK} {a b : Expr} {ta tb : TE} {ga gb : GE} {pos p : Pos} {x : Str} {tab : List (Str × Int)} {q : Addr}
def dInD (tab : List (Str × Int)) (neg : Bool) : PyData → Option PyData
  | .str z => some (.bool (if neg = true then !(tab.lookup z).isSome else (tab.lookup z).isSome))
  | _ => none
def dIxD (tab : List (Str × Int)) : PyData → Option PyData
  | .str z => (tab.lookup z).map .int
  | _ => none
def gMap (f : PyData → Option PyData) (g : GE) : GE := fun ρ cu => (g ρ cu).bind fun d cu1 => .ofO (f d) cu1
theorem PD.norm {X : Cx} {K : Kx} {E : XK} {e : Expr} {te : TE} {g : GE} (h : PD X K E e te g) : PD X K E e (tOf K E g) g := ⟨h.canon, fun c H0 G0 _ _ G ρ cu _ s q => ⟨c, H0, G0, G, ρ, cu, s, q⟩⟩
theorem KD.some {F : PySem.W.Frag} {w : World} (D : KD F w q tab) (z : Str) : ∃ r, PySem.W.nsIn F q z = .some r ∧ r.isSome = (tab.lookup z).isSome := by
  obtain ⟨r, e, h⟩ := D.get z
  refine ⟨r, e, ?_⟩
  cases hz : tab.lookup z with
  | none => rw [hz] at h; subst h; rfl
  | some v => rw [hz] at h; obtain ⟨t, rfl⟩ := h; rfl
theorem in_sem (D : KD X.K X.w q tab) (ha : PD X K E a ta ga) : ∃ r, OpR X (compareOp .In) r ∧ SemE K E (tOp r ta (tC (.ref q))) (gMap (dInD tab false) ga) := by
  obtain ⟨es, n, kd⟩ := D.kd
  refine ⟨_, op_in_kd kd, fun c H0 G0 σ H G ρ cu Q s r => ?_⟩
  refine ha.sem c H0 G0 σ H G ρ cu _ s (r.bind.imp fun d H1 G1 cu1 x1 w1 r1 v rv => ?_)
  obtain ⟨y, e, r2⟩ := r1.ofO
  cases d with
  | str z =>
    cases e
    obtain ⟨r, e1, e2⟩ := D.some z
    refine ⟨z, r, rv.str_of, rfl, e1, ?_⟩
    rw [e2]
    exact r2 H1 G1 Ext.refl w1 _ (.bl _)
  | _ => cases e
theorem notIn_sem (D : KD X.K X.w q tab) (ha : PD X K E a ta ga) : ∃ r, OpR X (compareOp .NotIn) r ∧ SemE K E (tOp r ta (tC (.ref q))) (gMap (dInD tab true) ga) := by
  obtain ⟨es, n, kd⟩ := D.kd
  refine ⟨_, op_notIn_kd kd, fun c H0 G0 σ H G ρ cu Q s r => ?_⟩
  refine ha.sem c H0 G0 σ H G ρ cu _ s (r.bind.imp fun d H1 G1 cu1 x1 w1 r1 v rv => ?_)
  obtain ⟨y, e, r2⟩ := r1.ofO
  cases d with
  | str z =>
    cases e
    obtain ⟨r, e1, e2⟩ := D.some z
    refine ⟨z, r, rv.str_of, rfl, e1, ?_⟩
    rw [e2]
    exact r2 H1 G1 Ext.refl w1 _ (.bl _)
  | _ => cases e
theorem PTD.norm {X : Cx} {K : Kx} {E : XK} {e : Expr} {te : TT} {g : GT} (h : PTD X K E e te g) : PTD X K E e (ttOf K E g) g :=
  ⟨⟨fun pins s σ H Q I ⟨c, H0, G0, G, ρ, cu, r, q⟩ => h.pt.run pins s σ H Q I (h.sem c H0 G0 σ H G ρ cu Q r q)⟩, fun c H0 G0 _ _ G ρ cu _ s q => ⟨c, H0, G0, G, ρ, cu, s, q⟩⟩
theorem pd_inKD (D : KD X.K X.w q tab) (hg : Gl X x) (hm : X.mg x = some (.ref q)) (ha : PD X K E a ta ga) (hdb : (x == ("__debug__" : Str)) = false := by decide) (hmk : behindInMarks .In (.Name x p) = false := by rfl) :
    PD X K E (.Compare a [.In] [.Name x p] pos) (tOf K E (gMap (dInD tab false) ga)) (gMap (dInD tab false) ga) :=
  let ⟨_, o, h⟩ := in_sem D ha
  PD.norm ⟨pe_cmpR o ha.pe (pe_glob (v := .ref q) hg hm rfl hdb) hmk, h⟩
theorem pd_notInKD (D : KD X.K X.w q tab) (hg : Gl X x) (hm : X.mg x = some (.ref q)) (ha : PD X K E a ta ga) (hdb : (x == ("__debug__" : Str)) = false := by decide) (hmk : behindInMarks .NotIn (.Name x p) = false := by rfl) :
    PD X K E (.Compare a [.NotIn] [.Name x p] pos) (tOf K E (gMap (dInD tab true) ga)) (gMap (dInD tab true) ga) :=
  let ⟨_, o, h⟩ := notIn_sem D ha
  PD.norm ⟨pe_cmpR o ha.pe (pe_glob (v := .ref q) hg hm rfl hdb) hmk, h⟩
theorem ptd_inKD (D : KD X.K X.w q tab) (hg : Gl X x) (hm : X.mg x = some (.ref q)) (ha : PD X K E a ta ga) (hdb : (x == ("__debug__" : Str)) = false := by decide) (hmk : behindInMarks .In (.Name x p) = false := by rfl) :
    PTD X K E (.Compare a [.In] [.Name x p] pos) (ttOf K E (gBool (gMap (dInD tab false) ga))) (gBool (gMap (dInD tab false) ga)) :=
  let ⟨_, o, h⟩ := in_sem D ha
  PTD.norm ⟨pt_cmpR o ha.pe (pe_glob (v := .ref q) hg hm rfl hdb) hmk, sem_test h⟩
theorem ptd_notInKD (D : KD X.K X.w q tab) (hg : Gl X x) (hm : X.mg x = some (.ref q)) (ha : PD X K E a ta ga) (hdb : (x == ("__debug__" : Str)) = false := by decide) (hmk : behindInMarks .NotIn (.Name x p) = false := by rfl) :
    PTD X K E (.Compare a [.NotIn] [.Name x p] pos) (ttOf K E (gBool (gMap (dInD tab true) ga))) (gBool (gMap (dInD tab true) ga)) :=
  let ⟨_, o, h⟩ := notIn_sem D ha
  PTD.norm ⟨pt_cmpR o ha.pe (pe_glob (v := .ref q) hg hm rfl hdb) hmk, sem_test h⟩
theorem pd_ixKD (D : KD X.K X.w q tab) (hg : Gl X x) (hm : X.mg x = some (.ref q)) (hb : PD X K E b tb gb) (hs : PlainIx b) (hdb : (x == ("__debug__" : Str)) = false := by decide) :
    PD X K E (.Subscript (.Name x p) b pos) (tOp (L2.rIxD X.K X.w) (tC (.ref q)) tb) (gMap (dIxD tab) gb) := by
  obtain ⟨es, n, kd⟩ := D.kd
  refine ⟨pe_ix ix_kdict (pe_glob (v := .ref q) hg hm rfl hdb) hb.pe hs, fun c H0 G0 σ H G ρ cu Q s r => ?_⟩
  refine hb.sem c H0 G0 σ H G ρ cu _ s (r.bind.imp fun d H1 G1 cu1 x1 w1 r1 v rv => ?_)
  obtain ⟨y, e, r2⟩ := r1.ofO
  cases d with
  | str z =>
    have e : (tab.lookup z).map PyData.int = some y := e
    obtain ⟨r, e1, e2⟩ := D.get z
    cases hz : tab.lookup z with
    | none => rw [hz] at e; cases e
    | some i =>
      rw [hz] at e e2
      cases e
      obtain ⟨t, rfl⟩ := e2
      exact ⟨q, z, .int i, rfl, rv.str_of, ⟨es, n, _, kd.at_, kd.lit, e1, ⟨t, rfl⟩⟩, r2 H1 G1 Ext.refl w1 _ (.int _)⟩
  | _ => cases e
end
end DL

set_option Elab.async false
set_option linter.all false
set_option maxRecDepth 100000
set_option maxHeartbeats 2000000
set_option autoImplicit false
/-! p, q = x.pop(); a value in a list or a tuple of plain values; a def that is never reached -/
namespace DL
open PySem PySem.Spec PyProof.Rows L2
section
variable {X : Cx} {K : Kx} {E : XK} {pos : Pos}
def gPopG (i : Nat) (gg : GG) : GS := fun ρ cu => match ρ[i]? with
  | some (.own xs) => (Rs.ofO xs.getLast? cu).bind fun d cu1 => (Rs.ofO (gg d (ρ.set i (.own xs.dropLast))) cu1).bind fun ρ' cu2 => .ok (.nx ρ') cu2
  | _ => .stuck
theorem psd_popG {i : Nat} {x : Str} {p ap cp : Pos} {tg : Expr} {t1 : TG} {g1 : GG} {ws : List Nat} (hpe : PE X (.Call (.Attribute (.Name x p) "pop" ap) [] [] cp) (tBM0 X.K "list" rPop (tVar i))) (hg : PGD X K tg t1 g1 ws)
    (hs : swapsWithSole [tg] (.Call (.Attribute (.Name x p) "pop" ap) [] [] cp) pos.line X.env = pure false := by rfl) (hw : swappedStores [tg] (.Call (.Attribute (.Name x p) "pop" ap) [] [] cp) X.env = pure none := by rfl)
    (h1 : (assignEach [tg] X.env).map (·.2) = [assign tg X.env] := by rfl) :
    PSD X K E (.Assign [tg] (.Call (.Attribute (.Name x p) "pop" ap) [] [] cp) pos) (tAsg (tBM0 X.K "list" rPop (tVar i)) t1) (gPopG i g1) := by
  refine ⟨ps_asg hpe hg.pg hs hw h1, fun c H0 G0 σ H G ρ cu D s q => ?_⟩
  unfold gPopG at q
  split at q
  · rename_i xs eo
    obtain ⟨A, k1, k2⟩ := s.rep.own
    obtain ⟨e1, ⟨vs, e2, e3⟩, e4, e5, e6⟩ := k1 i xs eo
    obtain ⟨d, ed, q2⟩ := PostS.ofO q
    obtain ⟨ρ', er, q3⟩ := PostS.ofO q2
    have hl := e3.length
    rw [List.getLast?_eq_getElem?] at ed
    obtain ⟨v, ev, rv⟩ := e3.get ed
    refine ⟨_, e1, .inl ⟨rfl, _, SqL.of e2⟩, A i, vs, v, rfl, rfl, e2, by rw [hl]; exact ev, ?_⟩
    exact hg.sem c H0 G0 σ _ G _ cu v d ρ' _ (s.updO Ext.refl s.wd eo e1 (RpL.dropLast e3)) rv er fun σ' s' _ _ => q3 σ' _ G s'
  · exact q.elim
end
def dInF : PyData → PyData → Option PyData
  | d, .list ds => (flatD d).bind fun x => (flatsD ds).map fun xs => .bool (inV x xs)
  | d, .tuple ds => (flatD d).bind fun x => (flatsD ds).map fun xs => .bool (inV x xs)
  | _, _ => none
theorem opD_inF {K : Kx} {F : PySem.W.Frag} (hKF : K.F = F := by assumption) : OpD K (rIn F false) dInF := by
  intro c H G cu v w d e z Q wd r1 r2 hz q
  unfold dInF at hz
  split at hz
  · obtain ⟨x, e1, hz⟩ := Option.bind_eq_some_iff.mp hz
    obtain ⟨xs, e2, rfl⟩ := Option.map_eq_some_iff.mp hz
    obtain ⟨a, ys, rfl, ha, ra⟩ := r2.lst_of
    obtain ⟨rfl, f1⟩ := rp_flat r1 e1
    obtain ⟨rfl, f2⟩ := rpl_flats ra e2
    exact ⟨a, _, rfl, .inl (SqL.of (wd.sub _ _ ha)), f1, f2, q _ H G Ext.refl wd (.bl _)⟩
  · obtain ⟨x, e1, hz⟩ := Option.bind_eq_some_iff.mp hz
    obtain ⟨xs, e2, rfl⟩ := Option.map_eq_some_iff.mp hz
    obtain ⟨a, ys, rfl, ha, ra⟩ := r2.tup_of
    obtain ⟨rfl, f1⟩ := rp_flat r1 e1
    obtain ⟨rfl, f2⟩ := rpl_flats ra e2
    exact ⟨a, _, rfl, .inr (TupAt.sq' hKF (TupAt.mono wd.sub ha)), f1, f2, q _ H G Ext.refl wd (.bl _)⟩
  · cases hz
/-- a def at no fuel: it promises nothing -/
def gfStk : GF := fun _ _ => .stuck
theorem defOk_stk {P : Program} {w : World} {F : PySem.W.Frag} {mg : Str → Option Value} {base : Heap} {K : Kx} {x qual : Str} {st : Stmt} {f : Addr} {fd : FuncData} {k : Nat} {ps : List Str} (Fn : Fun F x qual st f fd) (hm : mg x = some (.ref f)) (hb : Binds F fd ps []) :
    DefOk P w F mg base K x k ps.length gfStk :=
  ⟨f, fd, ps, ⟨fun vs H Q E ⟨c, G, as, cu, h1, _, h3, _⟩ => h3.length.trans h1, fun A outer s H args us vs Q E _ _ _ _ ⟨_, _, _, _, _, _, _, q⟩ => q.elim⟩, hm, Fn.kp, hb⟩
end DL

set_option Elab.async false
set_option linter.all false
set_option maxRecDepth 100000
set_option maxHeartbeats 4000000
set_option autoImplicit false
/-! defs that are called where no repr is under way: their calls, the law's def, the law's end -/
namespace DL
open PySem PySem.Spec PyProof.Rows L2
section
variable {P : Program} {w : World} {F : PySem.W.Frag} {mg : Str → Option Value} {base : Heap} {K : Kx}
theorem fnG_of {CX : CXT} {k : Nat} {f : Addr} {name qual : Str} {params : Arguments} {body : List Stmt} {scope : Scope} {dV kV doc pm cdv ct oc : Value} {an od : Option Addr} {osl : Array (Option Value)} {N ps : List Str} {sp : Sp}
    (lk : F.lookup f = some ⟨oc, od, .func (PySem.W.fnOf name qual params body scope dV kV doc pm an cdv ct), osl⟩) (hcd : PySem.W.codeIn F cdv qual = true) (S : FnScope N ps scope) (len : ∀ vs H Q E, sp vs H Q E → vs.length = ps.length)
    (hbody : ∀ (A : Around), A.guards = some [] → ∀ (outer : List Env) (s : Shared) (H : Hp) (vs : List V) (Q : VK) (E : XK), Room k (A.deeper (envOfC qual scope s.heap.objs.size f cdv)) → sp vs H Q E →
      ∃ t, PSs (cxOf CX P w F mg base N qual scope f cdv A outer s H E) body t ∧ t ⟨fun _ H' => Q .non H', Q, fun _ _ => False, fun _ _ => False⟩ (L2.start N vs) H) :
    FnG P w F mg base CX (k + 1) f (PySem.W.fnOf name qual params body scope dV kV doc pm an cdv ct) ps sp := by
  refine ⟨len, fun A hg outer s H args us vs Q E room e0 bt rel q => ?_⟩
  have stay : ∀ b o, base.get? b = some o → s.heap.get? b = some o := fun b o e => (e0.bs b o e).1
  have kin := e0.mod.kin.keeps stay
  refine codeAny_call_function room.depth (kin _ _ lk) rfl S.co S.gen rfl (PySem.W.codeRec_of kin hcd) (bt _ _ _ _ (wpAny_newFunctionEnv_cells S.kind (fun y hy => ?_) fun env he s1 x => ?_))
  · exact (S.par y.1 (List.of_mem_zip hy).1).imp id fun c => ⟨c, PySem.W.cellsFrom_some _ _ _ (.inl c)⟩
  · subst he
    obtain ⟨t, ht, rd⟩ := hbody A hg outer s H vs Q E (room.deeper _) q
    have I : Inv (cxOf CX P w F mg base N qual scope f cdv A outer s H E) [] (L2.start N vs) H s1 := inv_start S room.hd e0 (len _ _ _ _ q) rel x
    refine ⟨(e0.mod.nolimit.keeps stay).keeps x.toInCall.keep, codeAny_func (wpAny_mono (ht.run [] s1 (L2.start N vs) H _ I rd) (fun fl s' h => ?_) fun _ _ h => h)⟩
    match fl, h with
    | .ret u, ⟨v, σ', H', J, r, z⟩ => exact ⟨v, H', J.os, J.bare, J.base, J.hok, r, z⟩
    | .next, ⟨σ', H', J, z⟩ => exact ⟨.non, H', J.os, J.bare, J.base, J.hok, rfl, z⟩
    | .brk, ⟨_, _, _, z⟩ => exact z.elim
    | .cont, ⟨_, _, _, z⟩ => exact z.elim
/-- a def of the text that keeps g, where no repr is under way -/
def DefG (P : Program) (w : World) (F : PySem.W.Frag) (mg : Str → Option Value) (base : Heap) (K : Kx) (x : Str) (k n : Nat) (g : GF) : Prop :=
  ∃ (f : Addr) (fd : FuncData) (ps : List Str), FnG P w F mg base (L2.CX P w) k f fd ps (spG K n g) ∧ mg x = some (.ref f) ∧ PySem.W.keepIn F (.ref f) = true ∧ Binds F fd ps []
theorem ok_defG {x qual : Str} {st : Stmt} {f : Addr} {fd : FuncData} {N ps : List Str} {k : Nat} {g : GS} (Fn : Fun F x qual st f fd) (S : FnScope N ps (defScope st))
    (hbody : ∀ (cdv : Value) (A : Around), A.guards = some [] → ∀ (outer : List Env) (s : Shared) (H : Hp) (E : XK), Room k (A.deeper (envOfC qual (defScope st) s.heap.objs.size f cdv)) →
      ∃ t, PSsD (cxOf (L2.CX P w) P w F mg base N qual (defScope st) f cdv A outer s H E) K E (defBody st) t g) :
    FnG P w F mg base (L2.CX P w) (k + 1) f fd ps (spG K ps.length (gFn N.length g)) := by
  obtain ⟨oc, od, kV, doc, pm, an, cdv, ct, osl, rfl, lk, hcd⟩ := Fn.ex
  refine fnG_of lk hcd S (fun vs H Q E h => ?_) (fun A hA outer s H vs Q E hr h => ?_)
  · obtain ⟨c, G, as, cu, h1, _, h3, _⟩ := h
    exact h3.length.trans h1
  · obtain ⟨c, G, as, cu, h1, wd, h3, q⟩ := h
    obtain ⟨t, ht⟩ := hbody cdv A hA outer s H E hr
    refine ⟨t, ht.ps, ht.sem c H G (L2.start N vs) H G _ cu _ ⟨wd, Ext.refl, rep_start h3⟩ ?_⟩
    unfold gFn at q
    cases hg : g (as ++ List.replicate (N.length - as.length) .un) cu with
    | stuck => rw [hg] at q; exact q
    | exc k cu1 => rw [hg] at q; exact q
    | ok o cu1 =>
      rw [hg] at q
      cases o with
      | nx ρ' => exact fun σ' H' G' s' => q H' G' s'.ext s'.wd _ .non
      | ret d => exact fun v H' G' x w r => q H' G' x w v r
      | brk ρ' => exact q.elim
      | ct ρ' => exact q.elim
end
section
variable {X : Cx} {K : Kx} {E : XK} {e : Expr} {es : List Expr} {t : TA} {g : GA} {pos p : Pos} {k n : Nat} {x : Str} {gf : GF}
theorem pd_callG (D : DefG X.prog X.w X.K X.mg X.base K x k n gf) (hA : X.A.guards = some []) (hr : Room k X.A) (hg : Gl X x) (hx : Passes (L2.CX X.prog X.w) X E) (ha : PAD X K E (e :: es) t g)
    (hdb : (x == ("__debug__" : Str)) = false := by decide) (he : starEach (e :: es) X.env = (false, eval e X.env) :: starEach es X.env := by rfl) (hpl : (backTo pos (starEach es X.env)).any (·.1) = false := by rfl) :
    PD X K E (.Call (.Name x p) (e :: es) [] pos) (tCall (spG K n gf) [] E t) (gApp n gf g) := by
  obtain ⟨f, fd, ps, F, hm, hk, hb⟩ := D
  refine ⟨⟨fun pins s σ H Q I h => wpAny_Call_Name_kw (ld_glob I hg hm ?_ hdb)⟩, fun c H0 G0 σ H G ρ cu Q s q => ?_⟩
  · refine PySem.W.callWith_K (h₀ := X.base) I.ok.mod.kin hk (thn (ha.pa.run pos pins s σ H _ I h) fun us s1 ⟨vs, H1, I1, r, q⟩ => ⟨I1.kIn, ?_⟩) he hpl
    replace q : spG K n gf vs H1 Q E := by have q2 : spG K n gf (vs ++ []) H1 Q E := q; rwa [List.append_nil] at q2
    have hl : (us ++ []).length = ps.length := by rw [List.append_nil, ← r.length]; exact F.len _ _ _ _ q
    have bt := hb s1 us I1.kIn hl
    rw [List.append_nil] at bt
    refine wpAny_call (codeAny_mono (F.run X.A hA X.stack s1 H1 ⟨us, []⟩ us vs Q E hr I1.env0 bt r q) fun z s' h => ?_)
    match z, h with
    | .error u, h => exact hx pins σ H1 s1 u s' I1 h
    | .ok (.ret u), h => exact I1.after h
    | .ok .next, h => exact h.elim
    | .ok .brk, h => exact h.elim
    | .ok .cont, h => exact h.elim
  · refine ha.sem c H0 G0 σ H G ρ cu _ s (q.bind.imp fun as H1 G1 cu1 x1 w1 q1 vs rvs => ?_)
    split at q1
    · rename_i hn
      exact ⟨c, G1, as, cu1, hn, w1, by rw [List.append_nil]; exact rvs, q1⟩
    · exact q1.elim
end
theorem ok_lawG {P : Program} {w : World} {F : PySem.W.Frag} {mg : Str → Option Value} {base : Heap} {K : Kx} {st : Stmt} {f fc : Addr} {fd fdc : FuncData} {N : List Str} {n k kc : Nat} {g : GS} {px pe pc pp sp : Pos} {rest : List Stmt}
    (Fn : Fun F "law" "law" st f fd) (S : FnScope N ["_law_script"] (defScope st)) (hN : N.length = n + 2) (hN1 : N[1]? = some ("_law_cup_here" : Str)) (hN0 : N[0]? = some ("_law_script" : Str)) (hl1 : Loc (defScope st) ("_law_cup_here" : Str)) (hl0 : Vis (defScope st) ("_law_script" : Str))
    (hgl : (defScope st).names.lookup ("_law_cup" : Str) = some NameKind.globalImplicit)
    (hst : defBody st = .Assign [.Name "_law_cup_here" px] (.Call (.Name "_law_cup" pc) [.Name "_law_script" pe] [] pp) sp :: rest) (hcup : FnOk P w F mg base (L2.CX P w) kc fc fdc ["_law_script"] (spCup K F)) (hmc : mg "_law_cup" = some (.ref fc)) (hkc : PySem.W.keepIn F (.ref fc) = true) (hbc : L2.Binds F fdc ["_law_script"] []) (hkk : kc ≤ k)
    (hsw : ∀ (L : Nat) (cdv : Value), swapsWith (.Call (.Name "_law_cup" pc) [.Name "_law_script" pe] [] pp) (some (.Name "_law_cup_here" px)) sp.line (envOfC "law" (defScope st) L f cdv) = pure false)
    (hbody : ∀ (cdv : Value) (A : Around), A.guards = some [] → ∀ (outer : List Env) (s : Shared) (H : Hp) (E : XK), Room k (A.deeper (envOfC "law" (defScope st) s.heap.objs.size f cdv)) →
      ∃ t, PSsD (cxOf (L2.CX P w) P w F mg base N "law" (defScope st) f cdv A outer s H E) K E rest t g)
    (hg : ∀ ns : List Int, ns.length ≤ 63 → ∃ cu, g (.un :: .cup :: List.replicate n .un) (cup0 (cell0 ns)) = .ok (.ret (.bool true)) cu) :
    FnG P w F mg base (L2.CX P w) (k + 1) f fd ["_law_script"] (spLaw K F) := by
  obtain ⟨oc, od, kV, doc, pm, an, cdv, ct, osl, rfl, lk, hcd⟩ := Fn.ex
  refine fnG_of lk hcd S (fun vs H Q E ⟨a, ns, e, _⟩ => by rw [e]; rfl) (fun A hA outer s H vs Q E hr ⟨a, ns, e, hS, hl, hT, hQ⟩ => ?_)
  subst e
  obtain ⟨t, ht⟩ := hbody cdv A hA outer s H E hr
  have hx : Passes (L2.CX P w) (cxOf (L2.CX P w) P w F mg base N "law" (defScope st) f cdv A outer s H E) E := passes_call (takes_of rfl rfl rfl rfl) fun _ _ _ _ h => h
  rw [hst]
  refine ⟨_, pss_cons (ps_set (i := 1) S.nd hN1 hl1 (pe_call hcup (hr.mono hkk) hgl hmc hkc hbc .nil hx (pa_cons (pe_var (i := 0) hN0 hl0) pa_nil)) (hsw _ _) (.inl rfl)) ht.ps, ?_⟩
  refine ⟨_, (rfl : (L2.start N [V.ref a])[0]? = some (some (V.ref a))), a, ns, rfl, hS, hl, hT, fun p H' hp hT' => ?_⟩
  obtain ⟨cu, e⟩ := hg ns hl
  have hlen : (L2.start N [V.ref a]).length = n + 2 := by
    unfold L2.start
    rw [List.length_append, List.length_replicate, List.length_map, hN, List.length_singleton]
    omega
  refine ht.sem (some p) H' (fun _ => none) ((L2.start N [V.ref a]).set 1 (some (V.ref p))) H' (fun _ => none) (.un :: .cup :: List.replicate n .un) (cup0 (cell0 ns)) _ (srep_cup hT' hp (by rw [List.length_set]; exact hlen) (List.getElem?_set_self (by rw [hlen]; omega))) ?_
  rw [e]
  exact fun v H1 G1 _ _ rv => by rw [rv.bl_of]; exact hQ H1
theorem walk_ofG {l : PySem.W.OpenLaw} {n k : Nat} {q : Program} {loose : List Str} {XP : (Str → Option Value) → Heap → Prop} {YP : World → Heap → Prop} {d : DefRec} {x : Str}
    (hn : l.most = some n) (hn2 : n ≤ sizeLine) (hdf : d.params.defaults = []) (hr : Room k callerA)
    (hF : ∀ (w : World) (mg : Str → Option Value) (fa : Addr) (h : Heap), YP w h → h.Ns mainGlobals mg → mg d.name = some (.ref fa) → ∃ K : PySem.W.Frag, K.In h ∧ ∃ (fd : FuncData) (sp : Sp), (∀ (s : Shared) (u : Value), BindsTo s fd ⟨[u], []⟩ [(x, u)]) ∧
      (∀ (H : Hp) (a : Addr) (ns : List Int), ns.length ≤ n → SqL K H a (ns.map V.int) → sp [.ref a] H (fun v _ => v = .bl true) fun _ _ _ => False) ∧
      ∀ base : Heap, K.In base → base.Ns mainGlobals mg → FnG l.prog w K mg base (L2.CX l.prog w) k fa fd [x] sp) :
    PySem.W.WalkO q loose XP YP l.row.toRowW d [] (fun f vs => PySem.call f vs) := by
  refine Att.attach_callB hn hdf fun w s₀ s₁ mg mb fa o pm cd doc a vs ns G Y ho hd hcd hmg hobj hints hlen hbits hg => ?_
  obtain ⟨K, KX, fd, sp, hb, hsp, hfn⟩ := hF w mg fa _ Y G.T.g hmg
  exact law_callG KX G.T.g G.T.b G.T.builtins G.T.nolimit hg hobj hints (Nat.le_trans hlen hn2) hr hfn hb (fun H hS => hsp H a ns hlen hS) fun H e s' => cx_no _ w H s₁ e s'
end DL

set_option Elab.async false
set_option linter.all false
set_option maxRecDepth 100000
set_option maxHeartbeats 2000000
set_option autoImplicit false
/-! dict displays of written texts to written values, as data; d[k] and d.get(k, x) of such data -/
namespace DL
open PySem PySem.Spec PyProof.Rows L2
section
variable {X : Cx} {K : Kx} {E : XK}
/-- the trees of a display's pairs -/
def trPs (ps : List (PyData × PyData)) : List (TE × TE) := ps.map fun q => (tC (kV (kD q.1)), tC (vD q.2))
theorem tPairs_trPs {σ : L2.St} {H : Hp} {Q : List (V × V) → Hp → Prop} : ∀ {ps : List (PyData × PyData)}, Q (ps.map fun q => (kV (kD q.1), vD q.2)) H → tPairs (trPs ps) σ H Q
  | [], q => q
  | p :: r, q => tPairs_trPs (ps := r) (Q := fun l H' => Q ((kV (kD p.1), vD p.2) :: l) H') q
theorem merge_new : ∀ {more kvs : List (Key × V)}, ((kvs ++ more).map (·.1)).Nodup → mergeK kvs more = kvs ++ more
  | [], kvs, _ => by rw [List.append_nil]; rfl
  | p :: r, kvs, h => by
    have hn : valV kvs p.1 = none := by
      have k : ∀ q ∈ kvs, ¬ q.1 = p.1 := fun q hq e => by
        rw [List.map_append, List.nodup_append] at h
        exact h.2.2 q.1 (List.mem_map_of_mem hq) p.1 (by simp) e
      unfold valV
      rw [List.find?_eq_none.mpr (fun q hq => by simpa using k q hq)]
      rfl
    show mergeK (putK kvs p.1 p.2) r = _
    rw [putK_new p.2 hn]
    have e : kvs ++ p :: r = (kvs ++ [(p.1, p.2)]) ++ r := by simp
    rw [e]
    exact merge_new (by rw [← e]; exact h)
/-- a pair of constants -/
theorem pps_str_int {pos p1 p2 : Pos} {j1 j2 : Nat} {x : Str} {i : Int} {ks : List (Option Expr)} {vs : List Expr} {ps : List (PyData × PyData)} (h : PPs X pos ks vs (trPs ps)) :
    PPs X pos (some (.Constant (.str x) j1 p1) :: ks) (.Constant (.int i) j2 p2 :: vs) (trPs ((.str x, .int i) :: ps)) := pps_cons pe_str pe_int h
theorem pps_str_str {pos p1 p2 : Pos} {j1 j2 : Nat} {x y : Str} {ks : List (Option Expr)} {vs : List Expr} {ps : List (PyData × PyData)} (h : PPs X pos ks vs (trPs ps)) :
    PPs X pos (some (.Constant (.str x) j1 p1) :: ks) (.Constant (.str y) j2 p2 :: vs) (trPs ((.str x, .str y) :: ps)) := pps_cons pe_str pe_str h
theorem pps_end {pos : Pos} : PPs X pos [] [] (trPs []) := pps_nil
def okD (ps : List (PyData × PyData)) : Bool := ps.all lfB && decide (((kvD ps).map (·.1)).Nodup) && decide (ps.length ≤ 15)
theorem pd_dict {pos : Pos} {keys : List (Option Expr)} {values : List Expr} {ps : List (PyData × PyData)} (h : PPs X pos keys values (trPs ps)) (ho : okD ps = true := by decide +kernel) (hall : keys.all (·.isSome) = true := by rfl) (hl : keys.length = values.length := by rfl) (h0 : keys ≠ [] := by simp)
    (h15 : keys.length ≤ 15 := by decide) : PD X K E (.Dict keys values pos) (tDisp (trPs ps)) (gC (.dict ps)) := by
  unfold okD at ho
  simp only [Bool.and_eq_true, decide_eq_true_eq] at ho
  obtain ⟨⟨l1, l2⟩, l3⟩ := ho
  refine ⟨pe_disp h hall hl h0 h15, fun c H0 G0 σ H G ρ cu Q s q p hp => ?_⟩
  have q := (show Post K E c H G (Rs.ok (PyData.dict ps) cu) _ from q)
  refine tPairs_trPs ⟨upd_same, kvD ps, ?_, by unfold kvD; rw [List.length_map]; exact l3, ?_⟩
  · unfold kvD; rw [List.map_map]; rfl
  · rw [merge_new (by rw [List.nil_append]; exact l2), List.nil_append, upd_upd]
    exact q _ _ (s.wd.new hp).1 (s.wd.new hp).2 _ (.dic upd_same l1)
/-! what a dict holds -/
def lkD (ps : List (PyData × PyData)) (z : Str) : Option PyData := (ps.find? fun q => decide (kD q.1 = .inr z)).map (·.2)
theorem valV_lk (z : Str) : ∀ ps : List (PyData × PyData), valV (kvD ps) (.inr z) = (lkD ps z).map vD
  | [] => rfl
  | p :: r => by
    by_cases h : kD p.1 = .inr z
    · have e1 : valV (kvD (p :: r)) (.inr z) = some (vD p.2) := valV_pos (p := (kD p.1, vD p.2)) h
      have e2 : lkD (p :: r) z = some p.2 := by unfold lkD; rw [List.find?_cons, decide_eq_true h]; rfl
      rw [e1, e2]; rfl
    · have e1 : valV (kvD (p :: r)) (.inr z) = valV (kvD r) (.inr z) := valV_neg (p := (kD p.1, vD p.2)) h
      have e2 : lkD (p :: r) z = lkD r z := by unfold lkD; rw [List.find?_cons, decide_eq_false h]
      rw [e1, e2]; exact valV_lk z r
theorem lk_rp {G : Hp} {ps : List (PyData × PyData)} {z : Str} {d : PyData} (h : ps.all lfB = true) (e : lkD ps z = some d) : Rp K G (vD d) d := by
  unfold lkD at e
  obtain ⟨q, e1, e2⟩ := Option.map_eq_some_iff.mp e
  have m := List.all_eq_true.mp h q (List.mem_of_find?_eq_some e1)
  obtain ⟨k, w⟩ := q
  cases e2
  unfold lfB at m
  split at m
  · rename_i e; cases e; exact .int _
  · rename_i e; cases e; exact .str _
  · rename_i e; cases e; exact .bl _
  · rename_i e; cases e; exact .non
  · cases m
theorem Rp.dic_of {G : Hp} {v : V} {ps : List (PyData × PyData)} (r : Rp K G v (.dict ps)) : ∃ a, v = .ref a ∧ G a = some (.dK (kvD ps)) ∧ ps.all lfB = true := by cases r with | dic h l => exact ⟨_, rfl, h, l⟩
def dDIx : PyData → PyData → Option PyData
  | .dict ps, .str z => lkD ps z
  | _, _ => none
variable {o i e f : Expr} {to ti te tf : TE} {go gi ge gf : GE} {pos apos : Pos}
theorem pd_dix (hu : X.A.units + 1 < cLine) (ho : PD X K E o to go) (hi : PD X K E i ti gi) (hs : NoSl i) : PD X K E (.Subscript o i pos) (tDGet to ti) (gBin dDIx go gi) := by
  refine ⟨pe_dget hu ho.pe hi.pe hs, fun c H0 G0 σ H G ρ cu Q s q => ?_⟩
  refine ho.sem c H0 G0 σ H G ρ cu _ s (q.bind.imp fun a H1 G1 cu1 x1 w1 q1 v rv => ?_)
  have s1 := s.go x1 w1
  refine hi.sem c H0 G0 σ H1 G1 ρ cu1 _ s1 (q1.bind.imp fun b H2 G2 cu2 x2 w2 q2 w rw' => ?_)
  obtain ⟨z, e, q3⟩ := q2.ofO
  unfold dDIx at e
  split at e
  · rename_i ps k
    obtain ⟨A, rfl, ha, hl⟩ := (rv.mono x2.g).dic_of
    rw [rw'.str_of]
    have g := DGet.k (k := .inr k) (w2.sub _ _ ha)
    rw [valV_lk, e] at g
    exact ⟨A, vD z, rfl, g, q3 H2 G2 Ext.refl w2 _ (lk_rp hl e)⟩
  · cases e
def gDGet (go gk gx : GE) : GE := fun ρ cu => (go ρ cu).bind fun d cu1 => match d with
  | .dict ps => (gk ρ cu1).bind fun k cu2 => (gx ρ cu2).bind fun x cu3 => match k with
    | .str z => .ok ((lkD ps z).getD x) cu3
    | _ => .stuck
  | _ => .stuck
theorem pd_dget2 (hu : X.A.units + 1 < cLine) (ho : PD X K E o to go) (he : PD X K E e te ge) (hf : PD X K E f tf gf) (h1 : attributeBase o "get" X.env (eval o X.env) = eval o X.env := by rfl)
    (h2 : ((backTo pos (starEach [e, f] X.env)).all (fun x => !x.1) && (backToKw pos (keywordEach [] X.env)).all (fun x => x.1.isSome)
    && decide (([e, f] : List Expr).length + ([] : List Keyword).length + (if ([] : List Keyword).isEmpty then 0 else 1) < 30)) = true := by rfl)
    (h3 : (apos.endLine == pos.line) = true := by rfl) (h4 : backTo pos (starEach [e, f] X.env) = [(false, eval e X.env), (false, eval f X.env)] := by rfl) :
    PD X K E (.Call (.Attribute o "get" apos) [e, f] [] pos) (tDGet2 to te tf) (gDGet go ge gf) := by
  refine ⟨pe_dget2 hu ho.pe he.pe hf.pe ⟨h1, h2, h3, h4⟩, fun c H0 G0 σ H G ρ cu Q s q => ?_⟩
  refine ho.sem c H0 G0 σ H G ρ cu _ s (q.bind.imp fun a H1 G1 cu1 x1 w1 q1 v rv => ?_)
  have s1 := s.go x1 w1
  split at q1
  case h_2 => exact q1.elim
  rename_i ps
  obtain ⟨A, rfl, ha, hl⟩ := rv.dic_of
  refine ⟨A, rfl, .inl ⟨_, .inl (w1.sub _ _ ha)⟩, ?_⟩
  refine he.sem c H0 G0 σ H1 G1 ρ cu1 _ s1 (q1.bind.imp fun b H2 G2 cu2 x2 w2 q2 w rw' => ?_)
  have s2 := s1.go x2 w2
  refine hf.sem c H0 G0 σ H2 G2 ρ cu2 _ s2 (q2.bind.imp fun b' H3 G3 cu3 x3 w3 q3 w' rw2 => ?_)
  split at q3
  case h_2 => exact q3.elim
  rename_i z
  rw [rw'.str_of]
  have g := DGet.k (k := .inr z) (w3.sub _ _ (x3.g _ _ (x2.g _ _ ha)))
  refine ⟨_, g, ?_⟩
  have q3 := (show Post K E c H3 G3 (Rs.ok ((lkD ps z).getD b') cu3) _ from q3) H3 G3 Ext.refl w3
  refine q3 _ ?_
  rw [valV_lk]
  cases hk : lkD ps z with
  | none => exact rw2
  | some d => exact lk_rp hl hk
end
end DL

set_option Elab.async false
set_option linter.all false
set_option maxRecDepth 100000
set_option maxHeartbeats 2000000
set_option autoImplicit false
/-! a try whose body is `x.append(f(..))`, or an if of such: an error leaves the state as it was, and the clauses go on from it -/
namespace DL
open PySem PySem.Spec PyProof.Rows L2
def PostX (K : Kx) (E : XK) (c : Option Addr) (H0 G0 H G : Hp) (r : Rs Ou) (D : L2.Ends) : Prop := match r with
  | .stuck => False
  | .exc k cu' => ∀ H' G', Ext c H G H' G' → Wd K c H' G' cu' → ∀ d, XD K k d H' → E (.ref (K.CL k)) d H'
  | .ok o cu' => PostS K E0 c H0 G0 (.ok o cu') D
def SemX (K : Kx) (E : XK) (t : TS) (g : GS) : Prop := ∀ c H0 G0 σ H G ρ cu D, SRep K c H0 G0 σ H G ρ cu → PostX K E c H0 G0 H G (g ρ cu) D → t D σ H
section
variable {X : Cx} {K : Kx} {E : XK} {c : Option Addr} {H0 G0 H G H1 G1 : Hp}
theorem PostX.go {r : Rs Ou} {D : L2.Ends} (x : Ext c H G H1 G1) (h : PostX K E c H0 G0 H G r D) : PostX K E c H0 G0 H1 G1 r D := by
  cases r with
  | stuck => exact h
  | exc k cu => exact fun H' G' y w => h H' G' (x.trans y) w
  | ok o cu => exact h
theorem PostX.exp {α : Type} {r : Rs α} {f : α → Cu → Rs Ou} {D : L2.Ends} (h : PostX K E c H0 G0 H G (r.bind f) D) : Post K E c H G r (fun a H' G' cu' => PostX K E c H0 G0 H' G' (f a cu') D) := by
  cases r with
  | stuck => exact h
  | exc k cu => exact h
  | ok a cu => exact fun H' G' x _ => PostX.go x h
theorem semX_append {i : Nat} {te : TE} {ge : GE} (he : SemE K E te ge) : SemX K E (tDrop (tBM X.K "list" rAppend (tVar i) (tCons te tNil))) (gApd i ge) := by
  intro c H0 G0 σ H G ρ cu D s q
  unfold gApd at q
  split at q
  · rename_i xs e
    obtain ⟨A, h1, h2⟩ := s.rep.own
    obtain ⟨e1, ⟨vs, e2, e3⟩, e4, e5, e6⟩ := h1 i xs e
    refine ⟨_, e1, .inl ⟨rfl, _, SqL.of e2⟩, ?_⟩
    refine he c H0 G0 σ H G ρ cu _ s (q.exp.imp fun d H1 G1 cu1 x1 w1 q1 v rv => ?_)
    split at q1
    · rename_i hl
      have a1 := x1.h _ _ e2 nt_lst e6
      have g1 : G1 (A i) = none := x1.n _ _ e2 nt_lst e4
      refine ⟨A i, vs, v, rfl, rfl, a1, by rw [e3.length, sizeLine_eq]; exact hl, q1 σ _ G1 ⟨w1.updL a1 g1 e6, (s.ext.trans x1).updL e5, ?_⟩⟩
      have s1 := (s.go x1 w1).rep
      have ne : ∀ (j : Nat) (t : Sl), (ρ.set i (.own (xs ++ [d])))[j]? = some t → j ≠ i → ρ[j]? = some t := fun j t e hj => by rw [List.getElem?_set_ne (Ne.symm hj)] at e; exact e
      have at_ : ∀ (t : Sl), (ρ.set i (.own (xs ++ [d])))[i]? = some t → t = .own (xs ++ [d]) := fun t e => by
        by_cases hi : i < ρ.length
        · rw [List.getElem?_set_self hi] at e; cases e; rfl
        · rw [List.getElem?_eq_none (by simpa using hi)] at e; cases e
      refine ⟨by rw [List.length_set]; exact s.rep.len, fun j d' e => ?_, fun j e => ?_, A, fun j es e => ?_, fun j k es fs q1 q2 hjk => ?_⟩
      · by_cases hj : j = i
        · subst hj; cases at_ _ e
        · exact s1.dat j d' (ne j _ e hj)
      · by_cases hj : j = i
        · subst hj; cases at_ _ e
        · exact s1.cup j (ne j _ e hj)
      · by_cases hj : j = i
        · subst hj
          cases at_ _ e
          exact ⟨e1, ⟨_, upd_same, (e3.mono x1.g).app (.cons rv .nil)⟩, g1, e5, e6⟩
        · have e0 := ne j _ e hj
          obtain ⟨q1, ⟨ys, q2, q3⟩, q4, q5, q6⟩ := h1 j es e0
          have nij : A j ≠ A i := h2 j i es xs e0 (by assumption) hj
          exact ⟨q1, ⟨ys, by rw [upd_ne nij]; exact x1.h _ _ q2 nt_lst q6, q3.mono x1.g⟩, x1.n _ _ q2 nt_lst q4, q5, q6⟩
      · by_cases hj : j = i
        · subst hj
          have hk : k ≠ j := fun z => hjk z.symm
          exact h2 j k xs fs (by assumption) (ne k _ q2 hk) hjk
        · by_cases hk : k = i
          · subst hk; exact h2 j k es xs (ne j _ q1 hj) (by assumption) hjk
          · exact h2 j k es fs (ne j _ q1 hj) (ne k _ q2 hk) hjk
    · exact q1.elim
  · exact q.elim
theorem semX_if {tt : TT} {gt : GT} {t u : TS} {g g' : GS} (hc : SemT K E tt gt) (ha : SemX K E t g) (hb : SemX K E u g') : SemX K E (tIfS tt t u) (gIf gt g g') := by
  intro c H0 G0 σ H G ρ cu D s q
  refine hc c H0 G0 σ H G ρ cu _ s ((PostX.exp q).imp fun k H1 G1 cu1 x1 w1 q1 => ?_)
  cases k with
  | true => rw [if_pos rfl] at q1 ⊢; exact ha c H0 G0 σ H1 G1 ρ cu1 D (s.go x1 w1) q1
  | false => rw [if_neg Bool.false_ne_true] at q1 ⊢; exact hb c H0 G0 σ H1 G1 ρ cu1 D (s.go x1 w1) q1
theorem sem_callE {n : Nat} {gf : GF} {t : TA} {g : GA} (ha : SemA K E t g) : SemE K E (tCall (spG K n gf) [] E t) (gApp n gf g) := by
  intro c H0 G0 σ H G ρ cu Q s q
  refine ha c H0 G0 σ H G ρ cu _ s (q.bind.imp fun as H1 G1 cu1 x1 w1 q1 vs rvs => ?_)
  split at q1
  · rename_i hn
    exact ⟨c, G1, as, cu1, hn, w1, by rw [List.append_nil]; exact rvs, q1⟩
  · exact q1.elim
end
/-- a call whose error is told the caller's state -/
def tCallW (sp : Sp) (W : WX) (t : TA) : TE := fun σ H Q => t σ H fun vs H1 => sp (vs ++ []) H1 Q (fun cls d H' => W cls d σ H')
theorem pe_callW {X : Cx} {W : WX} {k : Nat} {f : Addr} {fd : FuncData} {ps : List Str} {sp : Sp} {x : Str} {p pos : Pos} {e : Expr} {es : List Expr} {t : TA} (F : FnOk X.prog X.w X.K X.mg X.base (L2.CX X.prog X.w) k f fd ps sp) (hr : Room k X.A) (hg : Gl X x) (hm : X.mg x = some (.ref f)) (hk : PySem.W.keepIn X.K (.ref f) = true)
    (hb : Binds X.K fd ps []) (tk : Takes X W) (ha : PA X (e :: es) t) (hdb : (x == ("__debug__" : Str)) = false := by decide) (he : starEach (e :: es) X.env = (false, eval e X.env) :: starEach es X.env := by rfl) (hpl : (backTo pos (starEach es X.env)).any (·.1) = false := by rfl) :
    PE X (.Call (.Name x p) (e :: es) [] pos) (tCallW sp W t) := by
  refine ⟨fun pins s σ H Q I h => ?_⟩
  refine wpAny_Call_Name_kw (ld_glob I hg hm ?_ hdb)
  refine PySem.W.callWith_K (h₀ := X.base) I.ok.mod.kin hk (thn (ha.run pos pins s σ H _ I h) fun us s1 ⟨vs, H1, I1, r, q⟩ => ⟨I1.kIn, ?_⟩) he hpl
  have r2 : Vals (vs ++ []) (us ++ []) := r.append .nil
  have hl : (us ++ []).length = ps.length := by rw [← r2.length]; exact F.len _ _ _ _ q
  refine wpAny_call (codeAny_mono (F.run X.A X.stack s1 H1 ⟨us, []⟩ (us ++ []) (vs ++ []) Q _ hr I1.env0 (hb s1 us I1.kIn hl) r2 q) fun r s' hq => ?_)
  cases r with
  | error e => exact tk e s' (XE.of_call I1 (fun cls d H' h => h) hq)
  | ok fl =>
    cases fl with
    | ret u => exact I1.after hq
    | next => exact False.elim hq
    | brk => exact False.elim hq
    | cont => exact False.elim hq
structure PSW (X : Cx) (K : Kx) (W : WX) (st : List Stmt) (TW : TS) (g : GS) : Prop where
  ps : PSs X st TW
  sem : ∀ σ0, ∃ T : TS, (∀ D H, T D σ0 H = TW D σ0 H) ∧ SemX K (fun cls d H => W cls d σ0 H) T g
section
variable {X : Cx} {K : Kx} {W : WX} {E : XK}
theorem psw_append {i k n : Nat} {x y : Str} {p p' ap cp cp' pos : Pos} {gf : GF} {e : Expr} {es : List Expr} {t : TA} {g : GA} (D : DefOk X.prog X.w X.K X.mg X.base K y k n gf) (hr : Room k X.A) (hg : Gl X y) (tk : Takes X W) (ha : ∀ E, PAD X K E (e :: es) t g)
    (hpe : ∀ {te : TE}, PA X [.Call (.Name y p') (e :: es) [] cp'] (tCons te tNil) → PE X (.Call (.Attribute (.Name x p) "append" ap) [.Call (.Name y p') (e :: es) [] cp'] [] cp) (tBM X.K "list" rAppend (tVar i) (tCons te tNil)))
    (hdb : (y == ("__debug__" : Str)) = false := by decide) (he : starEach (e :: es) X.env = (false, eval e X.env) :: starEach es X.env := by rfl) (hpl : (backTo cp' (starEach es X.env)).any (·.1) = false := by rfl)
    (hs0 : starEach [.Call (.Name y p') (e :: es) [] cp'] X.env = (false, eval (.Call (.Name y p') (e :: es) [] cp') X.env) :: starEach [] X.env := by rfl)
    (hs : swapsWith (.Call (.Attribute (.Name x p) "append" ap) [.Call (.Name y p') (e :: es) [] cp'] [] cp) none pos.line X.env = pure false := by rfl) :
    PSW X K W [.Expr (.Call (.Attribute (.Name x p) "append" ap) [.Call (.Name y p') (e :: es) [] cp'] [] cp) pos] (tDrop (tBM X.K "list" rAppend (tVar i) (tCons (tCallW (spG K n gf) W t) tNil))) (gApd i (gApp n gf g)) := by
  obtain ⟨f, fd, ps, F, hm, hk, hb⟩ := D
  exact ⟨pss_one (ps_expr (hpe (pa_cons (pe_callW F hr hg hm hk hb tk (ha E0).pa hdb he hpl) pa_nil hs0)) hs), fun σ0 => ⟨tDrop (tBM X.K "list" rAppend (tVar i) (tCons (tCall (spG K n gf) [] (fun cls d H => W cls d σ0 H) t) tNil)), fun D H => rfl, semX_append (sem_callE (ha _).sem)⟩⟩
theorem psw_if {c : Expr} {a b : List Stmt} {pos : Pos} {tt : TT} {gt : GT} {ta tb : TS} {g g' : GS} (hc : ∀ E, PTD X K E c tt gt) (ha : PSW X K W a ta g) (hb : PSW X K W b tb g') : PSW X K W [.If c a b pos] (tIfS tt ta tb) (gIf gt g g') := by
  refine ⟨pss_one (ps_if (hc E0).pt ha.ps hb.ps), fun σ0 => ?_⟩
  obtain ⟨Ta, ea, sa⟩ := ha.sem σ0
  obtain ⟨Tb, eb, sb⟩ := hb.sem σ0
  refine ⟨tIfS tt Ta Tb, fun D H => ?_, semX_if (hc _).sem sa sb⟩
  refine congrArg (tt σ0 H) ?_
  funext k H1
  cases k
  · exact eb D H1
  · exact ea D H1
def tOfX (K : Kx) (W : WX) (g : GS) : TS := fun D σ H => ∃ c H0 G0 G ρ cu, SRep K c H0 G0 σ H G ρ cu ∧ PostX K (fun cls d H => W cls d σ H) c H0 G0 H G (g ρ cu) D
theorem PSW.canon {st : List Stmt} {TW : TS} {g : GS} (h : PSW X K W st TW g) : PSs X st (tOfX K W g) :=
  ⟨fun pins s σ H D I ⟨c, H0, G0, G, ρ, cu, r, q⟩ => let ⟨T, e, m⟩ := h.sem σ; h.ps.run pins s σ H D I ((e D H) ▸ m c H0 G0 σ H G ρ cu D r q)⟩
def gTryW (g : GS) (hk : Nat → GS) : GS := fun ρ cu => match g ρ cu with
  | .stuck => .stuck
  | .exc k cu' => match hk k ρ cu' with
    | .ok o cu2 => .ok o cu2
    | _ => .stuck
  | .ok o cu' => .ok o cu'
theorem psd_tryW {body : List Stmt} {h₀ : ExceptHandler} {hs : List ExceptHandler} {l : List (Value × Option Nat × SuW)} {pos : Pos} {g : GS} {hk : Nat → GS}
    (hst : X.stack = X.env :: X.outer) (hfr : X.env.frame = some X.env.locals) (hN : X.N.Nodup)
    (hb : ∀ (W : WX) (pn : List (Addr × Obj)) (xe : Value → Shared → Prop), Takes (X.tr pn xe) W → PassesOwn (model X.prog X.w) X.A X.env xe → ∃ TW, PSW (X.tr pn xe) K W body TW g) (hcl : ClOk X (h₀ :: hs) l)
    (hw : ∀ k c H0 G0 σ H G ρ cu (D : L2.Ends) d, SRep K c H0 G0 σ H G ρ cu → XD K k d H → (∃ o cu', hk k ρ cu = .ok o cu') → PostS K E0 c H0 G0 (hk k ρ cu) D → wCl X.K (fun _ _ _ _ => False) D l (.ref (K.CL k)) d σ H) :
    PSD X K E (.Try body (h₀ :: hs) [] [] pos) (fun D σ H => tOfX K (wCl X.K (fun _ _ _ _ => False) D l) g D σ H) (gTryW g hk) := by
  refine ⟨ps_try_cl (tb := fun W D σ H => tOfX K W g D σ H) hst hfr hN takes0 (fun W pn xe tk hp => ?_) hcl, fun c H0 G0 σ H G ρ cu D s q => ?_⟩
  · obtain ⟨t, h⟩ := hb W pn xe tk hp
    exact h.canon
  · refine ⟨c, H0, G0, G, ρ, cu, s, ?_⟩
    unfold gTryW at q
    cases hg : g ρ cu with
    | stuck => rw [hg] at q; exact q
    | ok o cu1 =>
      rw [hg] at q
      cases o <;> exact q
    | exc k cu1 =>
      rw [hg] at q
      dsimp only at q
      cases hq : hk k ρ cu1 with
      | stuck => rw [hq] at q; exact q.elim
      | exc k2 cu2 => rw [hq] at q; exact q.elim
      | ok o cu2 =>
        rw [hq] at q
        exact fun H' G' x w d hd => hw k c H0 G0 σ H' G' ρ cu1 D d (s.go x w) hd ⟨o, cu2, hq⟩ (by rw [hq]; cases o <;> exact q)
end
end DL

set_option Elab.async false
set_option linter.all false
set_option maxRecDepth 100000
set_option maxHeartbeats 4000000
set_option autoImplicit false
namespace Prog
open PySem PySem.Spec PyProof.Rows L2 DL
def topS (i : Nat) : Stmt := PySem.Challenge.pw_towerback_k65_whole_terms.main.body.getD i (.Pass ⟨0, 0, 0, 0⟩)
abbrev s_is_integer : Stmt := topS 1
abbrev s_is_integer_in : Stmt := topS 2
abbrev s_has_sort : Stmt := topS 14
abbrev s_parts_within : Stmt := topS 15
abbrev s_is_built_within : Stmt := topS 16
abbrev s_is_plain_term : Stmt := topS 17
abbrev s_need_term : Stmt := topS 18
abbrev s_height_within : Stmt := topS 19
abbrev s_size_from_parts : Stmt := topS 20
abbrev s_size_within : Stmt := topS 21
abbrev s_is_term : Stmt := topS 22
abbrev s_parts_of : Stmt := topS 23
abbrev s_height_of : Stmt := topS 24
abbrev s_size_of : Stmt := topS 25
abbrev s_part_at : Stmt := topS 26
abbrev s__law_cup : Stmt := topS 28
abbrev s__law_roll : Stmt := topS 29
abbrev s__law_some : Stmt := topS 30
abbrev s__law_parts : Stmt := topS 31
abbrev s__law_height : Stmt := topS 32
abbrev s__law_drawn : Stmt := topS 33
abbrev s__law_odd : Stmt := topS 34
abbrev s__law_path : Stmt := topS 35
abbrev s__law_put : Stmt := topS 36
abbrev s__law_good : Stmt := topS 37
abbrev s__law_within : Stmt := topS 38
abbrev s__law_is_term : Stmt := topS 39
abbrev s__law_same : Stmt := topS 40
abbrev s__law_size : Stmt := topS 41
abbrev s__law_asked : Stmt := topS 42
abbrev s__law_at : Stmt := topS 43
abbrev s__law_exactly : Stmt := topS 44
abbrev s_law : Stmt := topS 45
def tab_MANY_PARTS : List (Str × Int) := [(PySem.Str.ofString "whole", 0), (PySem.Str.ofString "x", 0), (PySem.Str.ofString "negative", 1), (PySem.Str.ofString "power", 1), (PySem.Str.ofString "log", 1), (PySem.Str.ofString "exp", 1), (PySem.Str.ofString "plus", 2), (PySem.Str.ofString "minus", 2), (PySem.Str.ofString "times", 2), (PySem.Str.ofString "over", 2)]
end Prog

set_option Elab.async false
set_option linter.all false
set_option maxRecDepth 100000
set_option maxHeartbeats 2000000
set_option autoImplicit false
/-! the head where more is asked of the written part: any checks, dicts with text keys -/
namespace DL
open PySem PySem.Spec PyProof.Rows L2
abbrev AlE : Type := AlT × List (Option (List (Option (Str × Int))))
def dcO (ds : List (Str × List Str)) (F : PySem.W.Frag) : List (Option (List (Option (Str × Int)))) := ds.map fun d => He.dicW F (He.ga F d.1)
def dcV (ds : List (Str × List Str)) (w : World) : List (Option (List (Option (Str × Int)))) := ds.map fun d => some (He.keysIn w.params d.2)
/-- what is looked at: what the globals reach, and the statics -/
abbrev frE (n : Nat) (g : Addr → Option Obj) : PySem.W.Frag := He.frG g (He.asD g n ++ [cStatics])
def obsE (n : Nat) (fa : List He.Fa) (fn : List He.DefD) (xs : List Str) (bs : List (Str × String)) (ts : List (Str × PyData)) (ex : List (PySem.W.Frag → Bool)) (ds : List (Str × List Str)) (g : Addr → Option Obj) : AlE :=
  ((He.obsD fa fn (frE n g), (((tabO xs (frE n g) g).1 && (bs.all (fun b => biB (frE n g) b.1 b.2) && ts.all fun t => tpB (frE n g) t.1 t.2)) && ex.all (fun c => c (frE n g)), (tabO xs (frE n g) g).2)), dcO ds (frE n g))
structure SaysE (fa : List He.Fa) (fn : List He.DefD) (xs : List Str) (bs : List (Str × String)) (ts : List (Str × PyData)) (ex : List (PySem.W.Frag → Bool)) (ds : List (Str × List Str)) (w : World) (K : PySem.W.Frag) (h : Heap) : Prop extends SaysC fa fn xs bs ts K h where
  ex : ∀ c ∈ ex, c K = true
  dc : ∀ d ∈ ds, He.dicW K (He.ga K d.1) = some (He.keysIn w.params d.2)
def hookE (n : Nat) (fa : List He.Fa) (fn : List He.DefD) (xs : List Str) (bs : List (Str × String)) (ts : List (Str × PyData)) (ex : List (PySem.W.Frag → Bool)) (ds : List (Str × List Str)) : PySem.W.Hook where
  α := AlE
  obs := fun s => obsE n fa fn xs bs ts ex ds s.heap.get?
  val := fun w => ((He.valD fn, tabV xs), dcV ds w)
  says := fun w h => ∃ K : PySem.W.Frag, SaysE fa fn xs bs ts ex ds w K h
  of := fun w s e => by
    have e0 := congrArg (fun z : AlE => z.2) e
    have e1 := congrArg (fun z : AlE => z.1.1) e
    have e2 := congrArg (fun z : AlE => z.1.2.1) e
    have e3 := congrArg (fun z : AlE => z.1.2.2) e
    have e2 : ((((xs.all fun x => tabB (frE n s.heap.get?) x) && decide (xs.map fun x => (tabP (frE n s.heap.get?) x).2).Nodup) && (bs.all (fun b => biB (frE n s.heap.get?) b.1 b.2) && ts.all fun t => tpB (frE n s.heap.get?) t.1 t.2)) &&
      ex.all (fun c => c (frE n s.heap.get?))) = true := e2
    rw [Bool.and_eq_true, Bool.and_eq_true, Bool.and_eq_true, Bool.and_eq_true, List.all_eq_true, List.all_eq_true, List.all_eq_true, List.all_eq_true, decide_eq_true_eq] at e2
    have e3 : (xs.map fun x => s.heap.get? (tabP (frE n s.heap.get?) x).2) = xs.map fun _ => some (PySem.W.tabObj #[]) := e3
    have e0 : (ds.map fun d => He.dicW (frE n s.heap.get?) (He.ga (frE n s.heap.get?) d.1)) = ds.map fun d => some (He.keysIn w.params d.2) := e0
    exact ⟨_, ⟨⟨⟨⟨He.frG_in, e1, fun x hx => ⟨e2.1.1.1 x hx, List.map_inj_left.mp e3 x hx⟩, e2.1.1.2⟩, e2.1.2.1⟩, e2.1.2.2⟩, e2.2, fun d hd => List.map_inj_left.mp e0 d hd⟩⟩
  keeps := fun w h h' ⟨K, S⟩ k => ⟨K, ⟨⟨⟨⟨PySem.W.Frag.In.keeps S.kin k, S.facts, fun x hx => ⟨(S.tab x hx).1, k _ _ (S.tab x hx).2⟩, S.nd⟩, S.bi⟩, S.tp⟩, S.ex, S.dc⟩⟩
theorem obsE_eq {n : Nat} {fa : List He.Fa} {fn : List He.DefD} {xs : List Str} {bs : List (Str × String)} {ts : List (Str × PyData)} {ex : List (PySem.W.Frag → Bool)} {ds : List (Str × List Str)} {g : Addr → Option Obj} {s : Shared} (h : ∀ a, g a = s.heap.get? a) :
    obsE n fa fn xs bs ts ex ds g = (hookE n fa fn xs bs ts ex ds).obs s := by
  have e : g = s.heap.get? := funext h
  rw [e] <;> rfl
/-- the def of a class -/
theorem fun_meth {fa : List He.Fa} {fn : List He.DefD} {K : PySem.W.Frag} {x q m : Str} {st : Stmt} {ps : List Str} (c : He.SaysD fa fn K) (i : Nat) (hd : fn[i]? = some ⟨(x, some m), m, q, defArgs st, defBody st, defScope st, [], []⟩)
    (hb : ∀ (kV doc pm : Value) (an : Option Addr) (cdv ct : Value) (us : List Value), us.length = ps.length → bindArgs (PySem.W.fnOf m q (defArgs st) (defBody st) (defScope st) .none kV doc pm an cdv ct) ⟨us, []⟩ = pure (ps.zip us)) :
    ∃ fd : FuncData, Fun K m q st (He.fAd K (x, some m)) fd ∧ Binds K fd ps [] := by
  obtain ⟨fd, F⟩ := c.def_ i hd
  have b := F.bindsN hb
  obtain ⟨oc, od, dV, kV, doc, pm, an, cdv, ct, osl, rfl, lk, hcd, hD, hK⟩ := F.ex
  rcases hD with ⟨_, rfl⟩ | ⟨e, _⟩
  · exact ⟨_, ⟨⟨oc, od, kV, doc, pm, an, cdv, ct, osl, rfl, lk, hcd⟩, F.kp⟩, b⟩
  · exact absurd rfl e
end DL

set_option Elab.async false
set_option linter.all false
set_option maxRecDepth 100000
set_option maxHeartbeats 0
set_option autoImplicit false
namespace Prog
open PySem PySem.Spec PyProof.Rows L2 DL
def fnH : List He.DefD := [⟨("is_integer", none), "is_integer", "is_integer", defArgs s_is_integer, defBody s_is_integer, defScope s_is_integer, [], []⟩, ⟨("is_integer_in", none), "is_integer_in", "is_integer_in", defArgs s_is_integer_in, defBody s_is_integer_in, defScope s_is_integer_in, [], []⟩, ⟨("has_sort", none), "has_sort", "has_sort", defArgs s_has_sort, defBody s_has_sort, defScope s_has_sort, [], []⟩, ⟨("parts_within", none), "parts_within", "parts_within", defArgs s_parts_within, defBody s_parts_within, defScope s_parts_within, [], []⟩, ⟨("is_built_within", none), "is_built_within", "is_built_within", defArgs s_is_built_within, defBody s_is_built_within, defScope s_is_built_within, [], []⟩, ⟨("is_plain_term", none), "is_plain_term", "is_plain_term", defArgs s_is_plain_term, defBody s_is_plain_term, defScope s_is_plain_term, [], []⟩, ⟨("need_term", none), "need_term", "need_term", defArgs s_need_term, defBody s_need_term, defScope s_need_term, [], []⟩, ⟨("height_within", none), "height_within", "height_within", defArgs s_height_within, defBody s_height_within, defScope s_height_within, [], []⟩, ⟨("size_from_parts", none), "size_from_parts", "size_from_parts", defArgs s_size_from_parts, defBody s_size_from_parts, defScope s_size_from_parts, [], []⟩, ⟨("size_within", none), "size_within", "size_within", defArgs s_size_within, defBody s_size_within, defScope s_size_within, [], []⟩, ⟨("is_term", none), "is_term", "is_term", defArgs s_is_term, defBody s_is_term, defScope s_is_term, [], []⟩, ⟨("parts_of", none), "parts_of", "parts_of", defArgs s_parts_of, defBody s_parts_of, defScope s_parts_of, [], []⟩, ⟨("height_of", none), "height_of", "height_of", defArgs s_height_of, defBody s_height_of, defScope s_height_of, [], []⟩, ⟨("size_of", none), "size_of", "size_of", defArgs s_size_of, defBody s_size_of, defScope s_size_of, [], []⟩, ⟨("part_at", none), "part_at", "part_at", defArgs s_part_at, defBody s_part_at, defScope s_part_at, [], []⟩, ⟨("_law_cup", none), "_law_cup", "_law_cup", defArgs s__law_cup, defBody s__law_cup, defScope s__law_cup, [], []⟩, ⟨("_law_roll", none), "_law_roll", "_law_roll", defArgs s__law_roll, defBody s__law_roll, defScope s__law_roll, [], []⟩, ⟨("_law_some", none), "_law_some", "_law_some", defArgs s__law_some, defBody s__law_some, defScope s__law_some, [], []⟩, ⟨("_law_parts", none), "_law_parts", "_law_parts", defArgs s__law_parts, defBody s__law_parts, defScope s__law_parts, [], []⟩, ⟨("_law_height", none), "_law_height", "_law_height", defArgs s__law_height, defBody s__law_height, defScope s__law_height, [], []⟩, ⟨("_law_drawn", none), "_law_drawn", "_law_drawn", defArgs s__law_drawn, defBody s__law_drawn, defScope s__law_drawn, [], []⟩, ⟨("_law_odd", none), "_law_odd", "_law_odd", defArgs s__law_odd, defBody s__law_odd, defScope s__law_odd, [], []⟩, ⟨("_law_path", none), "_law_path", "_law_path", defArgs s__law_path, defBody s__law_path, defScope s__law_path, [], []⟩, ⟨("_law_put", none), "_law_put", "_law_put", defArgs s__law_put, defBody s__law_put, defScope s__law_put, [], []⟩, ⟨("_law_good", none), "_law_good", "_law_good", defArgs s__law_good, defBody s__law_good, defScope s__law_good, [], []⟩, ⟨("_law_within", none), "_law_within", "_law_within", defArgs s__law_within, defBody s__law_within, defScope s__law_within, [], []⟩, ⟨("_law_is_term", none), "_law_is_term", "_law_is_term", defArgs s__law_is_term, defBody s__law_is_term, defScope s__law_is_term, [], []⟩, ⟨("_law_same", none), "_law_same", "_law_same", defArgs s__law_same, defBody s__law_same, defScope s__law_same, [], []⟩, ⟨("_law_size", none), "_law_size", "_law_size", defArgs s__law_size, defBody s__law_size, defScope s__law_size, [], []⟩, ⟨("_law_asked", none), "_law_asked", "_law_asked", defArgs s__law_asked, defBody s__law_asked, defScope s__law_asked, [], []⟩, ⟨("_law_at", none), "_law_at", "_law_at", defArgs s__law_at, defBody s__law_at, defScope s__law_at, [], []⟩, ⟨("_law_exactly", none), "_law_exactly", "_law_exactly", defArgs s__law_exactly, defBody s__law_exactly, defScope s__law_exactly, [], []⟩, ⟨("law", none), "law", "law", defArgs s_law, defBody s_law, defScope s_law, [], []⟩]
def faH : List He.Fa := [.free "abs", .free "len", .free "isinstance", .free "range", .free "enumerate", .free "int", .free "bool", .free "str", .free "tuple", .free "list", .free "repr", .free "max", .int "GREATEST_WHOLE" 1000000, .int "GREATEST_EXPONENT" 12, .int "GREATEST_HEIGHT" 60, .int "MOST_TERMS" 20000, .glo "InvalidTerm", .glo "InvalidPath", .exc "InvalidTerm", .exm "InvalidTerm" "InvalidTerm" true, .exc "InvalidPath", .exm "InvalidPath" "InvalidTerm" false, .exm "InvalidPath" "InvalidPath" true, .glo "MANY_PARTS", .glo "is_integer", .glo "is_integer_in", .glo "has_sort", .glo "parts_within", .glo "is_built_within", .glo "is_plain_term", .glo "need_term", .glo "height_within", .glo "size_from_parts", .glo "size_within", .glo "is_term", .glo "parts_of", .glo "height_of", .glo "size_of", .glo "part_at", .glo "_law_cup", .glo "_law_roll", .glo "_law_some", .glo "_law_parts", .glo "_law_height", .glo "_law_drawn", .glo "_law_odd", .glo "_law_path", .glo "_law_put", .glo "_law_good", .glo "_law_within", .glo "_law_is_term", .glo "_law_same", .glo "_law_size", .glo "_law_asked", .glo "_law_at", .glo "_law_exactly", .glo "law"]
def xsH : List Str := []
abbrev RH : PySem.W.OpenRow := PySem.W.OpenLaw.row PySem.Challenge.rw_towerback_k65_whole_terms
def bsH : List (Str × String) := []
def tsH : List (Str × PyData) := []
def exH : List (PySem.W.Frag → Bool) := [fun F => kvB F (He.ga F "MANY_PARTS") tab_MANY_PARTS]
def dcH : List (Str × List Str) := [("MANY_PARTS", tab_MANY_PARTS.map (·.1))]
abbrev hkH : PySem.W.Hook := hookE 4 faH fnH xsH bsH tsH exH dcH
def obH (s : PySem.W.SharedT) : AlE := obsE 4 faH fnH xsH bsH tsH exH dcH (HandSHeadRun.getT s)
theorem obH_eq (s : PySem.W.SharedT) : obH s = hkH.obs s.abs := obsE_eq (HandSHeadRun.getT_eq s)
def looseH : List Str := (["is_integer", "is_integer_in", "has_sort", "parts_within", "is_built_within", "is_plain_term", "need_term", "height_within", "size_from_parts", "size_within", "is_term", "parts_of", "height_of", "size_of", "part_at", "_law_cup", "_law_roll", "_law_some", "_law_parts", "_law_height", "_law_drawn", "_law_odd", "_law_path", "_law_put"] : List Str) ++ (["_law_good", "_law_within", "_law_is_term", "_law_same", "_law_size", "_law_asked", "_law_at", "_law_exactly", "GREATEST_WHOLE", "GREATEST_EXPONENT", "GREATEST_HEIGHT", "MOST_TERMS", "MANY_PARTS", "PaperError", "InvalidTerm", "InvalidPath"] : List Str)
theorem runH_true (w : World) : HandSHeadRun.RunEq RH (PySem.W.view RH.prog [45]) hkH obH 4000 looseH (w.withFollow "special-get-raises" true) := by
  intro os
  kernel_rfl
theorem runH_false (w : World) : HandSHeadRun.RunEq RH (PySem.W.view RH.prog [45]) hkH obH 4000 looseH (w.withFollow "special-get-raises" false) := by
  intro os
  kernel_rfl
theorem runH (w : World) : HandSHeadRun.RunEq RH (PySem.W.view RH.prog [45]) hkH obH 4000 looseH w := by
  have e := PySem.World.withFollow_self w "special-get-raises"
  cases hb : w.params.followText "special-get-raises" <;> rw [hb] at e
  · rw [← e]; exact runH_false w
  · rw [← e]; exact runH_true w
end Prog

set_option Elab.async false
set_option linter.all false
set_option maxRecDepth 100000
set_option maxHeartbeats 4000000
set_option autoImplicit false
namespace Prog
open PySem PySem.Spec PyProof.Rows L2 DL
structure Txt (P : Program) (w : World) (F : PySem.W.Frag) (mg : Str → Option Value) (base : Heap) (K : Kx) : Prop where
  b_abs : mg "abs" = none
  b_len : mg "len" = none
  b_isinstance : mg "isinstance" = none
  b_range : mg "range" = none
  b_enumerate : mg "enumerate" = none
  b_int : mg "int" = none
  b_bool : mg "bool" = none
  b_str : mg "str" = none
  b_tuple : mg "tuple" = none
  b_list : mg "list" = none
  b_repr : mg "repr" = none
  b_max : mg "max" = none
  kf : K.F = F
  c_GREATEST_WHOLE : ∃ u : Tok, mg "GREATEST_WHOLE" = some (.int 1000000 u)
  c_GREATEST_EXPONENT : ∃ u : Tok, mg "GREATEST_EXPONENT" = some (.int 12 u)
  c_GREATEST_HEIGHT : ∃ u : Tok, mg "GREATEST_HEIGHT" = some (.int 60 u)
  c_MOST_TERMS : ∃ u : Tok, mg "MOST_TERMS" = some (.int 20000 u)
  g_InvalidTerm : mg "InvalidTerm" = some (.ref (K.CL 0))
  g_InvalidPath : mg "InvalidPath" = some (.ref (K.CL 1))
  x_InvalidTerm : PySem.W.excIn F (K.CL 0) [.type "ValueError", .type "Exception", .type "BaseException", .type "object"] "ValueError.__new__" = true
  k_InvalidTerm : PySem.W.keepIn F (.ref (K.CL 0)) = true
  s_InvalidTerm : PySem.W.subIn F (.ref (K.CL 0)) (.type "BaseException") = some true
  t_InvalidTerm : PySem.W.typeIn F (.ref (K.CL 0)) = some (.type "type")
  m_InvalidTerm_InvalidTerm : PySem.W.exmOne F (.ref (K.CL 0)) (.ref (K.CL 0)) = some true
  x_InvalidPath : PySem.W.excIn F (K.CL 1) [.type "ValueError", .type "Exception", .type "BaseException", .type "object"] "ValueError.__new__" = true
  k_InvalidPath : PySem.W.keepIn F (.ref (K.CL 1)) = true
  s_InvalidPath : PySem.W.subIn F (.ref (K.CL 1)) (.type "BaseException") = some true
  t_InvalidPath : PySem.W.typeIn F (.ref (K.CL 1)) = some (.type "type")
  m_InvalidPath_InvalidTerm : PySem.W.exmOne F (.ref (K.CL 1)) (.ref (K.CL 0)) = some false
  m_InvalidPath_InvalidPath : PySem.W.exmOne F (.ref (K.CL 1)) (.ref (K.CL 1)) = some true
  lm_InvalidTerm : K.LM 0 = none
  lm_InvalidPath : K.LM 1 = none
  d_MANY_PARTS : ∃ p : Addr, mg "MANY_PARTS" = some (.ref p) ∧ KD F w p tab_MANY_PARTS
  f_is_integer : ∃ (f : Addr) (fd : FuncData), Fun F "is_integer" "is_integer" s_is_integer f fd ∧ mg "is_integer" = some (.ref f) ∧ Binds F fd ["value"] []
  f_is_integer_in : ∃ (f : Addr) (fd : FuncData), Fun F "is_integer_in" "is_integer_in" s_is_integer_in f fd ∧ mg "is_integer_in" = some (.ref f) ∧ Binds F fd ["value", "low", "high"] []
  f_has_sort : ∃ (f : Addr) (fd : FuncData), Fun F "has_sort" "has_sort" s_has_sort f fd ∧ mg "has_sort" = some (.ref f) ∧ Binds F fd ["value"] []
  f_parts_within : ∃ (f : Addr) (fd : FuncData), Fun F "parts_within" "parts_within" s_parts_within f fd ∧ mg "parts_within" = some (.ref f) ∧ Binds F fd ["term"] []
  f_is_built_within : ∃ (f : Addr) (fd : FuncData), Fun F "is_built_within" "is_built_within" s_is_built_within f fd ∧ mg "is_built_within" = some (.ref f) ∧ Binds F fd ["value", "height", "many"] []
  f_is_plain_term : ∃ (f : Addr) (fd : FuncData), Fun F "is_plain_term" "is_plain_term" s_is_plain_term f fd ∧ mg "is_plain_term" = some (.ref f) ∧ Binds F fd ["value"] []
  f_need_term : ∃ (f : Addr) (fd : FuncData), Fun F "need_term" "need_term" s_need_term f fd ∧ mg "need_term" = some (.ref f) ∧ Binds F fd ["term"] []
  f_height_within : ∃ (f : Addr) (fd : FuncData), Fun F "height_within" "height_within" s_height_within f fd ∧ mg "height_within" = some (.ref f) ∧ Binds F fd ["term"] []
  f_size_from_parts : ∃ (f : Addr) (fd : FuncData), Fun F "size_from_parts" "size_from_parts" s_size_from_parts f fd ∧ mg "size_from_parts" = some (.ref f) ∧ Binds F fd ["term", "sizes"] []
  f_size_within : ∃ (f : Addr) (fd : FuncData), Fun F "size_within" "size_within" s_size_within f fd ∧ mg "size_within" = some (.ref f) ∧ Binds F fd ["term"] []
  f_is_term : ∃ (f : Addr) (fd : FuncData), Fun F "is_term" "is_term" s_is_term f fd ∧ mg "is_term" = some (.ref f) ∧ Binds F fd ["value"] []
  f_parts_of : ∃ (f : Addr) (fd : FuncData), Fun F "parts_of" "parts_of" s_parts_of f fd ∧ mg "parts_of" = some (.ref f) ∧ Binds F fd ["term"] []
  f_height_of : ∃ (f : Addr) (fd : FuncData), Fun F "height_of" "height_of" s_height_of f fd ∧ mg "height_of" = some (.ref f) ∧ Binds F fd ["term"] []
  f_size_of : ∃ (f : Addr) (fd : FuncData), Fun F "size_of" "size_of" s_size_of f fd ∧ mg "size_of" = some (.ref f) ∧ Binds F fd ["term"] []
  f_part_at : ∃ (f : Addr) (fd : FuncData), Fun F "part_at" "part_at" s_part_at f fd ∧ mg "part_at" = some (.ref f) ∧ Binds F fd ["term", "path"] []
  f__law_cup : ∃ (f : Addr) (fd : FuncData), Fun F "_law_cup" "_law_cup" s__law_cup f fd ∧ mg "_law_cup" = some (.ref f) ∧ Binds F fd ["_law_script"] []
  f__law_roll : ∃ (f : Addr) (fd : FuncData), Fun F "_law_roll" "_law_roll" s__law_roll f fd ∧ mg "_law_roll" = some (.ref f) ∧ Binds F fd ["_law_cup_here", "_law_many"] []
  f__law_some : ∃ (f : Addr) (fd : FuncData), Fun F "_law_some" "_law_some" s__law_some f fd ∧ mg "_law_some" = some (.ref f) ∧ Binds F fd ["_law_cup_here", "_law_things"] []
  f__law_parts : ∃ (f : Addr) (fd : FuncData), Fun F "_law_parts" "_law_parts" s__law_parts f fd ∧ mg "_law_parts" = some (.ref f) ∧ Binds F fd ["_law_term"] []
  f__law_height : ∃ (f : Addr) (fd : FuncData), Fun F "_law_height" "_law_height" s__law_height f fd ∧ mg "_law_height" = some (.ref f) ∧ Binds F fd ["_law_term"] []
  f__law_drawn : ∃ (f : Addr) (fd : FuncData), Fun F "_law_drawn" "_law_drawn" s__law_drawn f fd ∧ mg "_law_drawn" = some (.ref f) ∧ Binds F fd ["_law_cup_here", "_law_deep", "_law_powers", "_law_functions"] []
  f__law_odd : ∃ (f : Addr) (fd : FuncData), Fun F "_law_odd" "_law_odd" s__law_odd f fd ∧ mg "_law_odd" = some (.ref f) ∧ Binds F fd ["_law_cup_here"] []
  f__law_path : ∃ (f : Addr) (fd : FuncData), Fun F "_law_path" "_law_path" s__law_path f fd ∧ mg "_law_path" = some (.ref f) ∧ Binds F fd ["_law_cup_here", "_law_term"] []
  f__law_put : ∃ (f : Addr) (fd : FuncData), Fun F "_law_put" "_law_put" s__law_put f fd ∧ mg "_law_put" = some (.ref f) ∧ Binds F fd ["_law_term", "_law_path_here", "_law_value"] []
  f__law_good : ∃ (f : Addr) (fd : FuncData), Fun F "_law_good" "_law_good" s__law_good f fd ∧ mg "_law_good" = some (.ref f) ∧ Binds F fd ["_law_value"] []
  f__law_within : ∃ (f : Addr) (fd : FuncData), Fun F "_law_within" "_law_within" s__law_within f fd ∧ mg "_law_within" = some (.ref f) ∧ Binds F fd ["_law_value"] []
  f__law_is_term : ∃ (f : Addr) (fd : FuncData), Fun F "_law_is_term" "_law_is_term" s__law_is_term f fd ∧ mg "_law_is_term" = some (.ref f) ∧ Binds F fd ["_law_value"] []
  f__law_same : ∃ (f : Addr) (fd : FuncData), Fun F "_law_same" "_law_same" s__law_same f fd ∧ mg "_law_same" = some (.ref f) ∧ Binds F fd ["_law_one", "_law_other"] []
  f__law_size : ∃ (f : Addr) (fd : FuncData), Fun F "_law_size" "_law_size" s__law_size f fd ∧ mg "_law_size" = some (.ref f) ∧ Binds F fd ["_law_term"] []
  f__law_asked : ∃ (f : Addr) (fd : FuncData), Fun F "_law_asked" "_law_asked" s__law_asked f fd ∧ mg "_law_asked" = some (.ref f) ∧ Binds F fd ["_law_value", "_law_path_here"] []
  f__law_at : ∃ (f : Addr) (fd : FuncData), Fun F "_law_at" "_law_at" s__law_at f fd ∧ mg "_law_at" = some (.ref f) ∧ Binds F fd ["_law_term", "_law_path_here"] []
  f__law_exactly : ∃ (f : Addr) (fd : FuncData), Fun F "_law_exactly" "_law_exactly" s__law_exactly f fd ∧ mg "_law_exactly" = some (.ref f) ∧ Binds F fd ["_law_many"] []
  f_law : ∃ (f : Addr) (fd : FuncData), Fun F "law" "law" s_law f fd ∧ mg "law" = some (.ref f) ∧ Binds F fd ["_law_script"] []
section
variable {P : Program} {w : World} {F : PySem.W.Frag} {mg : Str → Option Value} {base : Heap} {K : Kx}
def slI (ρ : En) (i : Nat) : Nat := match ρ[i]? with
  | some (.dat (.int z)) => z.natAbs
  | _ => 0
def slI0 (ρ : En) (i k : Nat) : Nat := match ρ[i]? with
  | some (.dat (.tuple ds)) => (match ds[k]? with | some (.int z) => z.natAbs | _ => 0)
  | _ => 0

theorem d_MANY_PARTS (T : Txt P w F mg base K) : mg "MANY_PARTS" = some (.ref T.d_MANY_PARTS.choose) ∧ KD F w T.d_MANY_PARTS.choose tab_MANY_PARTS := T.d_MANY_PARTS.choose_spec
theorem sc_is_integer : FnScope ["value"] ["value"] (defScope s_is_integer) := ⟨rfl, rfl, rfl, by decide +kernel, rfl, by decide +kernel, by decide +kernel⟩
def g_is_integer : GS := (gRet (gAndV (gIsi "int" (gVar 0)) (gNotV (gIsi "bool" (gVar 0)))))
def G_is_integer : GF := gFn 1 g_is_integer
theorem d_is_integer (T : Txt P w F mg base K) : DefOk P w F mg base K "is_integer" 1 1 G_is_integer := by
  obtain ⟨f, fd, Fn, hm, hb⟩ := T.f_is_integer
  refine ⟨f, fd, ["value"], ok_def (N := ["value"]) (g := g_is_integer) Fn sc_is_integer ?body, hm, Fn.kp, hb⟩
  intro cdv A outer s H E hr
  have nd := sc_is_integer.nd
  have hu := hr.units
  have hu1 := Nat.lt_of_le_of_lt (Nat.add_le_add_left (by decide : 1 ≤ 64) _) hu
  have tk : Takes (cxOf (L2.CX P w) P w F mg base ["value"] "is_integer" (defScope s_is_integer) f cdv A outer s H E) (fun cls d _ H => E cls d H) := takes_of rfl rfl rfl rfl
  have hx : Passes (L2.CX P w) (cxOf (L2.CX P w) P w F mg base ["value"] "is_integer" (defScope s_is_integer) f cdv A outer s H E) E := passes_call tk fun _ _ _ _ h => h
  have hp : PassesOwn (model P w) (cxOf (L2.CX P w) P w F mg base ["value"] "is_integer" (defScope s_is_integer) f cdv A outer s H E).A (cxOf (L2.CX P w) P w F mg base ["value"] "is_integer" (defScope s_is_integer) f cdv A outer s H E).env (cxOf (L2.CX P w) P w F mg base ["value"] "is_integer" (defScope s_is_integer) f cdv A outer s H E).xe := passes_of rfl
  have hc : (cxOf (L2.CX P w) P w F mg base ["value"] "is_integer" (defScope s_is_integer) f cdv A outer s H E).calm = true := rfl
  have hKF : K.F = (cxOf (L2.CX P w) P w F mg base ["value"] "is_integer" (defScope s_is_integer) f cdv A outer s H E).K := T.kf
  exact ⟨_, (pssd_one (psd_ret (pd_and (pd_isi (T := "int") (pd_var (pv 0)) (by rfl) T.b_isinstance (by rfl) T.b_int bb_int) (pd_one (pd_not (pd_isi (T := "bool") (pd_var (pv 0)) (by rfl) T.b_isinstance (by rfl) T.b_bool bb_bool))))))⟩
theorem sc_is_integer_in : FnScope ["value", "low", "high"] ["value", "low", "high"] (defScope s_is_integer_in) := ⟨rfl, rfl, rfl, by decide +kernel, rfl, by decide +kernel, by decide +kernel⟩
def g_is_integer_in : GS := (gRet (gAndV (gApp 1 G_is_integer (gaCons (gVar 0) gaNil)) (gChain (fB0 fun i j => decide (i ≤ j)) (fB0 fun i j => decide (i ≤ j)) (gVar 1) (gVar 0) (gVar 2))))
def G_is_integer_in : GF := gFn 3 g_is_integer_in
theorem d_is_integer_in (T : Txt P w F mg base K) : DefOk P w F mg base K "is_integer_in" 2 3 G_is_integer_in := by
  obtain ⟨f, fd, Fn, hm, hb⟩ := T.f_is_integer_in
  refine ⟨f, fd, ["value", "low", "high"], ok_def (N := ["value", "low", "high"]) (g := g_is_integer_in) Fn sc_is_integer_in ?body, hm, Fn.kp, hb⟩
  intro cdv A outer s H E hr
  have nd := sc_is_integer_in.nd
  have hu := hr.units
  have hu1 := Nat.lt_of_le_of_lt (Nat.add_le_add_left (by decide : 1 ≤ 64) _) hu
  have tk : Takes (cxOf (L2.CX P w) P w F mg base ["value", "low", "high"] "is_integer_in" (defScope s_is_integer_in) f cdv A outer s H E) (fun cls d _ H => E cls d H) := takes_of rfl rfl rfl rfl
  have hx : Passes (L2.CX P w) (cxOf (L2.CX P w) P w F mg base ["value", "low", "high"] "is_integer_in" (defScope s_is_integer_in) f cdv A outer s H E) E := passes_call tk fun _ _ _ _ h => h
  have hp : PassesOwn (model P w) (cxOf (L2.CX P w) P w F mg base ["value", "low", "high"] "is_integer_in" (defScope s_is_integer_in) f cdv A outer s H E).A (cxOf (L2.CX P w) P w F mg base ["value", "low", "high"] "is_integer_in" (defScope s_is_integer_in) f cdv A outer s H E).env (cxOf (L2.CX P w) P w F mg base ["value", "low", "high"] "is_integer_in" (defScope s_is_integer_in) f cdv A outer s H E).xe := passes_of rfl
  have hc : (cxOf (L2.CX P w) P w F mg base ["value", "low", "high"] "is_integer_in" (defScope s_is_integer_in) f cdv A outer s H E).calm = true := rfl
  have hKF : K.F = (cxOf (L2.CX P w) P w F mg base ["value", "low", "high"] "is_integer_in" (defScope s_is_integer_in) f cdv A outer s H E).K := T.kf
  exact ⟨_, (pssd_one (psd_ret (pd_and (pd_callD (d_is_integer T) (hr.mono (by decide)) (by rfl) hx (pad_cons (pd_var (pv 0)) pad_nil)) (pd_one (pd_chain op_le opD_le op_le opD_le (pd_var (pv 1)) (pd_var (pv 0)) (pd_var (pv 2)))))))⟩
theorem sc_has_sort : FnScope ["value", "many"] ["value"] (defScope s_has_sort) := ⟨rfl, rfl, rfl, by decide +kernel, rfl, by decide +kernel, by decide +kernel⟩
def g_has_sort : GS := (gSeq (gIf (gOr (gNot (gTru (gIsi "tuple" (gVar 0)))) (gOr (gNot (gTru (gVar 0))) (gOr (gNot (gTru (gIsi "str" (gBin dIx (gVar 0) (gC (.int 0)))))) (gBool (gMap (dInD tab_MANY_PARTS true) (gBin dIx (gVar 0) (gC (.int 0)))))))) (gRet (gC (.bool false))) gSkip)
    (gSeq (gSet 1 (gBin dAdd (gMap (dIxD tab_MANY_PARTS) (gBin dIx (gVar 0) (gC (.int 0)))) (gC (.int 1))))
    (gSeq (gIf (gBool (gBin dEq (gBin dIx (gVar 0) (gC (.int 0))) (gC (.str (PySem.Str.ofString "whole"))))) (gRet (gAndV (gBin dEq (gCall dLen (gaCons (gVar 0) gaNil)) (gC (.int 2))) (gApp 3 G_is_integer_in (gaCons (gBin dIx (gVar 0) (gC (.int 1))) (gaCons (gC (.int 0)) (gaCons (gC (.int 1000000)) gaNil)))))) gSkip)
    (gSeq (gIf (gBool (gBin dEq (gBin dIx (gVar 0) (gC (.int 0))) (gC (.str (PySem.Str.ofString "power"))))) (gRet (gAndV (gBin dEq (gCall dLen (gaCons (gVar 0) gaNil)) (gC (.int 3))) (gApp 3 G_is_integer_in (gaCons (gBin dIx (gVar 0) (gC (.int 2))) (gaCons (gC (.int 0)) (gaCons (gC (.int 12)) gaNil)))))) gSkip)
    (gRet (gBin dEq (gCall dLen (gaCons (gVar 0) gaNil)) (gVar 1)))))))
def G_has_sort : GF := gFn 2 g_has_sort
theorem d_has_sort (T : Txt P w F mg base K) : DefOk P w F mg base K "has_sort" 3 1 G_has_sort := by
  obtain ⟨f, fd, Fn, hm, hb⟩ := T.f_has_sort
  refine ⟨f, fd, ["value"], ok_def (N := ["value", "many"]) (g := g_has_sort) Fn sc_has_sort ?body, hm, Fn.kp, hb⟩
  intro cdv A outer s H E hr
  have nd := sc_has_sort.nd
  have hu := hr.units
  have hu1 := Nat.lt_of_le_of_lt (Nat.add_le_add_left (by decide : 1 ≤ 64) _) hu
  have tk : Takes (cxOf (L2.CX P w) P w F mg base ["value", "many"] "has_sort" (defScope s_has_sort) f cdv A outer s H E) (fun cls d _ H => E cls d H) := takes_of rfl rfl rfl rfl
  have hx : Passes (L2.CX P w) (cxOf (L2.CX P w) P w F mg base ["value", "many"] "has_sort" (defScope s_has_sort) f cdv A outer s H E) E := passes_call tk fun _ _ _ _ h => h
  have hp : PassesOwn (model P w) (cxOf (L2.CX P w) P w F mg base ["value", "many"] "has_sort" (defScope s_has_sort) f cdv A outer s H E).A (cxOf (L2.CX P w) P w F mg base ["value", "many"] "has_sort" (defScope s_has_sort) f cdv A outer s H E).env (cxOf (L2.CX P w) P w F mg base ["value", "many"] "has_sort" (defScope s_has_sort) f cdv A outer s H E).xe := passes_of rfl
  have hc : (cxOf (L2.CX P w) P w F mg base ["value", "many"] "has_sort" (defScope s_has_sort) f cdv A outer s H E).calm = true := rfl
  have hKF : K.F = (cxOf (L2.CX P w) P w F mg base ["value", "many"] "has_sort" (defScope s_has_sort) f cdv A outer s H E).K := T.kf
  exact ⟨_, (pssd_cons (psd_if (PWD.pt (pwd_or (ptd_not (ptd_truth (pd_isi (T := "tuple") (pd_var (pv 0)) (by rfl) T.b_isinstance (by rfl) T.b_tuple bb_tuple))) (pwd_or (ptd_not (ptd_truth (pd_var (pv 0)))) (pwd_or (ptd_not (ptd_truth (pd_isi (T := "str") (pd_ix ixR_D opD_ix (pd_var (pv 0)) pd_int (fun _ _ => rfl)) (by rfl) T.b_isinstance (by rfl) T.b_str bb_str))) (pwd_or1 (ptd_notInKD (d_MANY_PARTS T).2 (by rfl) (d_MANY_PARTS T).1 (pd_ix ixR_D opD_ix (pd_var (pv 0)) pd_int (fun _ _ => rfl)))))))) (pssd_one (psd_ret pd_bl)) pssd_nil)
    (pssd_cons (psd_set (i := 1) nd rfl (by first | exact .inl rfl | exact .inr rfl) (pd_op op_addD opD_add (pd_ixKD (d_MANY_PARTS T).2 (by rfl) (d_MANY_PARTS T).1 (pd_ix ixR_D opD_ix (pd_var (pv 0)) pd_int (fun _ _ => rfl)) (fun _ _ => rfl)) pd_int))
    (pssd_cons (psd_if (ptd_cmp (op_eqX hu) opD_eq (pd_ix ixR_D opD_ix (pd_var (pv 0)) pd_int (fun _ _ => rfl)) pd_str (nomark _)) (pssd_one (psd_ret (pd_and (pd_cmp (op_eqX hu) opD_eq (pd_callB call_len_seq callD_len (by rfl) T.b_len bb_len (pad_cons (pd_var (pv 0)) pad_nil)) pd_int (nomark _)) (pd_one (pd_callD (d_is_integer_in T) (hr.mono (by decide)) (by rfl) hx (pad_cons (pd_ix ixR_D opD_ix (pd_var (pv 0)) pd_int (fun _ _ => rfl)) (pad_cons pd_int (pad_cons (pd_globI (by rfl) T.c_GREATEST_WHOLE.choose_spec) pad_nil)))))))) pssd_nil)
    (pssd_cons (psd_if (ptd_cmp (op_eqX hu) opD_eq (pd_ix ixR_D opD_ix (pd_var (pv 0)) pd_int (fun _ _ => rfl)) pd_str (nomark _)) (pssd_one (psd_ret (pd_and (pd_cmp (op_eqX hu) opD_eq (pd_callB call_len_seq callD_len (by rfl) T.b_len bb_len (pad_cons (pd_var (pv 0)) pad_nil)) pd_int (nomark _)) (pd_one (pd_callD (d_is_integer_in T) (hr.mono (by decide)) (by rfl) hx (pad_cons (pd_ix ixR_D opD_ix (pd_var (pv 0)) pd_int (fun _ _ => rfl)) (pad_cons pd_int (pad_cons (pd_globI (by rfl) T.c_GREATEST_EXPONENT.choose_spec) pad_nil)))))))) pssd_nil)
    (pssd_one (psd_ret (pd_cmp (op_eqX hu) opD_eq (pd_callB call_len_seq callD_len (by rfl) T.b_len bb_len (pad_cons (pd_var (pv 0)) pad_nil)) (pd_var (pv 1)) (nomark _))))))))⟩
theorem sc_parts_within : FnScope ["term"] ["term"] (defScope s_parts_within) := ⟨rfl, rfl, rfl, by decide +kernel, rfl, by decide +kernel, by decide +kernel⟩
def g_parts_within : GS := (gRet (gSlice (gVar 0) (gPart (gC (.int 1))) (gPart (gBin dAdd (gMap (dIxD tab_MANY_PARTS) (gBin dIx (gVar 0) (gC (.int 0)))) (gC (.int 1))))))
def G_parts_within : GF := gFn 1 g_parts_within
theorem d_parts_within (T : Txt P w F mg base K) : DefOk P w F mg base K "parts_within" 1 1 G_parts_within := by
  obtain ⟨f, fd, Fn, hm, hb⟩ := T.f_parts_within
  refine ⟨f, fd, ["term"], ok_def (N := ["term"]) (g := g_parts_within) Fn sc_parts_within ?body, hm, Fn.kp, hb⟩
  intro cdv A outer s H E hr
  have nd := sc_parts_within.nd
  have hu := hr.units
  have hu1 := Nat.lt_of_le_of_lt (Nat.add_le_add_left (by decide : 1 ≤ 64) _) hu
  have tk : Takes (cxOf (L2.CX P w) P w F mg base ["term"] "parts_within" (defScope s_parts_within) f cdv A outer s H E) (fun cls d _ H => E cls d H) := takes_of rfl rfl rfl rfl
  have hx : Passes (L2.CX P w) (cxOf (L2.CX P w) P w F mg base ["term"] "parts_within" (defScope s_parts_within) f cdv A outer s H E) E := passes_call tk fun _ _ _ _ h => h
  have hp : PassesOwn (model P w) (cxOf (L2.CX P w) P w F mg base ["term"] "parts_within" (defScope s_parts_within) f cdv A outer s H E).A (cxOf (L2.CX P w) P w F mg base ["term"] "parts_within" (defScope s_parts_within) f cdv A outer s H E).env (cxOf (L2.CX P w) P w F mg base ["term"] "parts_within" (defScope s_parts_within) f cdv A outer s H E).xe := passes_of rfl
  have hc : (cxOf (L2.CX P w) P w F mg base ["term"] "parts_within" (defScope s_parts_within) f cdv A outer s H E).calm = true := rfl
  have hKF : K.F = (cxOf (L2.CX P w) P w F mg base ["term"] "parts_within" (defScope s_parts_within) f cdv A outer s H E).K := T.kf
  exact ⟨_, (pssd_one (psd_ret (pd_slice (pd_var (pv 0)) (pod_some pd_int) (pod_some (pd_op op_addD opD_add (pd_ixKD (d_MANY_PARTS T).2 (by rfl) (d_MANY_PARTS T).1 (pd_ix ixR_D opD_ix (pd_var (pv 0)) pd_int (fun _ _ => rfl)) (fun _ _ => rfl)) pd_int)))))⟩
theorem sc_is_built_within : FnScope ["value", "height", "many", "waiting", "part", "left", "inner"] ["value", "height", "many"] (defScope s_is_built_within) := ⟨rfl, rfl, rfl, by decide +kernel, rfl, by decide +kernel, by decide +kernel⟩
def le_is_built_within_0 : GE := (gDisp .tuple (gaCons (gVar 6) (gaCons (gBin (fI0 fun i j => i - j) (gVar 5) (gC (.int 1))) gaNil)))
def wt_is_built_within_0 : GT := (gTruO 3)
def wb_is_built_within_0 : GS := (gSeq (gPopG 3 (ggTup 2 (ggCons (ggName 4) (ggCons (ggName 5) ggNil))))
    (gSeq (gAug 2 (fI0 fun i j => i - j) (gC (.int 1)))
    (gSeq (gIf (gOr (gBool (gBin (fB0 fun i j => decide (i < j)) (gVar 2) (gC (.int 0)))) (gOr (gBool (gBin dEq (gVar 5) (gC (.int 0)))) (gNot (gTru (gApp 1 G_has_sort (gaCons (gVar 4) gaNil)))))) (gRet (gC (.bool false))) gSkip)
    (gExt 3 (gL (gLc (giSeq (gApp 1 G_parts_within (gaCons (gVar 4) gaNil))) [6] (ggName 6) gYes le_is_built_within_0))))))
def g_is_built_within : GS := (gSeq (gSetO 3 (gfDisp (gaCons (gDisp .tuple (gaCons (gVar 0) (gaCons (gVar 1) gaNil))) gaNil)))
    (gSeq (gWhile (fun _ _ => 100000) wt_is_built_within_0 wb_is_built_within_0)
    (gRet (gC (.bool true)))))
def G_is_built_within : GF := gFn 7 g_is_built_within
theorem d_is_built_within (T : Txt P w F mg base K) : DefOk P w F mg base K "is_built_within" 4 3 G_is_built_within := by
  obtain ⟨f, fd, Fn, hm, hb⟩ := T.f_is_built_within
  refine ⟨f, fd, ["value", "height", "many"], ok_def (N := ["value", "height", "many", "waiting", "part", "left", "inner"]) (g := g_is_built_within) Fn sc_is_built_within ?body, hm, Fn.kp, hb⟩
  intro cdv A outer s H E hr
  have nd := sc_is_built_within.nd
  have hu := hr.units
  have hu1 := Nat.lt_of_le_of_lt (Nat.add_le_add_left (by decide : 1 ≤ 64) _) hu
  have tk : Takes (cxOf (L2.CX P w) P w F mg base ["value", "height", "many", "waiting", "part", "left", "inner"] "is_built_within" (defScope s_is_built_within) f cdv A outer s H E) (fun cls d _ H => E cls d H) := takes_of rfl rfl rfl rfl
  have hx : Passes (L2.CX P w) (cxOf (L2.CX P w) P w F mg base ["value", "height", "many", "waiting", "part", "left", "inner"] "is_built_within" (defScope s_is_built_within) f cdv A outer s H E) E := passes_call tk fun _ _ _ _ h => h
  have hp : PassesOwn (model P w) (cxOf (L2.CX P w) P w F mg base ["value", "height", "many", "waiting", "part", "left", "inner"] "is_built_within" (defScope s_is_built_within) f cdv A outer s H E).A (cxOf (L2.CX P w) P w F mg base ["value", "height", "many", "waiting", "part", "left", "inner"] "is_built_within" (defScope s_is_built_within) f cdv A outer s H E).env (cxOf (L2.CX P w) P w F mg base ["value", "height", "many", "waiting", "part", "left", "inner"] "is_built_within" (defScope s_is_built_within) f cdv A outer s H E).xe := passes_of rfl
  have hc : (cxOf (L2.CX P w) P w F mg base ["value", "height", "many", "waiting", "part", "left", "inner"] "is_built_within" (defScope s_is_built_within) f cdv A outer s H E).calm = true := rfl
  have hKF : K.F = (cxOf (L2.CX P w) P w F mg base ["value", "height", "many", "waiting", "part", "left", "inner"] "is_built_within" (defScope s_is_built_within) f cdv A outer s H E).K := T.kf
  exact ⟨_, (pssd_cons (psd_setO (i := 3) nd rfl (by first | exact .inl rfl | exact .inr rfl) (pf_lst (pad_cons (pd_tup (pad_cons (pd_var (pv 0)) (pad_cons (pd_var (pv 1)) pad_nil))) pad_nil)))
    (pssd_cons (psd_while (fun _ _ => 100000) hp (ptd_own (pv 3)) (pssd_cons (psd_popG (i := 3) (pe_bm0 PySem.F.plainAttrs_list PySem.F.slot_list_pop PySem.F.type_list_pop mt_pop (pv 3)) (pgd_tup rfl (pgsd_cons (pgd_name (i := 4) nd rfl (by first | exact .inl rfl | exact .inr rfl)) (pgsd_cons (pgd_name (i := 5) nd rfl (by first | exact .inl rfl | exact .inr rfl)) pgsd_nil))))
    (pssd_cons (psd_aug (i := 2) nd rfl (by first | exact .inl rfl | exact .inr rfl) ip_subD opD_I0 pd_int)
    (pssd_cons (psd_if (PWD.pt (pwd_or (ptd_cmp op_lt opD_lt (pd_var (pv 2)) pd_int (nomark _)) (pwd_or (ptd_cmp (op_eqX hu) opD_eq (pd_var (pv 5)) pd_int (nomark _)) (pwd_or1 (ptd_not (ptd_truth (pd_callD (d_has_sort T) (hr.mono (by decide)) (by rfl) hx (pad_cons (pd_var (pv 4)) pad_nil)))))))) (pssd_one (psd_ret pd_bl)) pssd_nil)
    (pssd_one (psd_extend (pv 3) (PFD.toD (pf_lc (own := [("inner", 6)]) (ws := [6]) hc nd (pid_seq (pd_callD (d_parts_within T) (hr.mono (by decide)) (by rfl) hx (pad_cons (pd_var (pv 4)) pad_nil))) (blkOk_by (N := ["value", "height", "many", "waiting", "part", "left", "inner"]) (sc := defScope s_is_built_within) (by decide +kernel)) (fun _ _ _ _ _ => ⟨_, by exact (pgd_name (i := 6) nd rfl (by first | exact .inl rfl | exact .inr rfl))⟩) (fun _ _ _ _ _ => ⟨_, by exact ptsd_nil⟩) (fun _ _ _ _ _ => ⟨_, by exact (pd_tup (pad_cons (pd_var (pv 6)) (pad_cons (pd_op op_sub opD_sub (pd_var (pv 5)) pd_int) pad_nil)))⟩))) (fun h => pe_bm PySem.F.plainAttrs_list PySem.F.slot_list_extend PySem.F.type_list_extend mt_extD (pv 3) h)))))))
    (pssd_one (psd_ret pd_bl))))⟩
theorem sc_is_plain_term : FnScope ["value"] ["value"] (defScope s_is_plain_term) := ⟨rfl, rfl, rfl, by decide +kernel, rfl, by decide +kernel, by decide +kernel⟩
def g_is_plain_term : GS := (gRet (gApp 3 G_is_built_within (gaCons (gVar 0) (gaCons (gC (.int 60)) (gaCons (gC (.int 20000)) gaNil)))))
def G_is_plain_term : GF := gFn 1 g_is_plain_term
theorem d_is_plain_term (T : Txt P w F mg base K) : DefOk P w F mg base K "is_plain_term" 5 1 G_is_plain_term := by
  obtain ⟨f, fd, Fn, hm, hb⟩ := T.f_is_plain_term
  refine ⟨f, fd, ["value"], ok_def (N := ["value"]) (g := g_is_plain_term) Fn sc_is_plain_term ?body, hm, Fn.kp, hb⟩
  intro cdv A outer s H E hr
  have nd := sc_is_plain_term.nd
  have hu := hr.units
  have hu1 := Nat.lt_of_le_of_lt (Nat.add_le_add_left (by decide : 1 ≤ 64) _) hu
  have tk : Takes (cxOf (L2.CX P w) P w F mg base ["value"] "is_plain_term" (defScope s_is_plain_term) f cdv A outer s H E) (fun cls d _ H => E cls d H) := takes_of rfl rfl rfl rfl
  have hx : Passes (L2.CX P w) (cxOf (L2.CX P w) P w F mg base ["value"] "is_plain_term" (defScope s_is_plain_term) f cdv A outer s H E) E := passes_call tk fun _ _ _ _ h => h
  have hp : PassesOwn (model P w) (cxOf (L2.CX P w) P w F mg base ["value"] "is_plain_term" (defScope s_is_plain_term) f cdv A outer s H E).A (cxOf (L2.CX P w) P w F mg base ["value"] "is_plain_term" (defScope s_is_plain_term) f cdv A outer s H E).env (cxOf (L2.CX P w) P w F mg base ["value"] "is_plain_term" (defScope s_is_plain_term) f cdv A outer s H E).xe := passes_of rfl
  have hc : (cxOf (L2.CX P w) P w F mg base ["value"] "is_plain_term" (defScope s_is_plain_term) f cdv A outer s H E).calm = true := rfl
  have hKF : K.F = (cxOf (L2.CX P w) P w F mg base ["value"] "is_plain_term" (defScope s_is_plain_term) f cdv A outer s H E).K := T.kf
  exact ⟨_, (pssd_one (psd_ret (pd_callD (d_is_built_within T) (hr.mono (by decide)) (by rfl) hx (pad_cons (pd_var (pv 0)) (pad_cons (pd_globI (by rfl) T.c_GREATEST_HEIGHT.choose_spec) (pad_cons (pd_globI (by rfl) T.c_MOST_TERMS.choose_spec) pad_nil))))))⟩
theorem sc_need_term : FnScope ["term"] ["term"] (defScope s_need_term) := ⟨rfl, rfl, rfl, by decide +kernel, rfl, by decide +kernel, by decide +kernel⟩
def g_need_term : GS := (gIf (gNot (gTru (gApp 1 G_is_plain_term (gaCons (gVar 0) gaNil)))) (gRaise 0) gSkip)
def G_need_term : GF := gFn 1 g_need_term
theorem d_need_term (T : Txt P w F mg base K) : DefOk P w F mg base K "need_term" 6 1 G_need_term := by
  obtain ⟨f, fd, Fn, hm, hb⟩ := T.f_need_term
  refine ⟨f, fd, ["term"], ok_def (N := ["term"]) (g := g_need_term) Fn sc_need_term ?body, hm, Fn.kp, hb⟩
  intro cdv A outer s H E hr
  have nd := sc_need_term.nd
  have hu := hr.units
  have hu1 := Nat.lt_of_le_of_lt (Nat.add_le_add_left (by decide : 1 ≤ 64) _) hu
  have tk : Takes (cxOf (L2.CX P w) P w F mg base ["term"] "need_term" (defScope s_need_term) f cdv A outer s H E) (fun cls d _ H => E cls d H) := takes_of rfl rfl rfl rfl
  have hx : Passes (L2.CX P w) (cxOf (L2.CX P w) P w F mg base ["term"] "need_term" (defScope s_need_term) f cdv A outer s H E) E := passes_call tk fun _ _ _ _ h => h
  have hp : PassesOwn (model P w) (cxOf (L2.CX P w) P w F mg base ["term"] "need_term" (defScope s_need_term) f cdv A outer s H E).A (cxOf (L2.CX P w) P w F mg base ["term"] "need_term" (defScope s_need_term) f cdv A outer s H E).env (cxOf (L2.CX P w) P w F mg base ["term"] "need_term" (defScope s_need_term) f cdv A outer s H E).xe := passes_of rfl
  have hc : (cxOf (L2.CX P w) P w F mg base ["term"] "need_term" (defScope s_need_term) f cdv A outer s H E).calm = true := rfl
  have hKF : K.F = (cxOf (L2.CX P w) P w F mg base ["term"] "need_term" (defScope s_need_term) f cdv A outer s H E).K := T.kf
  exact ⟨_, (pssd_one (psd_if (ptd_not (ptd_truth (pd_callD (d_is_plain_term T) (hr.mono (by decide)) (by rfl) hx (pad_cons (pd_var (pv 0)) pad_nil)))) (pssd_one (psd_raise (k := 0) hc tk (pmk_own PySem.F.excBase_ValueError T.x_InvalidTerm T.g_InvalidTerm T.k_InvalidTerm (raises_own T.s_InvalidTerm T.t_InvalidTerm) (by rfl)) (fun _ _ _ h => h) T.lm_InvalidTerm)) pssd_nil))⟩
theorem sc_height_within : FnScope ["term", "part"] ["term"] (defScope s_height_within) := ⟨rfl, rfl, rfl, by decide +kernel, rfl, by decide +kernel, by decide +kernel⟩
def le_height_within_0 (self : GF) : GE := (gApp 1 self (gaCons (gVar 1) gaNil))
def g_height_within (self : GF) : GS := (gRet (gBin dAdd (gC (.int 1)) (gMaxDef (gL (gLc (giSeq (gApp 1 G_parts_within (gaCons (gVar 0) gaNil))) [1] (ggName 1) gYes (le_height_within_0 self))) (gC (.int 0)))))
def G_height_within : Nat → GF
  | 0 => gfStk
  | n + 1 => gFn 2 (g_height_within (G_height_within n))
theorem d_height_within (T : Txt P w F mg base K) : ∀ fuel : Nat, DefOk P w F mg base K "height_within" (1 + fuel) 1 (G_height_within fuel)
  | 0 => by
    obtain ⟨f, fd, Fn, hm, hb⟩ := T.f_height_within
    exact defOk_stk (ps := ["term"]) Fn hm hb
  | fuel + 1 => by
    obtain ⟨f, fd, Fn, hm, hb⟩ := T.f_height_within
    refine ⟨f, fd, ["term"], ok_def (N := ["term", "part"]) (k := 1 + fuel) (g := g_height_within (G_height_within fuel)) Fn sc_height_within ?body, hm, Fn.kp, hb⟩
    intro cdv A outer s H E hr
    have nd := sc_height_within.nd
    have hu := hr.units
    have hu1 := Nat.lt_of_le_of_lt (Nat.add_le_add_left (by decide : 1 ≤ 64) _) hu
    have tk : Takes (cxOf (L2.CX P w) P w F mg base ["term", "part"] "height_within" (defScope s_height_within) f cdv A outer s H E) (fun cls d _ H => E cls d H) := takes_of rfl rfl rfl rfl
    have hx : Passes (L2.CX P w) (cxOf (L2.CX P w) P w F mg base ["term", "part"] "height_within" (defScope s_height_within) f cdv A outer s H E) E := passes_call tk fun _ _ _ _ h => h
    have hp : PassesOwn (model P w) (cxOf (L2.CX P w) P w F mg base ["term", "part"] "height_within" (defScope s_height_within) f cdv A outer s H E).A (cxOf (L2.CX P w) P w F mg base ["term", "part"] "height_within" (defScope s_height_within) f cdv A outer s H E).env (cxOf (L2.CX P w) P w F mg base ["term", "part"] "height_within" (defScope s_height_within) f cdv A outer s H E).xe := passes_of rfl
    have hc : (cxOf (L2.CX P w) P w F mg base ["term", "part"] "height_within" (defScope s_height_within) f cdv A outer s H E).calm = true := rfl
    have hKF : K.F = (cxOf (L2.CX P w) P w F mg base ["term", "part"] "height_within" (defScope s_height_within) f cdv A outer s H E).K := T.kf
    exact ⟨_, (pssd_one (psd_ret (pd_op op_addD opD_add pd_int (pd_maxDef hc hu (by rfl) T.b_max (PFD.toD (pf_lc (own := [("part", 1)]) (ws := [1]) hc nd (pid_seq (pd_callD (d_parts_within T) (hr.mono (by omega)) (by rfl) hx (pad_cons (pd_var (pv 0)) pad_nil))) (blkOk_by (N := ["term", "part"]) (sc := defScope s_height_within) (by decide +kernel)) (fun _ _ _ _ _ => ⟨_, by exact (pgd_name (i := 1) nd rfl (by first | exact .inl rfl | exact .inr rfl))⟩) (fun _ _ _ _ _ => ⟨_, by exact ptsd_nil⟩) (fun _ _ _ _ _ => ⟨_, by exact (pd_callD (d_height_within T fuel) (hr.mono (by omega)) (by rfl) passL (pad_cons (pd_var (pv 1)) pad_nil))⟩))) pd_int))))⟩
theorem sc_size_from_parts : FnScope ["term", "sizes", "sort", "above", "below", "over", "under"] ["term", "sizes"] (defScope s_size_from_parts) := ⟨rfl, rfl, rfl, by decide +kernel, rfl, by decide +kernel, by decide +kernel⟩
def ta_size_from_parts_0 : GS := (gSeq (gIf (gBool (gBin dEq (gVar 2) (gC (.str (PySem.Str.ofString "power"))))) (gRet (gDisp .tuple (gaCons (gBin dMul (gBin dIx (gVar 0) (gC (.int 2))) (gVar 3)) (gaCons (gBin dMul (gBin dIx (gVar 0) (gC (.int 2))) (gVar 4)) gaNil)))) gSkip)
    (gSeq (gIf (gBool (gBin dEq (gVar 2) (gC (.str (PySem.Str.ofString "negative"))))) (gRet (gBin dIx (gVar 1) (gC (.int 0)))) gSkip)
    (gSeq (gAsg (gBin dIx (gVar 1) (gC (.int 1))) (ggTup 2 (ggCons (ggName 5) (ggCons (ggName 6) ggNil))))
    (gSeq (gIf (gBool (gBin dEq (gVar 2) (gC (.str (PySem.Str.ofString "times"))))) (gRet (gDisp .tuple (gaCons (gBin dAdd (gVar 3) (gVar 5)) (gaCons (gBin dAdd (gVar 4) (gVar 6)) gaNil)))) gSkip)
    (gSeq (gIf (gBool (gBin dEq (gVar 2) (gC (.str (PySem.Str.ofString "over"))))) (gRet (gDisp .tuple (gaCons (gBin dAdd (gVar 3) (gVar 6)) (gaCons (gBin dAdd (gVar 4) (gVar 5)) gaNil)))) gSkip)
    (gRet (gDisp .tuple (gaCons (gCall dMax2 (gaCons (gBin dAdd (gVar 3) (gVar 6)) (gaCons (gBin dAdd (gVar 5) (gVar 4)) gaNil))) (gaCons (gBin dAdd (gVar 4) (gVar 6)) gaNil)))))))))
def g_size_from_parts : GS := (gSeq (gSet 2 (gBin dIx (gVar 0) (gC (.int 0))))
    (gSeq (gIf (gBool (gBin dEq (gVar 2) (gC (.str (PySem.Str.ofString "whole"))))) (gRet (gDisp .tuple (gaCons (gC (.int 0)) (gaCons (gC (.int 0)) gaNil)))) gSkip)
    (gSeq (gIf (gBool (gBin dInF (gVar 2) (gDisp .tuple (gaCons (gC (.str (PySem.Str.ofString "x"))) (gaCons (gC (.str (PySem.Str.ofString "log"))) (gaCons (gC (.str (PySem.Str.ofString "exp"))) gaNil)))))) (gRet (gDisp .tuple (gaCons (gC (.int 1)) (gaCons (gC (.int 0)) gaNil)))) gSkip)
    (gSeq (gAsg (gBin dIx (gVar 1) (gC (.int 0))) (ggTup 2 (ggCons (ggName 3) (ggCons (ggName 4) ggNil))))
    ta_size_from_parts_0))))
def G_size_from_parts : GF := gFn 7 g_size_from_parts
theorem d_size_from_parts (T : Txt P w F mg base K) : DefOk P w F mg base K "size_from_parts" 1 2 G_size_from_parts := by
  obtain ⟨f, fd, Fn, hm, hb⟩ := T.f_size_from_parts
  refine ⟨f, fd, ["term", "sizes"], ok_def (N := ["term", "sizes", "sort", "above", "below", "over", "under"]) (g := g_size_from_parts) Fn sc_size_from_parts ?body, hm, Fn.kp, hb⟩
  intro cdv A outer s H E hr
  have nd := sc_size_from_parts.nd
  have hu := hr.units
  have hu1 := Nat.lt_of_le_of_lt (Nat.add_le_add_left (by decide : 1 ≤ 64) _) hu
  have tk : Takes (cxOf (L2.CX P w) P w F mg base ["term", "sizes", "sort", "above", "below", "over", "under"] "size_from_parts" (defScope s_size_from_parts) f cdv A outer s H E) (fun cls d _ H => E cls d H) := takes_of rfl rfl rfl rfl
  have hx : Passes (L2.CX P w) (cxOf (L2.CX P w) P w F mg base ["term", "sizes", "sort", "above", "below", "over", "under"] "size_from_parts" (defScope s_size_from_parts) f cdv A outer s H E) E := passes_call tk fun _ _ _ _ h => h
  have hp : PassesOwn (model P w) (cxOf (L2.CX P w) P w F mg base ["term", "sizes", "sort", "above", "below", "over", "under"] "size_from_parts" (defScope s_size_from_parts) f cdv A outer s H E).A (cxOf (L2.CX P w) P w F mg base ["term", "sizes", "sort", "above", "below", "over", "under"] "size_from_parts" (defScope s_size_from_parts) f cdv A outer s H E).env (cxOf (L2.CX P w) P w F mg base ["term", "sizes", "sort", "above", "below", "over", "under"] "size_from_parts" (defScope s_size_from_parts) f cdv A outer s H E).xe := passes_of rfl
  have hc : (cxOf (L2.CX P w) P w F mg base ["term", "sizes", "sort", "above", "below", "over", "under"] "size_from_parts" (defScope s_size_from_parts) f cdv A outer s H E).calm = true := rfl
  have hKF : K.F = (cxOf (L2.CX P w) P w F mg base ["term", "sizes", "sort", "above", "below", "over", "under"] "size_from_parts" (defScope s_size_from_parts) f cdv A outer s H E).K := T.kf
  exact ⟨_, (pssd_cons (psd_set (i := 2) nd rfl (by first | exact .inl rfl | exact .inr rfl) (pd_ix ixR_D opD_ix (pd_var (pv 0)) pd_int (fun _ _ => rfl)))
    (pssd_cons (psd_if (ptd_cmp (op_eqX hu) opD_eq (pd_var (pv 2)) pd_str (nomark _)) (pssd_one (psd_ret (pd_tup (pad_cons pd_int (pad_cons pd_int pad_nil))))) pssd_nil)
    (pssd_cons (psd_if (ptd_cmp op_in_seq opD_inF (pd_var (pv 2)) (pd_tup (pad_cons pd_str (pad_cons pd_str (pad_cons pd_str pad_nil)))) (by rfl)) (pssd_one (psd_ret (pd_tup (pad_cons pd_int (pad_cons pd_int pad_nil))))) pssd_nil)
    (pssd_cons (psd_asg (pd_ix ixR_D opD_ix (pd_var (pv 1)) pd_int (fun _ _ => rfl)) (pgd_tup rfl (pgsd_cons (pgd_name (i := 3) nd rfl (by first | exact .inl rfl | exact .inr rfl)) (pgsd_cons (pgd_name (i := 4) nd rfl (by first | exact .inl rfl | exact .inr rfl)) pgsd_nil))))
    (pssd_cons (psd_if (ptd_cmp (op_eqX hu) opD_eq (pd_var (pv 2)) pd_str (nomark _)) (pssd_one (psd_ret (pd_tup (pad_cons (pd_op op_mulD opD_mul (pd_ix ixR_D opD_ix (pd_var (pv 0)) pd_int (fun _ _ => rfl)) (pd_var (pv 3))) (pad_cons (pd_op op_mulD opD_mul (pd_ix ixR_D opD_ix (pd_var (pv 0)) pd_int (fun _ _ => rfl)) (pd_var (pv 4))) pad_nil))))) pssd_nil)
    (pssd_cons (psd_if (ptd_cmp (op_eqX hu) opD_eq (pd_var (pv 2)) pd_str (nomark _)) (pssd_one (psd_ret (pd_ix ixR_D opD_ix (pd_var (pv 1)) pd_int (fun _ _ => rfl)))) pssd_nil)
    (pssd_cons (psd_asg (pd_ix ixR_D opD_ix (pd_var (pv 1)) pd_int (fun _ _ => rfl)) (pgd_tup rfl (pgsd_cons (pgd_name (i := 5) nd rfl (by first | exact .inl rfl | exact .inr rfl)) (pgsd_cons (pgd_name (i := 6) nd rfl (by first | exact .inl rfl | exact .inr rfl)) pgsd_nil))))
    (pssd_cons (psd_if (ptd_cmp (op_eqX hu) opD_eq (pd_var (pv 2)) pd_str (nomark _)) (pssd_one (psd_ret (pd_tup (pad_cons (pd_op op_addD opD_add (pd_var (pv 3)) (pd_var (pv 5))) (pad_cons (pd_op op_addD opD_add (pd_var (pv 4)) (pd_var (pv 6))) pad_nil))))) pssd_nil)
    (pssd_cons (psd_if (ptd_cmp (op_eqX hu) opD_eq (pd_var (pv 2)) pd_str (nomark _)) (pssd_one (psd_ret (pd_tup (pad_cons (pd_op op_addD opD_add (pd_var (pv 3)) (pd_var (pv 6))) (pad_cons (pd_op op_addD opD_add (pd_var (pv 4)) (pd_var (pv 5))) pad_nil))))) pssd_nil)
    (pssd_one (psd_ret (pd_tup (pad_cons (pd_callB (call_max2 rfl) callD_max2 (by rfl) T.b_max bb_max (pad_cons (pd_op op_addD opD_add (pd_var (pv 3)) (pd_var (pv 6))) (pad_cons (pd_op op_addD opD_add (pd_var (pv 5)) (pd_var (pv 4))) pad_nil))) (pad_cons (pd_op op_addD opD_add (pd_var (pv 4)) (pd_var (pv 6))) pad_nil))))))))))))))⟩
theorem sc_size_within : FnScope ["term", "part"] ["term"] (defScope s_size_within) := ⟨rfl, rfl, rfl, by decide +kernel, rfl, by decide +kernel, by decide +kernel⟩
def le_size_within_0 (self : GF) : GE := (gApp 1 self (gaCons (gVar 1) gaNil))
def g_size_within (self : GF) : GS := (gRet (gApp 2 G_size_from_parts (gaCons (gVar 0) (gaCons (gL (gLc (giSeq (gApp 1 G_parts_within (gaCons (gVar 0) gaNil))) [1] (ggName 1) gYes (le_size_within_0 self))) gaNil))))
def G_size_within : Nat → GF
  | 0 => gfStk
  | n + 1 => gFn 2 (g_size_within (G_size_within n))
theorem d_size_within (T : Txt P w F mg base K) : ∀ fuel : Nat, DefOk P w F mg base K "size_within" (1 + fuel) 1 (G_size_within fuel)
  | 0 => by
    obtain ⟨f, fd, Fn, hm, hb⟩ := T.f_size_within
    exact defOk_stk (ps := ["term"]) Fn hm hb
  | fuel + 1 => by
    obtain ⟨f, fd, Fn, hm, hb⟩ := T.f_size_within
    refine ⟨f, fd, ["term"], ok_def (N := ["term", "part"]) (k := 1 + fuel) (g := g_size_within (G_size_within fuel)) Fn sc_size_within ?body, hm, Fn.kp, hb⟩
    intro cdv A outer s H E hr
    have nd := sc_size_within.nd
    have hu := hr.units
    have hu1 := Nat.lt_of_le_of_lt (Nat.add_le_add_left (by decide : 1 ≤ 64) _) hu
    have tk : Takes (cxOf (L2.CX P w) P w F mg base ["term", "part"] "size_within" (defScope s_size_within) f cdv A outer s H E) (fun cls d _ H => E cls d H) := takes_of rfl rfl rfl rfl
    have hx : Passes (L2.CX P w) (cxOf (L2.CX P w) P w F mg base ["term", "part"] "size_within" (defScope s_size_within) f cdv A outer s H E) E := passes_call tk fun _ _ _ _ h => h
    have hp : PassesOwn (model P w) (cxOf (L2.CX P w) P w F mg base ["term", "part"] "size_within" (defScope s_size_within) f cdv A outer s H E).A (cxOf (L2.CX P w) P w F mg base ["term", "part"] "size_within" (defScope s_size_within) f cdv A outer s H E).env (cxOf (L2.CX P w) P w F mg base ["term", "part"] "size_within" (defScope s_size_within) f cdv A outer s H E).xe := passes_of rfl
    have hc : (cxOf (L2.CX P w) P w F mg base ["term", "part"] "size_within" (defScope s_size_within) f cdv A outer s H E).calm = true := rfl
    have hKF : K.F = (cxOf (L2.CX P w) P w F mg base ["term", "part"] "size_within" (defScope s_size_within) f cdv A outer s H E).K := T.kf
    exact ⟨_, (pssd_one (psd_ret (pd_callD (d_size_from_parts T) (hr.mono (by omega)) (by rfl) hx (pad_cons (pd_var (pv 0)) (pad_cons (PFD.toD (pf_lc (own := [("part", 1)]) (ws := [1]) hc nd (pid_seq (pd_callD (d_parts_within T) (hr.mono (by omega)) (by rfl) hx (pad_cons (pd_var (pv 0)) pad_nil))) (blkOk_by (N := ["term", "part"]) (sc := defScope s_size_within) (by decide +kernel)) (fun _ _ _ _ _ => ⟨_, by exact (pgd_name (i := 1) nd rfl (by first | exact .inl rfl | exact .inr rfl))⟩) (fun _ _ _ _ _ => ⟨_, by exact ptsd_nil⟩) (fun _ _ _ _ _ => ⟨_, by exact (pd_callD (d_size_within T fuel) (hr.mono (by omega)) (by rfl) passL (pad_cons (pd_var (pv 1)) pad_nil))⟩))) pad_nil)))))⟩
theorem sc_is_term : FnScope ["value"] ["value"] (defScope s_is_term) := ⟨rfl, rfl, rfl, by decide +kernel, rfl, by decide +kernel, by decide +kernel⟩
def g_is_term : GS := (gRet (gApp 1 G_is_plain_term (gaCons (gVar 0) gaNil)))
def G_is_term : GF := gFn 1 g_is_term
theorem d_is_term (T : Txt P w F mg base K) : DefOk P w F mg base K "is_term" 6 1 G_is_term := by
  obtain ⟨f, fd, Fn, hm, hb⟩ := T.f_is_term
  refine ⟨f, fd, ["value"], ok_def (N := ["value"]) (g := g_is_term) Fn sc_is_term ?body, hm, Fn.kp, hb⟩
  intro cdv A outer s H E hr
  have nd := sc_is_term.nd
  have hu := hr.units
  have hu1 := Nat.lt_of_le_of_lt (Nat.add_le_add_left (by decide : 1 ≤ 64) _) hu
  have tk : Takes (cxOf (L2.CX P w) P w F mg base ["value"] "is_term" (defScope s_is_term) f cdv A outer s H E) (fun cls d _ H => E cls d H) := takes_of rfl rfl rfl rfl
  have hx : Passes (L2.CX P w) (cxOf (L2.CX P w) P w F mg base ["value"] "is_term" (defScope s_is_term) f cdv A outer s H E) E := passes_call tk fun _ _ _ _ h => h
  have hp : PassesOwn (model P w) (cxOf (L2.CX P w) P w F mg base ["value"] "is_term" (defScope s_is_term) f cdv A outer s H E).A (cxOf (L2.CX P w) P w F mg base ["value"] "is_term" (defScope s_is_term) f cdv A outer s H E).env (cxOf (L2.CX P w) P w F mg base ["value"] "is_term" (defScope s_is_term) f cdv A outer s H E).xe := passes_of rfl
  have hc : (cxOf (L2.CX P w) P w F mg base ["value"] "is_term" (defScope s_is_term) f cdv A outer s H E).calm = true := rfl
  have hKF : K.F = (cxOf (L2.CX P w) P w F mg base ["value"] "is_term" (defScope s_is_term) f cdv A outer s H E).K := T.kf
  exact ⟨_, (pssd_one (psd_ret (pd_callD (d_is_plain_term T) (hr.mono (by decide)) (by rfl) hx (pad_cons (pd_var (pv 0)) pad_nil))))⟩
theorem sc_parts_of : FnScope ["term"] ["term"] (defScope s_parts_of) := ⟨rfl, rfl, rfl, by decide +kernel, rfl, by decide +kernel, by decide +kernel⟩
def g_parts_of : GS := (gSeq (gDrop (gApp 1 G_need_term (gaCons (gVar 0) gaNil)))
    (gRet (gApp 1 G_parts_within (gaCons (gVar 0) gaNil))))
def G_parts_of : GF := gFn 1 g_parts_of
theorem d_parts_of (T : Txt P w F mg base K) : DefOk P w F mg base K "parts_of" 7 1 G_parts_of := by
  obtain ⟨f, fd, Fn, hm, hb⟩ := T.f_parts_of
  refine ⟨f, fd, ["term"], ok_def (N := ["term"]) (g := g_parts_of) Fn sc_parts_of ?body, hm, Fn.kp, hb⟩
  intro cdv A outer s H E hr
  have nd := sc_parts_of.nd
  have hu := hr.units
  have hu1 := Nat.lt_of_le_of_lt (Nat.add_le_add_left (by decide : 1 ≤ 64) _) hu
  have tk : Takes (cxOf (L2.CX P w) P w F mg base ["term"] "parts_of" (defScope s_parts_of) f cdv A outer s H E) (fun cls d _ H => E cls d H) := takes_of rfl rfl rfl rfl
  have hx : Passes (L2.CX P w) (cxOf (L2.CX P w) P w F mg base ["term"] "parts_of" (defScope s_parts_of) f cdv A outer s H E) E := passes_call tk fun _ _ _ _ h => h
  have hp : PassesOwn (model P w) (cxOf (L2.CX P w) P w F mg base ["term"] "parts_of" (defScope s_parts_of) f cdv A outer s H E).A (cxOf (L2.CX P w) P w F mg base ["term"] "parts_of" (defScope s_parts_of) f cdv A outer s H E).env (cxOf (L2.CX P w) P w F mg base ["term"] "parts_of" (defScope s_parts_of) f cdv A outer s H E).xe := passes_of rfl
  have hc : (cxOf (L2.CX P w) P w F mg base ["term"] "parts_of" (defScope s_parts_of) f cdv A outer s H E).calm = true := rfl
  have hKF : K.F = (cxOf (L2.CX P w) P w F mg base ["term"] "parts_of" (defScope s_parts_of) f cdv A outer s H E).K := T.kf
  exact ⟨_, (pssd_cons (psd_expr (pd_callD (d_need_term T) (hr.mono (by decide)) (by rfl) hx (pad_cons (pd_var (pv 0)) pad_nil)))
    (pssd_one (psd_ret (pd_callD (d_parts_within T) (hr.mono (by decide)) (by rfl) hx (pad_cons (pd_var (pv 0)) pad_nil)))))⟩
theorem sc_height_of : FnScope ["term"] ["term"] (defScope s_height_of) := ⟨rfl, rfl, rfl, by decide +kernel, rfl, by decide +kernel, by decide +kernel⟩
def g_height_of : GS := (gSeq (gDrop (gApp 1 G_need_term (gaCons (gVar 0) gaNil)))
    (gRet (gApp 1 (G_height_within 62) (gaCons (gVar 0) gaNil))))
def G_height_of : GF := gFn 1 g_height_of
theorem d_height_of (T : Txt P w F mg base K) : DefOk P w F mg base K "height_of" 64 1 G_height_of := by
  obtain ⟨f, fd, Fn, hm, hb⟩ := T.f_height_of
  refine ⟨f, fd, ["term"], ok_def (N := ["term"]) (g := g_height_of) Fn sc_height_of ?body, hm, Fn.kp, hb⟩
  intro cdv A outer s H E hr
  have nd := sc_height_of.nd
  have hu := hr.units
  have hu1 := Nat.lt_of_le_of_lt (Nat.add_le_add_left (by decide : 1 ≤ 64) _) hu
  have tk : Takes (cxOf (L2.CX P w) P w F mg base ["term"] "height_of" (defScope s_height_of) f cdv A outer s H E) (fun cls d _ H => E cls d H) := takes_of rfl rfl rfl rfl
  have hx : Passes (L2.CX P w) (cxOf (L2.CX P w) P w F mg base ["term"] "height_of" (defScope s_height_of) f cdv A outer s H E) E := passes_call tk fun _ _ _ _ h => h
  have hp : PassesOwn (model P w) (cxOf (L2.CX P w) P w F mg base ["term"] "height_of" (defScope s_height_of) f cdv A outer s H E).A (cxOf (L2.CX P w) P w F mg base ["term"] "height_of" (defScope s_height_of) f cdv A outer s H E).env (cxOf (L2.CX P w) P w F mg base ["term"] "height_of" (defScope s_height_of) f cdv A outer s H E).xe := passes_of rfl
  have hc : (cxOf (L2.CX P w) P w F mg base ["term"] "height_of" (defScope s_height_of) f cdv A outer s H E).calm = true := rfl
  have hKF : K.F = (cxOf (L2.CX P w) P w F mg base ["term"] "height_of" (defScope s_height_of) f cdv A outer s H E).K := T.kf
  exact ⟨_, (pssd_cons (psd_expr (pd_callD (d_need_term T) (hr.mono (by decide)) (by rfl) hx (pad_cons (pd_var (pv 0)) pad_nil)))
    (pssd_one (psd_ret (pd_callD (d_height_within T 62) (hr.mono (by decide)) (by rfl) hx (pad_cons (pd_var (pv 0)) pad_nil)))))⟩
theorem sc_size_of : FnScope ["term"] ["term"] (defScope s_size_of) := ⟨rfl, rfl, rfl, by decide +kernel, rfl, by decide +kernel, by decide +kernel⟩
def g_size_of : GS := (gSeq (gDrop (gApp 1 G_need_term (gaCons (gVar 0) gaNil)))
    (gRet (gApp 1 (G_size_within 62) (gaCons (gVar 0) gaNil))))
def G_size_of : GF := gFn 1 g_size_of
theorem d_size_of (T : Txt P w F mg base K) : DefOk P w F mg base K "size_of" 64 1 G_size_of := by
  obtain ⟨f, fd, Fn, hm, hb⟩ := T.f_size_of
  refine ⟨f, fd, ["term"], ok_def (N := ["term"]) (g := g_size_of) Fn sc_size_of ?body, hm, Fn.kp, hb⟩
  intro cdv A outer s H E hr
  have nd := sc_size_of.nd
  have hu := hr.units
  have hu1 := Nat.lt_of_le_of_lt (Nat.add_le_add_left (by decide : 1 ≤ 64) _) hu
  have tk : Takes (cxOf (L2.CX P w) P w F mg base ["term"] "size_of" (defScope s_size_of) f cdv A outer s H E) (fun cls d _ H => E cls d H) := takes_of rfl rfl rfl rfl
  have hx : Passes (L2.CX P w) (cxOf (L2.CX P w) P w F mg base ["term"] "size_of" (defScope s_size_of) f cdv A outer s H E) E := passes_call tk fun _ _ _ _ h => h
  have hp : PassesOwn (model P w) (cxOf (L2.CX P w) P w F mg base ["term"] "size_of" (defScope s_size_of) f cdv A outer s H E).A (cxOf (L2.CX P w) P w F mg base ["term"] "size_of" (defScope s_size_of) f cdv A outer s H E).env (cxOf (L2.CX P w) P w F mg base ["term"] "size_of" (defScope s_size_of) f cdv A outer s H E).xe := passes_of rfl
  have hc : (cxOf (L2.CX P w) P w F mg base ["term"] "size_of" (defScope s_size_of) f cdv A outer s H E).calm = true := rfl
  have hKF : K.F = (cxOf (L2.CX P w) P w F mg base ["term"] "size_of" (defScope s_size_of) f cdv A outer s H E).K := T.kf
  exact ⟨_, (pssd_cons (psd_expr (pd_callD (d_need_term T) (hr.mono (by decide)) (by rfl) hx (pad_cons (pd_var (pv 0)) pad_nil)))
    (pssd_one (psd_ret (pd_callD (d_size_within T 62) (hr.mono (by decide)) (by rfl) hx (pad_cons (pd_var (pv 0)) pad_nil)))))⟩
theorem sc_part_at : FnScope ["term", "path", "index", "parts"] ["term", "path"] (defScope s_part_at) := ⟨rfl, rfl, rfl, by decide +kernel, rfl, by decide +kernel, by decide +kernel⟩
def fb_part_at_0 : GS := (gSeq (gSet 3 (gApp 1 G_parts_within (gaCons (gVar 0) gaNil)))
    (gSeq (gIf (gNot (gTru (gApp 3 G_is_integer_in (gaCons (gVar 2) (gaCons (gC (.int 0)) (gaCons (gBin (fI0 fun i j => i - j) (gCall dLen (gaCons (gVar 3) gaNil)) (gC (.int 1))) gaNil)))))) (gRaise 1) gSkip)
    (gSet 0 (gBin dIx (gVar 3) (gVar 2)))))
def g_part_at : GS := (gSeq (gDrop (gApp 1 G_need_term (gaCons (gVar 0) gaNil)))
    (gSeq (gIf (gNot (gTru (gIsi "tuple" (gVar 1)))) (gRaise 1) gSkip)
    (gSeq (gFor (giSeq (gVar 1)) (ggName 2) fb_part_at_0)
    (gRet (gVar 0)))))
def G_part_at : GF := gFn 4 g_part_at
theorem d_part_at (T : Txt P w F mg base K) : DefOk P w F mg base K "part_at" 7 2 G_part_at := by
  obtain ⟨f, fd, Fn, hm, hb⟩ := T.f_part_at
  refine ⟨f, fd, ["term", "path"], ok_def (N := ["term", "path", "index", "parts"]) (g := g_part_at) Fn sc_part_at ?body, hm, Fn.kp, hb⟩
  intro cdv A outer s H E hr
  have nd := sc_part_at.nd
  have hu := hr.units
  have hu1 := Nat.lt_of_le_of_lt (Nat.add_le_add_left (by decide : 1 ≤ 64) _) hu
  have tk : Takes (cxOf (L2.CX P w) P w F mg base ["term", "path", "index", "parts"] "part_at" (defScope s_part_at) f cdv A outer s H E) (fun cls d _ H => E cls d H) := takes_of rfl rfl rfl rfl
  have hx : Passes (L2.CX P w) (cxOf (L2.CX P w) P w F mg base ["term", "path", "index", "parts"] "part_at" (defScope s_part_at) f cdv A outer s H E) E := passes_call tk fun _ _ _ _ h => h
  have hp : PassesOwn (model P w) (cxOf (L2.CX P w) P w F mg base ["term", "path", "index", "parts"] "part_at" (defScope s_part_at) f cdv A outer s H E).A (cxOf (L2.CX P w) P w F mg base ["term", "path", "index", "parts"] "part_at" (defScope s_part_at) f cdv A outer s H E).env (cxOf (L2.CX P w) P w F mg base ["term", "path", "index", "parts"] "part_at" (defScope s_part_at) f cdv A outer s H E).xe := passes_of rfl
  have hc : (cxOf (L2.CX P w) P w F mg base ["term", "path", "index", "parts"] "part_at" (defScope s_part_at) f cdv A outer s H E).calm = true := rfl
  have hKF : K.F = (cxOf (L2.CX P w) P w F mg base ["term", "path", "index", "parts"] "part_at" (defScope s_part_at) f cdv A outer s H E).K := T.kf
  exact ⟨_, (pssd_cons (psd_expr (pd_callD (d_need_term T) (hr.mono (by decide)) (by rfl) hx (pad_cons (pd_var (pv 0)) pad_nil)))
    (pssd_cons (psd_if (ptd_not (ptd_truth (pd_isi (T := "tuple") (pd_var (pv 1)) (by rfl) T.b_isinstance (by rfl) T.b_tuple bb_tuple))) (pssd_one (psd_raise (k := 1) hc tk (pmk_own PySem.F.excBase_ValueError T.x_InvalidPath T.g_InvalidPath T.k_InvalidPath (raises_own T.s_InvalidPath T.t_InvalidPath) (by rfl)) (fun _ _ _ h => h) T.lm_InvalidPath)) pssd_nil)
    (pssd_cons (psd_for hp hc (pid_seq (pd_var (pv 1))) (pgd_name (i := 2) nd rfl (by first | exact .inl rfl | exact .inr rfl)) (pssd_cons (psd_set (i := 3) nd rfl (by first | exact .inl rfl | exact .inr rfl) (pd_callD (d_parts_within T) (hr.mono (by decide)) (by rfl) hx (pad_cons (pd_var (pv 0)) pad_nil)))
    (pssd_cons (psd_if (ptd_not (ptd_truth (pd_callD (d_is_integer_in T) (hr.mono (by decide)) (by rfl) hx (pad_cons (pd_var (pv 2)) (pad_cons pd_int (pad_cons (pd_op op_sub opD_sub (pd_callB call_len_seq callD_len (by rfl) T.b_len bb_len (pad_cons (pd_var (pv 3)) pad_nil)) pd_int) pad_nil)))))) (pssd_one (psd_raise (k := 1) hc tk (pmk_own PySem.F.excBase_ValueError T.x_InvalidPath T.g_InvalidPath T.k_InvalidPath (raises_own T.s_InvalidPath T.t_InvalidPath) (by rfl)) (fun _ _ _ h => h) T.lm_InvalidPath)) pssd_nil)
    (pssd_one (psd_set (i := 0) nd rfl (by first | exact .inl rfl | exact .inr rfl) (pd_ix ixR_D opD_ix (pd_var (pv 3)) (pd_var (pv 2)) (fun _ _ => rfl)))))))
    (pssd_one (psd_ret (pd_var (pv 0)))))))⟩
theorem sc__law_cup : FnScope ["_law_script", "_law_cell"] ["_law_script"] (defScope s__law_cup) := ⟨rfl, rfl, rfl, by decide +kernel, rfl, by decide +kernel, by decide +kernel⟩
def ga__law_cup : GA := (gaCons (gIfE (gBool (gBin (fB0 fun i j => decide (j ≤ i)) (gVar 1) (gBin (fI powOk fun i j => i ^ j.toNat) (gC (.int 10)) (gC (.int 18))))) (gBin (fI divOk fun i j => i.fdiv j) (gVar 1) (gC (.int 67))) (gC (.int 0))) (gaCons (gBin dAdd (gBin (fI modOk fun i j => i.fmod j) (gCall dToInt (gaCons (gBin dAdd (gBin dMul (gVar 1) (gC (.int 277))) (gC (.int 2609))) gaNil)) (gC (.int 2077503167))) (gC (.int 163))) gaNil))
theorem cell_rs (ns : List Int) (hl : ns.length ≤ 63) (ρ : En) (cu : Cu) : ((((Rs.ok (PyData.list (ns.map .int)) cu).bind fun a cu1 => ((gDisp .list (gaCons (gC (.int 0)) gaNil)) ρ cu1).bind fun b cu2 => Rs.ofO (dAdd a b) cu2).bind fun a cu1 => ((gC (.int 0)) ρ cu1).bind fun b cu2 => Rs.ofO (dIx a b) cu2).bind fun a cu1 => Rs.ofO (dAbs [a]) cu1) = .ok (.int (cell0 ns)) cu := by
  cases ns with
  | nil => rfl
  | cons i r =>
    have h : (PyData.int i :: r.map .int).length + [PyData.int 0].length ≤ 16777216 := by simp only [List.length_cons, List.length_map, List.length_nil] at hl ⊢; omega
    have e : dAdd (PyData.list ((i :: r).map .int)) (PyData.list [PyData.int 0]) = some (.list (PyData.int i :: (r.map .int ++ [.int 0]))) := by
      show (if _ then some _ else none) = _
      rw [if_pos (by exact h)]
      rfl
    show (((Rs.ofO (dAdd (PyData.list ((i :: r).map .int)) (PyData.list [PyData.int 0])) cu).bind fun a cu1 => Rs.ofO (dIx a (.int 0)) cu1).bind fun a cu1 => Rs.ofO (dAbs [a]) cu1) = _
    rw [e, Rs.ofO_some, Rs.bind_ok, dIx_lst, atI0, Rs.ofO_some, Rs.bind_ok]
    rfl
theorem cup_rs (cell : Int) (cu : Cu) : (gfDisp ga__law_cup) [.un, .dat (.int cell)] cu = .ok [.int (cup0 cell).1, .int (cup0 cell).2] cu := by
  unfold cup0
  have h1 : mulOk cell 277 = true := mulOk_r (by decide)
  have h2 : divOk cell 67 = true := divOk_b (p := 64) (by decide) (by decide) (by decide) (by decide)
  have h3 : powOk 10 18 = true := by decide
  have h4 : modOk (cell * 277 + 2609) 2077503167 = true := modOk_b (by decide)
  by_cases h : cell ≥ 10 ^ 18
  · have e : decide ((10 : Int) ^ (18 : Int).toNat ≤ cell) = true := decide_eq_true h
    simp only [gfDisp, ga__law_cup, gaCons, gaNil, gIfE, gBool, gBin, gCall, gC_eq, gVar_un, List.getElem?_cons_zero, List.getElem?_cons_succ, Rs.bind_ok, Rs.ofO_some, dMul_int, dAdd_int, fI_int, fB0_int, dBool_bl, dats_nil, dats_cons, Option.map_some, Option.bind_some, dToInt_int, h1, h2, h3, h4, e, if_true, List.length_cons, List.length_nil]
    rw [if_pos h]
    rfl
  · have e : decide ((10 : Int) ^ (18 : Int).toNat ≤ cell) = false := decide_eq_false h
    simp only [gfDisp, ga__law_cup, gaCons, gaNil, gIfE, gBool, gBin, gCall, gC_eq, gVar_un, List.getElem?_cons_zero, List.getElem?_cons_succ, Rs.bind_ok, Rs.ofO_some, dMul_int, dAdd_int, fI_int, fB0_int, dBool_bl, dats_nil, dats_cons, Option.map_some, Option.bind_some, dToInt_int, h1, h2, h3, h4, e, Bool.false_eq_true, if_false, List.length_cons, List.length_nil]
    rw [if_neg h]
    rfl
theorem ok__law_cup (T : Txt P w F mg base K) : ∃ (f : Addr) (fd : FuncData), FnOk P w F mg base (L2.CX P w) 1 f fd ["_law_script"] (spCup K F) ∧ mg "_law_cup" = some (.ref f) ∧ PySem.W.keepIn F (.ref f) = true ∧ Binds F fd ["_law_script"] [] := by
  obtain ⟨f, fd, Fn, hm, hb⟩ := T.f__law_cup
  refine ⟨f, fd, Fn.okX sc__law_cup (k := 0) (fun vs H Q E h => ?len) (fun cdv A outer s H vs Q E hr h => ?body), hm, Fn.kp, hb⟩
  · obtain ⟨a, ns, rfl, _⟩ := h
    rfl
  obtain ⟨a, ns, rfl, hS, hl, hT, hQ⟩ := h
  have nd := sc__law_cup.nd
  have hu := hr.units
  have hu1 := Nat.lt_of_le_of_lt (Nat.add_le_add_left (by decide : 1 ≤ 64) _) hu
  have tk : Takes (cxOf (L2.CX P w) P w F mg base ["_law_script", "_law_cell"] "_law_cup" (defScope s__law_cup) f cdv A outer s H E) (fun cls d _ H => E cls d H) := takes_of rfl rfl rfl rfl
  have hx : Passes (L2.CX P w) (cxOf (L2.CX P w) P w F mg base ["_law_script", "_law_cell"] "_law_cup" (defScope s__law_cup) f cdv A outer s H E) E := passes_call tk fun _ _ _ _ h => h
  have hp : PassesOwn (model P w) (cxOf (L2.CX P w) P w F mg base ["_law_script", "_law_cell"] "_law_cup" (defScope s__law_cup) f cdv A outer s H E).A (cxOf (L2.CX P w) P w F mg base ["_law_script", "_law_cell"] "_law_cup" (defScope s__law_cup) f cdv A outer s H E).env (cxOf (L2.CX P w) P w F mg base ["_law_script", "_law_cell"] "_law_cup" (defScope s__law_cup) f cdv A outer s H E).xe := passes_of rfl
  have hc : (cxOf (L2.CX P w) P w F mg base ["_law_script", "_law_cell"] "_law_cup" (defScope s__law_cup) f cdv A outer s H E).calm = true := rfl
  have hKF : K.F = (cxOf (L2.CX P w) P w F mg base ["_law_script", "_law_cell"] "_law_cup" (defScope s__law_cup) f cdv A outer s H E).K := T.kf
  obtain ⟨t2, hp2, hs2⟩ : ∃ t2, PSs (cxOf (L2.CX P w) P w F mg base ["_law_script", "_law_cell"] "_law_cup" (defScope s__law_cup) f cdv A outer s H E) [(defBody s__law_cup).getD 1 (.Pass ⟨0, 0, 0, 0⟩)] (tRet t2) ∧ SemF K E t2 (gfDisp ga__law_cup) :=
    ret_own (pf_lst (pad_cons (pd_ifExp (ptd_cmp op_ge opD_ge (pd_var (pv 1)) (pd_op op_pow opD_pow pd_int pd_int) (nomark _)) (pd_op op_divD opD_div (pd_var (pv 1)) pd_int) pd_int) (pad_cons (pd_op op_addD opD_add (pd_op op_modN opD_mod (pd_callTy call_int1 callD_int (by rfl) T.b_int bb_int (pad_cons (pd_op op_addD opD_add (pd_op op_mulD opD_mul (pd_var (pv 1)) pd_int) pd_int) pad_nil)) pd_int) pd_int) pad_nil)))
  refine ⟨_, pss_cons (ps_set (i := 1) nd rfl (by first | exact .inl rfl | exact .inr rfl) (pe_callB call_abs (by rfl) T.b_abs bb_abs (pa_cons (pe_ix ixR_D (pe_op op_addD (pe_callTy call_list_of (by rfl) T.b_list bb_list (pa_cons (pv 0) pa_nil)) (PD.pe (K := K) (E := E) (pd_lst (pad_cons pd_int pad_nil)))) pe_int (fun _ _ => rfl)) pa_nil)))
    hp2, ?_⟩
  have s0 : SRep K none H (fun _ => none) (L2.start ["_law_script", "_law_cell"] [V.ref a]) H (fun _ => none) (List.replicate 2 .un) (0, 0) := srep0 hT rfl
  refine at_seq_set (E := E) (at_call1 callD_abs (at_op s0 opD_ix (at_op s0 opD_add (at_script (i := 0) s0.wd (by rfl) hS) (PD.sem (X := cxOf (L2.CX P w) P w F mg base ["_law_script", "_law_cell"] "_law_cup" (defScope s__law_cup) f cdv A outer s H E) (pd_lst (pos := ⟨0, 0, 0, 0⟩) (pad_cons (pd_int (i := 0) (j := 0) (pos := ⟨0, 0, 0, 0⟩)) pad_nil)))) (sem_c (v := .int 0) fun _ => .int 0))) ?_
  rw [cell_rs ns hl]
  intro H1 G1 x1 w1 v rv
  have s1 := (s0.go x1 w1).set (i := 1) rv
  exact ret_cup hs2 s1 (cup_rs _ _) hQ
theorem sc__law_roll : FnScope ["_law_cup_here", "_law_many", "_law_deep", "_law_found"] ["_law_cup_here", "_law_many"] (defScope s__law_roll) := ⟨rfl, rfl, rfl, by decide +kernel, rfl, by decide +kernel, by decide +kernel⟩
def g__law_roll : GS := (gSeq (gIf (gBool (gBin (fB0 fun i j => decide (j < i)) (gCup 0 false) (gC (.int 0)))) (gSeq (gSet 3 (gBin (fI modOk fun i j => i.fmod j) (gCall dToInt (gaCons (gCup 0 false) gaNil)) (gVar 1)))
    (gSeq (gCupSet 0 false (gBin (fI divOk fun i j => i.fdiv j) (gCup 0 false) (gVar 1)))
    (gRet (gVar 3)))) gSkip)
    (gSeq (gCupSet 0 true (gBin (fI modOk fun i j => i.fmod j) (gCall dToInt (gaCons (gBin dAdd (gBin dMul (gCup 0 true) (gC (.int 31039))) (gC (.int 7973))) gaNil)) (gC (.int 2147483543))))
    (gSeq (gSet 2 (gBin (fI modOk fun i j => i.fmod j) (gCall dToInt (gaCons (gBin dMul (gCup 0 true) (gBin dAdd (gCup 0 true) (gC (.int 229)))) gaNil)) (gC (.int 2147483587))))
    (gRet (gBin (fI modOk fun i j => i.fmod j) (gCall dToInt (gaCons (gBin (fI divOk fun i j => i.fdiv j) (gVar 2) (gC (.int 821))) gaNil)) (gVar 1))))))
def G__law_roll : GF := gFn 4 g__law_roll
theorem d__law_roll (T : Txt P w F mg base K) : DefOk P w F mg base K "_law_roll" 1 2 G__law_roll := by
  obtain ⟨f, fd, Fn, hm, hb⟩ := T.f__law_roll
  refine ⟨f, fd, ["_law_cup_here", "_law_many"], ok_def (N := ["_law_cup_here", "_law_many", "_law_deep", "_law_found"]) (g := g__law_roll) Fn sc__law_roll ?body, hm, Fn.kp, hb⟩
  intro cdv A outer s H E hr
  have nd := sc__law_roll.nd
  have hu := hr.units
  have hu1 := Nat.lt_of_le_of_lt (Nat.add_le_add_left (by decide : 1 ≤ 64) _) hu
  have tk : Takes (cxOf (L2.CX P w) P w F mg base ["_law_cup_here", "_law_many", "_law_deep", "_law_found"] "_law_roll" (defScope s__law_roll) f cdv A outer s H E) (fun cls d _ H => E cls d H) := takes_of rfl rfl rfl rfl
  have hx : Passes (L2.CX P w) (cxOf (L2.CX P w) P w F mg base ["_law_cup_here", "_law_many", "_law_deep", "_law_found"] "_law_roll" (defScope s__law_roll) f cdv A outer s H E) E := passes_call tk fun _ _ _ _ h => h
  have hp : PassesOwn (model P w) (cxOf (L2.CX P w) P w F mg base ["_law_cup_here", "_law_many", "_law_deep", "_law_found"] "_law_roll" (defScope s__law_roll) f cdv A outer s H E).A (cxOf (L2.CX P w) P w F mg base ["_law_cup_here", "_law_many", "_law_deep", "_law_found"] "_law_roll" (defScope s__law_roll) f cdv A outer s H E).env (cxOf (L2.CX P w) P w F mg base ["_law_cup_here", "_law_many", "_law_deep", "_law_found"] "_law_roll" (defScope s__law_roll) f cdv A outer s H E).xe := passes_of rfl
  have hc : (cxOf (L2.CX P w) P w F mg base ["_law_cup_here", "_law_many", "_law_deep", "_law_found"] "_law_roll" (defScope s__law_roll) f cdv A outer s H E).calm = true := rfl
  have hKF : K.F = (cxOf (L2.CX P w) P w F mg base ["_law_cup_here", "_law_many", "_law_deep", "_law_found"] "_law_roll" (defScope s__law_roll) f cdv A outer s H E).K := T.kf
  exact ⟨_, (pssd_cons (psd_if (ptd_cmp op_gt opD_gt (pd_cup (pv 0) false rfl (fun _ _ => rfl)) pd_int (nomark _)) (pssd_cons (psd_set (i := 3) nd rfl (by first | exact .inl rfl | exact .inr rfl) (pd_op op_modN opD_mod (pd_callTy call_int1 callD_int (by rfl) T.b_int bb_int (pad_cons (pd_cup (pv 0) false rfl (fun _ _ => rfl)) pad_nil)) (pd_var (pv 1))))
    (pssd_cons (psd_cupSet (i := 0) false rfl (pv 0) (pd_op op_divD opD_div (pd_cup (pv 0) false rfl (fun _ _ => rfl)) (pd_var (pv 1))))
    (pssd_one (psd_ret (pd_var (pv 3)))))) pssd_nil)
    (pssd_cons (psd_cupSet (i := 0) true rfl (pv 0) (pd_op op_modN opD_mod (pd_callTy call_int1 callD_int (by rfl) T.b_int bb_int (pad_cons (pd_op op_addD opD_add (pd_op op_mulD opD_mul (pd_cup (pv 0) true rfl (fun _ _ => rfl)) pd_int) pd_int) pad_nil)) pd_int))
    (pssd_cons (psd_set (i := 2) nd rfl (by first | exact .inl rfl | exact .inr rfl) (pd_op op_modN opD_mod (pd_callTy call_int1 callD_int (by rfl) T.b_int bb_int (pad_cons (pd_op op_mulD opD_mul (pd_cup (pv 0) true rfl (fun _ _ => rfl)) (pd_op op_addD opD_add (pd_cup (pv 0) true rfl (fun _ _ => rfl)) pd_int)) pad_nil)) pd_int))
    (pssd_one (psd_ret (pd_op op_modN opD_mod (pd_callTy call_int1 callD_int (by rfl) T.b_int bb_int (pad_cons (pd_op op_divD opD_div (pd_var (pv 2)) pd_int) pad_nil)) (pd_var (pv 1))))))))⟩
theorem sc__law_some : FnScope ["_law_cup_here", "_law_things"] ["_law_cup_here", "_law_things"] (defScope s__law_some) := ⟨rfl, rfl, rfl, by decide +kernel, rfl, by decide +kernel, by decide +kernel⟩
def g__law_some : GS := (gRet (gBin dIx (gVar 1) (gApp 2 G__law_roll (gaCup 0 (gaCons (gCall dLen (gaCons (gVar 1) gaNil)) gaNil)))))
def G__law_some : GF := gFn 2 g__law_some
theorem d__law_some (T : Txt P w F mg base K) : DefOk P w F mg base K "_law_some" 2 2 G__law_some := by
  obtain ⟨f, fd, Fn, hm, hb⟩ := T.f__law_some
  refine ⟨f, fd, ["_law_cup_here", "_law_things"], ok_def (N := ["_law_cup_here", "_law_things"]) (g := g__law_some) Fn sc__law_some ?body, hm, Fn.kp, hb⟩
  intro cdv A outer s H E hr
  have nd := sc__law_some.nd
  have hu := hr.units
  have hu1 := Nat.lt_of_le_of_lt (Nat.add_le_add_left (by decide : 1 ≤ 64) _) hu
  have tk : Takes (cxOf (L2.CX P w) P w F mg base ["_law_cup_here", "_law_things"] "_law_some" (defScope s__law_some) f cdv A outer s H E) (fun cls d _ H => E cls d H) := takes_of rfl rfl rfl rfl
  have hx : Passes (L2.CX P w) (cxOf (L2.CX P w) P w F mg base ["_law_cup_here", "_law_things"] "_law_some" (defScope s__law_some) f cdv A outer s H E) E := passes_call tk fun _ _ _ _ h => h
  have hp : PassesOwn (model P w) (cxOf (L2.CX P w) P w F mg base ["_law_cup_here", "_law_things"] "_law_some" (defScope s__law_some) f cdv A outer s H E).A (cxOf (L2.CX P w) P w F mg base ["_law_cup_here", "_law_things"] "_law_some" (defScope s__law_some) f cdv A outer s H E).env (cxOf (L2.CX P w) P w F mg base ["_law_cup_here", "_law_things"] "_law_some" (defScope s__law_some) f cdv A outer s H E).xe := passes_of rfl
  have hc : (cxOf (L2.CX P w) P w F mg base ["_law_cup_here", "_law_things"] "_law_some" (defScope s__law_some) f cdv A outer s H E).calm = true := rfl
  have hKF : K.F = (cxOf (L2.CX P w) P w F mg base ["_law_cup_here", "_law_things"] "_law_some" (defScope s__law_some) f cdv A outer s H E).K := T.kf
  exact ⟨_, (pssd_one (psd_ret (pd_ix ixR_D opD_ix (pd_var (pv 1)) (pd_callD (d__law_roll T) (hr.mono (by decide)) (by rfl) hx (pad_cup (pv 0) (pad_cons (pd_callB call_len_seq callD_len (by rfl) T.b_len bb_len (pad_cons (pd_var (pv 1)) pad_nil)) pad_nil))) (fun _ _ => rfl))))⟩
theorem sc__law_parts : FnScope ["_law_term", "_law_part"] ["_law_term"] (defScope s__law_parts) := ⟨rfl, rfl, rfl, by decide +kernel, rfl, by decide +kernel, by decide +kernel⟩
def le__law_parts_0 : GE := (gVar 1)
def lt__law_parts_0 : GT := (gTru (gIsi "tuple" (gVar 1)))
def g__law_parts : GS := (gRet (gCall dToTup (gaCons (gL (gLc (giSeq (gSlice (gVar 0) (gPart (gC (.int 1))) gNoPart)) [1] (ggName 1) lt__law_parts_0 le__law_parts_0)) gaNil)))
def G__law_parts : GF := gFn 2 g__law_parts
theorem d__law_parts (T : Txt P w F mg base K) : DefOk P w F mg base K "_law_parts" 1 1 G__law_parts := by
  obtain ⟨f, fd, Fn, hm, hb⟩ := T.f__law_parts
  refine ⟨f, fd, ["_law_term"], ok_def (N := ["_law_term", "_law_part"]) (g := g__law_parts) Fn sc__law_parts ?body, hm, Fn.kp, hb⟩
  intro cdv A outer s H E hr
  have nd := sc__law_parts.nd
  have hu := hr.units
  have hu1 := Nat.lt_of_le_of_lt (Nat.add_le_add_left (by decide : 1 ≤ 64) _) hu
  have tk : Takes (cxOf (L2.CX P w) P w F mg base ["_law_term", "_law_part"] "_law_parts" (defScope s__law_parts) f cdv A outer s H E) (fun cls d _ H => E cls d H) := takes_of rfl rfl rfl rfl
  have hx : Passes (L2.CX P w) (cxOf (L2.CX P w) P w F mg base ["_law_term", "_law_part"] "_law_parts" (defScope s__law_parts) f cdv A outer s H E) E := passes_call tk fun _ _ _ _ h => h
  have hp : PassesOwn (model P w) (cxOf (L2.CX P w) P w F mg base ["_law_term", "_law_part"] "_law_parts" (defScope s__law_parts) f cdv A outer s H E).A (cxOf (L2.CX P w) P w F mg base ["_law_term", "_law_part"] "_law_parts" (defScope s__law_parts) f cdv A outer s H E).env (cxOf (L2.CX P w) P w F mg base ["_law_term", "_law_part"] "_law_parts" (defScope s__law_parts) f cdv A outer s H E).xe := passes_of rfl
  have hc : (cxOf (L2.CX P w) P w F mg base ["_law_term", "_law_part"] "_law_parts" (defScope s__law_parts) f cdv A outer s H E).calm = true := rfl
  have hKF : K.F = (cxOf (L2.CX P w) P w F mg base ["_law_term", "_law_part"] "_law_parts" (defScope s__law_parts) f cdv A outer s H E).K := T.kf
  exact ⟨_, (pssd_one (psd_ret (pd_callTy call_tuple_of callD_tuple (by rfl) T.b_tuple bb_tuple (pad_cons (PFD.toD (pf_lc (own := [("_law_part", 1)]) (ws := [1]) hc nd (pid_seq (pd_slice (pd_var (pv 0)) (pod_some pd_int) pod_none)) (blkOk_by (N := ["_law_term", "_law_part"]) (sc := defScope s__law_parts) (by decide +kernel)) (fun _ _ _ _ _ => ⟨_, by exact (pgd_name (i := 1) nd rfl (by first | exact .inl rfl | exact .inr rfl))⟩) (fun _ _ _ _ _ => ⟨_, by exact (ptsd_one (ptd_truth (pd_isi (T := "tuple") (pd_var (pv 1)) (by rfl) T.b_isinstance (by rfl) T.b_tuple bb_tuple)))⟩) (fun _ _ _ _ _ => ⟨_, by exact (pd_var (pv 1))⟩))) pad_nil))))⟩
theorem sc__law_height : FnScope ["_law_term", "_law_level", "_law_found", "_law_below", "_law_one"] ["_law_term"] (defScope s__law_height) := ⟨rfl, rfl, rfl, by decide +kernel, rfl, by decide +kernel, by decide +kernel⟩
def fb__law_height_0 : GS := (gExt 3 (gCall dToLst (gaCons (gApp 1 G__law_parts (gaCons (gVar 4) gaNil)) gaNil)))
def ta__law_height_0 : GS := (gPar 1 2 (gaCons (gVar 3) (gaCons (gBin dAdd (gVar 2) (gC (.int 1))) gaNil)))
def wt__law_height_0 : GT := (gBool (gBin (fB0 fun i j => decide (j < i)) (gCall dLen (gaCons (gVar 1) gaNil)) (gC (.int 0))))
def wb__law_height_0 : GS := (gSeq (gSetO 3 (gfDisp gaNil))
    (gSeq (gFor (giSeq (gVar 1)) (ggName 4) fb__law_height_0)
    (gFrz 3 ta__law_height_0)))
def g__law_height : GS := (gSeq (gPar 1 2 (gaCons (gDisp .list (gaCons (gVar 0) gaNil)) (gaCons (gC (.int 0)) gaNil)))
    (gSeq (gWhile (fun _ _ => 100000) wt__law_height_0 wb__law_height_0)
    (gRet (gVar 2))))
def G__law_height : GF := gFn 5 g__law_height
theorem d__law_height (T : Txt P w F mg base K) : DefOk P w F mg base K "_law_height" 2 1 G__law_height := by
  obtain ⟨f, fd, Fn, hm, hb⟩ := T.f__law_height
  refine ⟨f, fd, ["_law_term"], ok_def (N := ["_law_term", "_law_level", "_law_found", "_law_below", "_law_one"]) (g := g__law_height) Fn sc__law_height ?body, hm, Fn.kp, hb⟩
  intro cdv A outer s H E hr
  have nd := sc__law_height.nd
  have hu := hr.units
  have hu1 := Nat.lt_of_le_of_lt (Nat.add_le_add_left (by decide : 1 ≤ 64) _) hu
  have tk : Takes (cxOf (L2.CX P w) P w F mg base ["_law_term", "_law_level", "_law_found", "_law_below", "_law_one"] "_law_height" (defScope s__law_height) f cdv A outer s H E) (fun cls d _ H => E cls d H) := takes_of rfl rfl rfl rfl
  have hx : Passes (L2.CX P w) (cxOf (L2.CX P w) P w F mg base ["_law_term", "_law_level", "_law_found", "_law_below", "_law_one"] "_law_height" (defScope s__law_height) f cdv A outer s H E) E := passes_call tk fun _ _ _ _ h => h
  have hp : PassesOwn (model P w) (cxOf (L2.CX P w) P w F mg base ["_law_term", "_law_level", "_law_found", "_law_below", "_law_one"] "_law_height" (defScope s__law_height) f cdv A outer s H E).A (cxOf (L2.CX P w) P w F mg base ["_law_term", "_law_level", "_law_found", "_law_below", "_law_one"] "_law_height" (defScope s__law_height) f cdv A outer s H E).env (cxOf (L2.CX P w) P w F mg base ["_law_term", "_law_level", "_law_found", "_law_below", "_law_one"] "_law_height" (defScope s__law_height) f cdv A outer s H E).xe := passes_of rfl
  have hc : (cxOf (L2.CX P w) P w F mg base ["_law_term", "_law_level", "_law_found", "_law_below", "_law_one"] "_law_height" (defScope s__law_height) f cdv A outer s H E).calm = true := rfl
  have hKF : K.F = (cxOf (L2.CX P w) P w F mg base ["_law_term", "_law_level", "_law_found", "_law_below", "_law_one"] "_law_height" (defScope s__law_height) f cdv A outer s H E).K := T.kf
  exact ⟨_, (pssd_cons (psd_par (i := 1) (j := 2) hc nd rfl rfl (by decide) rfl rfl (pad_cons (pd_lst (pad_cons (pd_var (pv 0)) pad_nil)) (pad_cons pd_int pad_nil)))
    (pssd_cons (psd_while (fun _ _ => 100000) hp (ptd_cmp op_gt opD_gt (pd_callB call_len_seq callD_len (by rfl) T.b_len bb_len (pad_cons (pd_var (pv 1)) pad_nil)) pd_int (nomark _)) (pssd_cons (psd_setO (i := 3) nd rfl (by first | exact .inl rfl | exact .inr rfl) (pf_lst pad_nil))
    (pssd_cons (psd_for hp hc (pid_seq (pd_var (pv 1))) (pgd_name (i := 4) nd rfl (by first | exact .inl rfl | exact .inr rfl)) (pssd_one (psd_extend (pv 3) (pd_callTy call_list_of callD_list (by rfl) T.b_list bb_list (pad_cons (pd_callD (d__law_parts T) (hr.mono (by decide)) (by rfl) hx (pad_cons (pd_var (pv 4)) pad_nil)) pad_nil)) (fun h => pe_bm PySem.F.plainAttrs_list PySem.F.slot_list_extend PySem.F.type_list_extend mt_extD (pv 3) h))))
    (pssd_frz 3 (pssd_one (psd_par (i := 1) (j := 2) hc nd rfl rfl (by decide) rfl rfl (pad_cons (pd_var (pv 3)) (pad_cons (pd_op op_addD opD_add (pd_var (pv 2)) pd_int) pad_nil))))))))
    (pssd_one (psd_ret (pd_var (pv 2))))))⟩
theorem sc__law_drawn : FnScope ["_law_cup_here", "_law_deep", "_law_powers", "_law_functions", "_law_roll_here", "_law_inner", "_law_sort"] ["_law_cup_here", "_law_deep", "_law_powers", "_law_functions"] (defScope s__law_drawn) := ⟨rfl, rfl, rfl, by decide +kernel, rfl, by decide +kernel, by decide +kernel⟩
def ta__law_drawn_0 (self : GF) : GS := (gSeq (gSet 6 (gBin dIx (gDisp .list (gaCons (gC (.str (PySem.Str.ofString "plus"))) (gaCons (gC (.str (PySem.Str.ofString "minus"))) (gaCons (gC (.str (PySem.Str.ofString "times"))) (gaCons (gC (.str (PySem.Str.ofString "over"))) (gaCons (gC (.str (PySem.Str.ofString "plus"))) (gaCons (gC (.str (PySem.Str.ofString "times"))) gaNil))))))) (gBin (fI0 fun i j => i - j) (gVar 4) (gC (.int 8)))))
    (gRet (gDisp .tuple (gaCons (gVar 6) (gaCons (gVar 5) (gaCons (gApp 4 self (gaCup 0 (gaCons (gBin (fI0 fun i j => i - j) (gVar 1) (gC (.int 1))) (gaCons (gVar 2) (gaCons (gVar 3) gaNil))))) gaNil))))))
def ta__law_drawn_1 (self : GF) : GS := (gSeq (gIf (gBool (gBin (fB0 fun i j => decide (i < j)) (gVar 4) (gC (.int 8)))) (gRet (gDisp .tuple (gaCons (gApp 2 G__law_some (gaCup 0 (gaCons (gVar 3) gaNil))) (gaCons (gVar 5) gaNil)))) gSkip)
    (ta__law_drawn_0 self))
def ta__law_drawn_2 (self : GF) : GS := (gSeq (gIf (gOr (gBool (gBin dEq (gVar 4) (gC (.int 4)))) (gBool (gBin dEq (gVar 4) (gC (.int 5))))) (gRet (gDisp .tuple (gaCons (gC (.str (PySem.Str.ofString "power"))) (gaCons (gVar 5) (gaCons (gApp 2 G__law_some (gaCup 0 (gaCons (gVar 2) gaNil))) gaNil))))) gSkip)
    (ta__law_drawn_1 self))
def ta__law_drawn_3 (self : GF) : GS := (gSeq (gIf (gBool (gBin dEq (gVar 4) (gC (.int 3)))) (gRet (gDisp .tuple (gaCons (gC (.str (PySem.Str.ofString "negative"))) (gaCons (gVar 5) gaNil)))) gSkip)
    (ta__law_drawn_2 self))
def ta__law_drawn_4 (self : GF) : GS := (gSeq (gSet 5 (gApp 4 self (gaCup 0 (gaCons (gBin (fI0 fun i j => i - j) (gVar 1) (gC (.int 1))) (gaCons (gVar 2) (gaCons (gVar 3) gaNil))))))
    (ta__law_drawn_3 self))
def ta__law_drawn_5 (self : GF) : GS := (gSeq (gIf (gBool (gBin dEq (gVar 4) (gC (.int 0)))) (gRet (gDisp .tuple (gaCons (gC (.str (PySem.Str.ofString "whole"))) (gaCons (gApp 2 G__law_some (gaCup 0 (gaCons (gDisp .list (gaCons (gC (.int 0)) (gaCons (gC (.int 1)) (gaCons (gC (.int 1)) (gaCons (gC (.int 2)) (gaCons (gC (.int 3)) (gaCons (gC (.int 4)) (gaCons (gC (.int 12)) (gaCons (gC (.int 1000000)) gaNil))))))))) gaNil))) gaNil)))) gSkip)
    (gSeq (gIf (gBool (gBin (fB0 fun i j => decide (i < j)) (gVar 4) (gC (.int 3)))) (gRet (gDisp .tuple (gaCons (gC (.str (PySem.Str.ofString "x"))) gaNil))) gSkip)
    (ta__law_drawn_4 self)))
def g__law_drawn (self : GF) : GS := (gSeq (gSet 4 (gApp 2 G__law_roll (gaCup 0 (gaCons (gIfE (gBool (gBin (fB0 fun i j => decide (j < i)) (gVar 1) (gC (.int 0)))) (gC (.int 14)) (gC (.int 3))) gaNil))))
    (ta__law_drawn_5 self))
def G__law_drawn : Nat → GF
  | 0 => gfStk
  | n + 1 => gFn 7 (g__law_drawn (G__law_drawn n))
theorem d__law_drawn (T : Txt P w F mg base K) : ∀ fuel : Nat, DefOk P w F mg base K "_law_drawn" (2 + fuel) 4 (G__law_drawn fuel)
  | 0 => by
    obtain ⟨f, fd, Fn, hm, hb⟩ := T.f__law_drawn
    exact defOk_stk (ps := ["_law_cup_here", "_law_deep", "_law_powers", "_law_functions"]) Fn hm hb
  | fuel + 1 => by
    obtain ⟨f, fd, Fn, hm, hb⟩ := T.f__law_drawn
    refine ⟨f, fd, ["_law_cup_here", "_law_deep", "_law_powers", "_law_functions"], ok_def (N := ["_law_cup_here", "_law_deep", "_law_powers", "_law_functions", "_law_roll_here", "_law_inner", "_law_sort"]) (k := 2 + fuel) (g := g__law_drawn (G__law_drawn fuel)) Fn sc__law_drawn ?body, hm, Fn.kp, hb⟩
    intro cdv A outer s H E hr
    have nd := sc__law_drawn.nd
    have hu := hr.units
    have hu1 := Nat.lt_of_le_of_lt (Nat.add_le_add_left (by decide : 1 ≤ 64) _) hu
    have tk : Takes (cxOf (L2.CX P w) P w F mg base ["_law_cup_here", "_law_deep", "_law_powers", "_law_functions", "_law_roll_here", "_law_inner", "_law_sort"] "_law_drawn" (defScope s__law_drawn) f cdv A outer s H E) (fun cls d _ H => E cls d H) := takes_of rfl rfl rfl rfl
    have hx : Passes (L2.CX P w) (cxOf (L2.CX P w) P w F mg base ["_law_cup_here", "_law_deep", "_law_powers", "_law_functions", "_law_roll_here", "_law_inner", "_law_sort"] "_law_drawn" (defScope s__law_drawn) f cdv A outer s H E) E := passes_call tk fun _ _ _ _ h => h
    have hp : PassesOwn (model P w) (cxOf (L2.CX P w) P w F mg base ["_law_cup_here", "_law_deep", "_law_powers", "_law_functions", "_law_roll_here", "_law_inner", "_law_sort"] "_law_drawn" (defScope s__law_drawn) f cdv A outer s H E).A (cxOf (L2.CX P w) P w F mg base ["_law_cup_here", "_law_deep", "_law_powers", "_law_functions", "_law_roll_here", "_law_inner", "_law_sort"] "_law_drawn" (defScope s__law_drawn) f cdv A outer s H E).env (cxOf (L2.CX P w) P w F mg base ["_law_cup_here", "_law_deep", "_law_powers", "_law_functions", "_law_roll_here", "_law_inner", "_law_sort"] "_law_drawn" (defScope s__law_drawn) f cdv A outer s H E).xe := passes_of rfl
    have hc : (cxOf (L2.CX P w) P w F mg base ["_law_cup_here", "_law_deep", "_law_powers", "_law_functions", "_law_roll_here", "_law_inner", "_law_sort"] "_law_drawn" (defScope s__law_drawn) f cdv A outer s H E).calm = true := rfl
    have hKF : K.F = (cxOf (L2.CX P w) P w F mg base ["_law_cup_here", "_law_deep", "_law_powers", "_law_functions", "_law_roll_here", "_law_inner", "_law_sort"] "_law_drawn" (defScope s__law_drawn) f cdv A outer s H E).K := T.kf
    exact ⟨_, (pssd_cons (psd_set (i := 4) nd rfl (by first | exact .inl rfl | exact .inr rfl) (pd_callD (d__law_roll T) (hr.mono (by omega)) (by rfl) hx (pad_cup (pv 0) (pad_cons (pd_ifExp (ptd_cmp op_gt opD_gt (pd_var (pv 1)) pd_int (nomark _)) pd_int pd_int) pad_nil))))
    (pssd_cons (psd_if (ptd_cmp (op_eqX hu) opD_eq (pd_var (pv 4)) pd_int (nomark _)) (pssd_one (psd_ret (pd_tup (pad_cons pd_str (pad_cons (pd_callD (d__law_some T) (hr.mono (by omega)) (by rfl) hx (pad_cup (pv 0) (pad_cons (pd_lst (pad_cons pd_int (pad_cons pd_int (pad_cons pd_int (pad_cons pd_int (pad_cons pd_int (pad_cons pd_int (pad_cons pd_int (pad_cons pd_int pad_nil))))))))) pad_nil))) pad_nil))))) pssd_nil)
    (pssd_cons (psd_if (ptd_cmp op_lt opD_lt (pd_var (pv 4)) pd_int (nomark _)) (pssd_one (psd_ret (pd_tup (pad_cons pd_str pad_nil)))) pssd_nil)
    (pssd_cons (psd_set (i := 5) nd rfl (by first | exact .inl rfl | exact .inr rfl) (pd_callD (d__law_drawn T fuel) (hr.mono (by omega)) (by rfl) hx (pad_cup (pv 0) (pad_cons (pd_op op_sub opD_sub (pd_var (pv 1)) pd_int) (pad_cons (pd_var (pv 2)) (pad_cons (pd_var (pv 3)) pad_nil))))))
    (pssd_cons (psd_if (ptd_cmp (op_eqX hu) opD_eq (pd_var (pv 4)) pd_int (nomark _)) (pssd_one (psd_ret (pd_tup (pad_cons pd_str (pad_cons (pd_var (pv 5)) pad_nil))))) pssd_nil)
    (pssd_cons (psd_if (PWD.pt (pwd_or (ptd_cmp (op_eqX hu) opD_eq (pd_var (pv 4)) pd_int (nomark _)) (pwd_or1 (ptd_cmp (op_eqX hu) opD_eq (pd_var (pv 4)) pd_int (nomark _))))) (pssd_one (psd_ret (pd_tup (pad_cons pd_str (pad_cons (pd_var (pv 5)) (pad_cons (pd_callD (d__law_some T) (hr.mono (by omega)) (by rfl) hx (pad_cup (pv 0) (pad_cons (pd_var (pv 2)) pad_nil))) pad_nil)))))) pssd_nil)
    (pssd_cons (psd_if (ptd_cmp op_lt opD_lt (pd_var (pv 4)) pd_int (nomark _)) (pssd_one (psd_ret (pd_tup (pad_cons (pd_callD (d__law_some T) (hr.mono (by omega)) (by rfl) hx (pad_cup (pv 0) (pad_cons (pd_var (pv 3)) pad_nil))) (pad_cons (pd_var (pv 5)) pad_nil))))) pssd_nil)
    (pssd_cons (psd_set (i := 6) nd rfl (by first | exact .inl rfl | exact .inr rfl) (pd_ix ixR_D opD_ix (pd_lst (pad_cons pd_str (pad_cons pd_str (pad_cons pd_str (pad_cons pd_str (pad_cons pd_str (pad_cons pd_str pad_nil))))))) (pd_op op_sub opD_sub (pd_var (pv 4)) pd_int) (fun _ _ => rfl)))
    (pssd_one (psd_ret (pd_tup (pad_cons (pd_var (pv 6)) (pad_cons (pd_var (pv 5)) (pad_cons (pd_callD (d__law_drawn T fuel) (hr.mono (by omega)) (by rfl) hx (pad_cup (pv 0) (pad_cons (pd_op op_sub opD_sub (pd_var (pv 1)) pd_int) (pad_cons (pd_var (pv 2)) (pad_cons (pd_var (pv 3)) pad_nil))))) pad_nil))))))))))))))⟩
theorem sc__law_odd : FnScope ["_law_cup_here", "_law_some_here"] ["_law_cup_here"] (defScope s__law_odd) := ⟨rfl, rfl, rfl, by decide +kernel, rfl, by decide +kernel, by decide +kernel⟩
def ta__law_odd_0 : GS := (gRet (gApp 2 G__law_some (gaCup 0 (gaCons (gVar 1) gaNil))))
def g__law_odd : GS := (gSeq (gSet 1 (gDisp .list (gaCons (gC .none) (gaCons (gC (.int 3)) (gaCons (gC (.bool true)) (gaCons (gDisp .tuple gaNil) (gaCons (gC (.str (PySem.Str.ofString "x"))) (gaCons (gDisp .list (gaCons (gC (.str (PySem.Str.ofString "x"))) gaNil)) (gaCons (gDisp .tuple (gaCons (gC (.str (PySem.Str.ofString "x"))) (gaCons (gC (.int 1)) gaNil))) (gaCons (gDisp .tuple (gaCons (gC (.str (PySem.Str.ofString "y"))) gaNil)) (gaCons (gDisp .tuple (gaCons (gC (.str (PySem.Str.ofString "whole"))) (gaCons (gUn dNeg (gC (.int 1))) gaNil))) (gaCons (gDisp .tuple (gaCons (gC (.str (PySem.Str.ofString "whole"))) (gaCons (gC (.int 1000001)) gaNil))) (gaCons (gDisp .tuple (gaCons (gC (.str (PySem.Str.ofString "whole"))) (gaCons (gC (.bool true)) gaNil))) (gaCons (gDisp .tuple (gaCons (gC (.str (PySem.Str.ofString "whole"))) gaNil)) gaNil))))))))))))))
    (gSeq (gSet 1 (gBin dAdd (gVar 1) (gDisp .list (gaCons (gDisp .tuple (gaCons (gC (.str (PySem.Str.ofString "negative"))) gaNil)) (gaCons (gDisp .tuple (gaCons (gC (.str (PySem.Str.ofString "plus"))) (gaCons (gDisp .tuple (gaCons (gC (.str (PySem.Str.ofString "x"))) gaNil)) gaNil))) (gaCons (gDisp .tuple (gaCons (gC (.str (PySem.Str.ofString "power"))) (gaCons (gDisp .tuple (gaCons (gC (.str (PySem.Str.ofString "x"))) gaNil)) (gaCons (gC (.int 13)) gaNil)))) (gaCons (gDisp .tuple (gaCons (gC (.str (PySem.Str.ofString "power"))) (gaCons (gDisp .tuple (gaCons (gC (.str (PySem.Str.ofString "x"))) gaNil)) (gaCons (gUn dNeg (gC (.int 1))) gaNil)))) (gaCons (gDisp .tuple (gaCons (gC (.str (PySem.Str.ofString "power"))) (gaCons (gDisp .tuple (gaCons (gC (.str (PySem.Str.ofString "x"))) gaNil)) (gaCons (gC (.bool true)) gaNil)))) gaNil))))))))
    (gSeq (gSet 1 (gBin dAdd (gVar 1) (gDisp .list (gaCons (gDisp .tuple (gaCons (gC (.str (PySem.Str.ofString "power"))) (gaCons (gDisp .tuple (gaCons (gC (.str (PySem.Str.ofString "x"))) gaNil)) gaNil))) (gaCons (gDisp .tuple (gaCons (gC (.str (PySem.Str.ofString "log"))) (gaCons (gDisp .tuple (gaCons (gC (.str (PySem.Str.ofString "x"))) gaNil)) (gaCons (gC (.int 1)) gaNil)))) (gaCons (gDisp .tuple (gaCons (gC (.str (PySem.Str.ofString "x"))) (gaCons (gDisp .tuple (gaCons (gC (.str (PySem.Str.ofString "x"))) gaNil)) gaNil))) (gaCons (gDisp .tuple (gaCons (gC (.str (PySem.Str.ofString "times"))) (gaCons (gDisp .tuple (gaCons (gC (.str (PySem.Str.ofString "x"))) gaNil)) (gaCons (gDisp .tuple (gaCons (gC (.str (PySem.Str.ofString "x"))) gaNil)) (gaCons (gDisp .tuple (gaCons (gC (.str (PySem.Str.ofString "x"))) gaNil)) gaNil))))) (gaCons (gDisp .tuple (gaCons (gDisp .tuple (gaCons (gC (.str (PySem.Str.ofString "x"))) gaNil)) gaNil)) gaNil))))))))
    ta__law_odd_0)))
def G__law_odd : GF := gFn 2 g__law_odd
theorem d__law_odd (T : Txt P w F mg base K) : DefOk P w F mg base K "_law_odd" 3 1 G__law_odd := by
  obtain ⟨f, fd, Fn, hm, hb⟩ := T.f__law_odd
  refine ⟨f, fd, ["_law_cup_here"], ok_def (N := ["_law_cup_here", "_law_some_here"]) (g := g__law_odd) Fn sc__law_odd ?body, hm, Fn.kp, hb⟩
  intro cdv A outer s H E hr
  have nd := sc__law_odd.nd
  have hu := hr.units
  have hu1 := Nat.lt_of_le_of_lt (Nat.add_le_add_left (by decide : 1 ≤ 64) _) hu
  have tk : Takes (cxOf (L2.CX P w) P w F mg base ["_law_cup_here", "_law_some_here"] "_law_odd" (defScope s__law_odd) f cdv A outer s H E) (fun cls d _ H => E cls d H) := takes_of rfl rfl rfl rfl
  have hx : Passes (L2.CX P w) (cxOf (L2.CX P w) P w F mg base ["_law_cup_here", "_law_some_here"] "_law_odd" (defScope s__law_odd) f cdv A outer s H E) E := passes_call tk fun _ _ _ _ h => h
  have hp : PassesOwn (model P w) (cxOf (L2.CX P w) P w F mg base ["_law_cup_here", "_law_some_here"] "_law_odd" (defScope s__law_odd) f cdv A outer s H E).A (cxOf (L2.CX P w) P w F mg base ["_law_cup_here", "_law_some_here"] "_law_odd" (defScope s__law_odd) f cdv A outer s H E).env (cxOf (L2.CX P w) P w F mg base ["_law_cup_here", "_law_some_here"] "_law_odd" (defScope s__law_odd) f cdv A outer s H E).xe := passes_of rfl
  have hc : (cxOf (L2.CX P w) P w F mg base ["_law_cup_here", "_law_some_here"] "_law_odd" (defScope s__law_odd) f cdv A outer s H E).calm = true := rfl
  have hKF : K.F = (cxOf (L2.CX P w) P w F mg base ["_law_cup_here", "_law_some_here"] "_law_odd" (defScope s__law_odd) f cdv A outer s H E).K := T.kf
  exact ⟨_, (pssd_cons (psd_set (i := 1) nd rfl (by first | exact .inl rfl | exact .inr rfl) (pd_lst (pad_cons pd_non (pad_cons pd_int (pad_cons pd_bl (pad_cons (pd_tup pad_nil) (pad_cons pd_str (pad_cons (pd_lst (pad_cons pd_str pad_nil)) (pad_cons (pd_tup (pad_cons pd_str (pad_cons pd_int pad_nil))) (pad_cons (pd_tup (pad_cons pd_str pad_nil)) (pad_cons (pd_tup (pad_cons pd_str (pad_cons (pd_neg pd_int) pad_nil))) (pad_cons (pd_tup (pad_cons pd_str (pad_cons pd_int pad_nil))) (pad_cons (pd_tup (pad_cons pd_str (pad_cons pd_bl pad_nil))) (pad_cons (pd_tup (pad_cons pd_str pad_nil)) pad_nil))))))))))))))
    (pssd_cons (psd_set (i := 1) nd rfl (by first | exact .inl rfl | exact .inr rfl) (pd_op op_addD opD_add (pd_var (pv 1)) (pd_lst (pad_cons (pd_tup (pad_cons pd_str pad_nil)) (pad_cons (pd_tup (pad_cons pd_str (pad_cons (pd_tup (pad_cons pd_str pad_nil)) pad_nil))) (pad_cons (pd_tup (pad_cons pd_str (pad_cons (pd_tup (pad_cons pd_str pad_nil)) (pad_cons pd_int pad_nil)))) (pad_cons (pd_tup (pad_cons pd_str (pad_cons (pd_tup (pad_cons pd_str pad_nil)) (pad_cons (pd_neg pd_int) pad_nil)))) (pad_cons (pd_tup (pad_cons pd_str (pad_cons (pd_tup (pad_cons pd_str pad_nil)) (pad_cons pd_bl pad_nil)))) pad_nil))))))))
    (pssd_cons (psd_set (i := 1) nd rfl (by first | exact .inl rfl | exact .inr rfl) (pd_op op_addD opD_add (pd_var (pv 1)) (pd_lst (pad_cons (pd_tup (pad_cons pd_str (pad_cons (pd_tup (pad_cons pd_str pad_nil)) pad_nil))) (pad_cons (pd_tup (pad_cons pd_str (pad_cons (pd_tup (pad_cons pd_str pad_nil)) (pad_cons pd_int pad_nil)))) (pad_cons (pd_tup (pad_cons pd_str (pad_cons (pd_tup (pad_cons pd_str pad_nil)) pad_nil))) (pad_cons (pd_tup (pad_cons pd_str (pad_cons (pd_tup (pad_cons pd_str pad_nil)) (pad_cons (pd_tup (pad_cons pd_str pad_nil)) (pad_cons (pd_tup (pad_cons pd_str pad_nil)) pad_nil))))) (pad_cons (pd_tup (pad_cons (pd_tup (pad_cons pd_str pad_nil)) pad_nil)) pad_nil))))))))
    (pssd_one (psd_ret (pd_callD (d__law_some T) (hr.mono (by decide)) (by rfl) hx (pad_cup (pv 0) (pad_cons (pd_var (pv 1)) pad_nil))))))))⟩
theorem sc__law_path : FnScope ["_law_cup_here", "_law_term", "_law_path_here", "_law_turn", "_law_parts_here", "_law_at_here"] ["_law_cup_here", "_law_term"] (defScope s__law_path) := ⟨rfl, rfl, rfl, by decide +kernel, rfl, by decide +kernel, by decide +kernel⟩
def fb__law_path_0 : GS := (gSeq (gSet 4 (gApp 1 G__law_parts (gaCons (gVar 1) gaNil)))
    (gIf (gBool (gBin (fB0 fun i j => decide (j < i)) (gCall dLen (gaCons (gVar 4) gaNil)) (gC (.int 0)))) (gSeq (gSet 5 (gApp 2 G__law_roll (gaCup 0 (gaCons (gCall dLen (gaCons (gVar 4) gaNil)) gaNil))))
    (gPar 2 1 (gaCons (gBin dAdd (gVar 2) (gDisp .tuple (gaCons (gVar 5) gaNil))) (gaCons (gBin dIx (gVar 4) (gVar 5)) gaNil)))) gSkip))
def g__law_path : GS := (gSeq (gSet 2 (gDisp .tuple gaNil))
    (gSeq (gFor (giArg dRng1 (gaCons (gApp 2 G__law_roll (gaCup 0 (gaCons (gC (.int 5)) gaNil))) gaNil)) (ggName 3) fb__law_path_0)
    (gRet (gVar 2))))
def G__law_path : GF := gFn 6 g__law_path
theorem d__law_path (T : Txt P w F mg base K) : DefOk P w F mg base K "_law_path" 2 2 G__law_path := by
  obtain ⟨f, fd, Fn, hm, hb⟩ := T.f__law_path
  refine ⟨f, fd, ["_law_cup_here", "_law_term"], ok_def (N := ["_law_cup_here", "_law_term", "_law_path_here", "_law_turn", "_law_parts_here", "_law_at_here"]) (g := g__law_path) Fn sc__law_path ?body, hm, Fn.kp, hb⟩
  intro cdv A outer s H E hr
  have nd := sc__law_path.nd
  have hu := hr.units
  have hu1 := Nat.lt_of_le_of_lt (Nat.add_le_add_left (by decide : 1 ≤ 64) _) hu
  have tk : Takes (cxOf (L2.CX P w) P w F mg base ["_law_cup_here", "_law_term", "_law_path_here", "_law_turn", "_law_parts_here", "_law_at_here"] "_law_path" (defScope s__law_path) f cdv A outer s H E) (fun cls d _ H => E cls d H) := takes_of rfl rfl rfl rfl
  have hx : Passes (L2.CX P w) (cxOf (L2.CX P w) P w F mg base ["_law_cup_here", "_law_term", "_law_path_here", "_law_turn", "_law_parts_here", "_law_at_here"] "_law_path" (defScope s__law_path) f cdv A outer s H E) E := passes_call tk fun _ _ _ _ h => h
  have hp : PassesOwn (model P w) (cxOf (L2.CX P w) P w F mg base ["_law_cup_here", "_law_term", "_law_path_here", "_law_turn", "_law_parts_here", "_law_at_here"] "_law_path" (defScope s__law_path) f cdv A outer s H E).A (cxOf (L2.CX P w) P w F mg base ["_law_cup_here", "_law_term", "_law_path_here", "_law_turn", "_law_parts_here", "_law_at_here"] "_law_path" (defScope s__law_path) f cdv A outer s H E).env (cxOf (L2.CX P w) P w F mg base ["_law_cup_here", "_law_term", "_law_path_here", "_law_turn", "_law_parts_here", "_law_at_here"] "_law_path" (defScope s__law_path) f cdv A outer s H E).xe := passes_of rfl
  have hc : (cxOf (L2.CX P w) P w F mg base ["_law_cup_here", "_law_term", "_law_path_here", "_law_turn", "_law_parts_here", "_law_at_here"] "_law_path" (defScope s__law_path) f cdv A outer s H E).calm = true := rfl
  have hKF : K.F = (cxOf (L2.CX P w) P w F mg base ["_law_cup_here", "_law_term", "_law_path_here", "_law_turn", "_law_parts_here", "_law_at_here"] "_law_path" (defScope s__law_path) f cdv A outer s H E).K := T.kf
  exact ⟨_, (pssd_cons (psd_set (i := 2) nd rfl (by first | exact .inl rfl | exact .inr rfl) (pd_tup pad_nil))
    (pssd_cons (psd_for hp hc (pid_rng1 (by rfl) T.b_range (pad_cons (pd_callD (d__law_roll T) (hr.mono (by decide)) (by rfl) hx (pad_cup (pv 0) (pad_cons pd_int pad_nil))) pad_nil)) (pgd_name (i := 3) nd rfl (by first | exact .inl rfl | exact .inr rfl)) (pssd_cons (psd_set (i := 4) nd rfl (by first | exact .inl rfl | exact .inr rfl) (pd_callD (d__law_parts T) (hr.mono (by decide)) (by rfl) hx (pad_cons (pd_var (pv 1)) pad_nil)))
    (pssd_one (psd_if (ptd_cmp op_gt opD_gt (pd_callB call_len_seq callD_len (by rfl) T.b_len bb_len (pad_cons (pd_var (pv 4)) pad_nil)) pd_int (nomark _)) (pssd_cons (psd_set (i := 5) nd rfl (by first | exact .inl rfl | exact .inr rfl) (pd_callD (d__law_roll T) (hr.mono (by decide)) (by rfl) hx (pad_cup (pv 0) (pad_cons (pd_callB call_len_seq callD_len (by rfl) T.b_len bb_len (pad_cons (pd_var (pv 4)) pad_nil)) pad_nil))))
    (pssd_one (psd_par (i := 2) (j := 1) hc nd rfl rfl (by decide) rfl rfl (pad_cons (pd_op op_addD opD_add (pd_var (pv 2)) (pd_tup (pad_cons (pd_var (pv 5)) pad_nil))) (pad_cons (pd_ix ixR_D opD_ix (pd_var (pv 4)) (pd_var (pv 5)) (fun _ _ => rfl)) pad_nil))))) pssd_nil))))
    (pssd_one (psd_ret (pd_var (pv 2))))))⟩
theorem sc__law_put : FnScope ["_law_term", "_law_path_here", "_law_value", "_law_parts_here", "_law_at_here", "_law_part"] ["_law_term", "_law_path_here", "_law_value"] (defScope s__law_put) := ⟨rfl, rfl, rfl, by decide +kernel, rfl, by decide +kernel, by decide +kernel⟩
def le__law_put_0 (self : GF) : GE := (gIfE (gBool (gBin dEq (gVar 4) (gBin dIx (gVar 1) (gC (.int 0))))) (gApp 3 self (gaCons (gVar 5) (gaCons (gSlice (gVar 1) (gPart (gC (.int 1))) gNoPart) (gaCons (gVar 2) gaNil)))) (gVar 5))
def ta__law_put_0 (self : GF) : GS := (gRet (gBin dAdd (gBin dAdd (gDisp .tuple (gaCons (gBin dIx (gVar 0) (gC (.int 0))) gaNil)) (gCall dToTup (gaCons (gVar 3) gaNil))) (gIfE (gBool (gBin dEq (gBin dIx (gVar 0) (gC (.int 0))) (gC (.str (PySem.Str.ofString "power"))))) (gDisp .tuple (gaCons (gBin dIx (gVar 0) (gC (.int 2))) gaNil)) (gDisp .tuple gaNil))))
def ta__law_put_1 (self : GF) : GS := (gSeq (gSet 3 (gL (gLc (giArg dEnum (gaCons (gApp 1 G__law_parts (gaCons (gVar 0) gaNil)) gaNil)) [4, 5] (ggTup 2 (ggCons (ggName 4) (ggCons (ggName 5) ggNil))) gYes (le__law_put_0 self))))
    (ta__law_put_0 self))
def g__law_put (self : GF) : GS := (gSeq (gIf (gBool (gBin dEq (gVar 1) (gDisp .tuple gaNil))) (gRet (gVar 2)) gSkip)
    (ta__law_put_1 self))
def G__law_put : Nat → GF
  | 0 => gfStk
  | n + 1 => gFn 6 (g__law_put (G__law_put n))
theorem d__law_put (T : Txt P w F mg base K) : ∀ fuel : Nat, DefOk P w F mg base K "_law_put" (1 + fuel) 3 (G__law_put fuel)
  | 0 => by
    obtain ⟨f, fd, Fn, hm, hb⟩ := T.f__law_put
    exact defOk_stk (ps := ["_law_term", "_law_path_here", "_law_value"]) Fn hm hb
  | fuel + 1 => by
    obtain ⟨f, fd, Fn, hm, hb⟩ := T.f__law_put
    refine ⟨f, fd, ["_law_term", "_law_path_here", "_law_value"], ok_def (N := ["_law_term", "_law_path_here", "_law_value", "_law_parts_here", "_law_at_here", "_law_part"]) (k := 1 + fuel) (g := g__law_put (G__law_put fuel)) Fn sc__law_put ?body, hm, Fn.kp, hb⟩
    intro cdv A outer s H E hr
    have nd := sc__law_put.nd
    have hu := hr.units
    have hu1 := Nat.lt_of_le_of_lt (Nat.add_le_add_left (by decide : 1 ≤ 64) _) hu
    have tk : Takes (cxOf (L2.CX P w) P w F mg base ["_law_term", "_law_path_here", "_law_value", "_law_parts_here", "_law_at_here", "_law_part"] "_law_put" (defScope s__law_put) f cdv A outer s H E) (fun cls d _ H => E cls d H) := takes_of rfl rfl rfl rfl
    have hx : Passes (L2.CX P w) (cxOf (L2.CX P w) P w F mg base ["_law_term", "_law_path_here", "_law_value", "_law_parts_here", "_law_at_here", "_law_part"] "_law_put" (defScope s__law_put) f cdv A outer s H E) E := passes_call tk fun _ _ _ _ h => h
    have hp : PassesOwn (model P w) (cxOf (L2.CX P w) P w F mg base ["_law_term", "_law_path_here", "_law_value", "_law_parts_here", "_law_at_here", "_law_part"] "_law_put" (defScope s__law_put) f cdv A outer s H E).A (cxOf (L2.CX P w) P w F mg base ["_law_term", "_law_path_here", "_law_value", "_law_parts_here", "_law_at_here", "_law_part"] "_law_put" (defScope s__law_put) f cdv A outer s H E).env (cxOf (L2.CX P w) P w F mg base ["_law_term", "_law_path_here", "_law_value", "_law_parts_here", "_law_at_here", "_law_part"] "_law_put" (defScope s__law_put) f cdv A outer s H E).xe := passes_of rfl
    have hc : (cxOf (L2.CX P w) P w F mg base ["_law_term", "_law_path_here", "_law_value", "_law_parts_here", "_law_at_here", "_law_part"] "_law_put" (defScope s__law_put) f cdv A outer s H E).calm = true := rfl
    have hKF : K.F = (cxOf (L2.CX P w) P w F mg base ["_law_term", "_law_path_here", "_law_value", "_law_parts_here", "_law_at_here", "_law_part"] "_law_put" (defScope s__law_put) f cdv A outer s H E).K := T.kf
    exact ⟨_, (pssd_cons (psd_if (ptd_cmp (op_eqX hu) opD_eq (pd_var (pv 1)) (pd_tup pad_nil) (nomark _)) (pssd_one (psd_ret (pd_var (pv 2)))) pssd_nil)
    (pssd_cons (psd_lcSet (i := 3) (own := [("_law_at_here", 4), ("_law_part", 5)]) (ws := [4, 5]) hc nd rfl rfl (sw_true rfl rfl rfl (by decide +kernel)) (pid_enumT (by rfl) T.b_enumerate (pad_cons (pd_callD (d__law_parts T) (hr.mono (by omega)) (by rfl) hx (pad_cons (pd_var (pv 0)) pad_nil)) pad_nil)) (blkOk_by (N := ["_law_term", "_law_path_here", "_law_value", "_law_parts_here", "_law_at_here", "_law_part"]) (sc := defScope s__law_put) (by decide +kernel)) (fun _ _ _ _ _ => ⟨_, by exact (pgd_tup rfl (pgsd_cons (pgd_name (i := 4) nd rfl (by first | exact .inl rfl | exact .inr rfl)) (pgsd_cons (pgd_name (i := 5) nd rfl (by first | exact .inl rfl | exact .inr rfl)) pgsd_nil)))⟩) (fun _ _ _ _ _ => ⟨_, by exact ptsd_nil⟩) (fun _ _ _ _ _ => ⟨_, by exact (pd_ifExp (ptd_cmp (op_eqX hu) opD_eq (pd_var (pv 4)) (pd_ix ixR_D opD_ix (pd_var (pv 1)) pd_int (fun _ _ => rfl)) (nomark _)) (pd_callD (d__law_put T fuel) (hr.mono (by omega)) (by rfl) passL (pad_cons (pd_var (pv 5)) (pad_cons (pd_slice (pd_var (pv 1)) (pod_some pd_int) pod_none) (pad_cons (pd_var (pv 2)) pad_nil)))) (pd_var (pv 5)))⟩))
    (pssd_one (psd_ret (pd_op op_addD opD_add (pd_op op_addD opD_add (pd_tup (pad_cons (pd_ix ixR_D opD_ix (pd_var (pv 0)) pd_int (fun _ _ => rfl)) pad_nil)) (pd_callTy call_tuple_of callD_tuple (by rfl) T.b_tuple bb_tuple (pad_cons (pd_var (pv 3)) pad_nil))) (pd_ifExp (ptd_cmp (op_eqX hu) opD_eq (pd_ix ixR_D opD_ix (pd_var (pv 0)) pd_int (fun _ _ => rfl)) pd_str (nomark _)) (pd_tup (pad_cons (pd_ix ixR_D opD_ix (pd_var (pv 0)) pd_int (fun _ _ => rfl)) pad_nil)) (pd_tup pad_nil)))))))⟩
theorem sc__law_good : FnScope ["_law_value", "_law_lengths", "_law_number"] ["_law_value"] (defScope s__law_good) := ⟨rfl, rfl, rfl, by decide +kernel, rfl, by decide +kernel, by decide +kernel⟩
def dt__law_good_0 : List (PyData × PyData) := [(.str (PySem.Str.ofString "x"), (.int 1)), (.str (PySem.Str.ofString "whole"), (.int 2)), (.str (PySem.Str.ofString "negative"), (.int 2)), (.str (PySem.Str.ofString "log"), (.int 2)), (.str (PySem.Str.ofString "exp"), (.int 2)), (.str (PySem.Str.ofString "plus"), (.int 3)), (.str (PySem.Str.ofString "minus"), (.int 3)), (.str (PySem.Str.ofString "times"), (.int 3)), (.str (PySem.Str.ofString "over"), (.int 3)), (.str (PySem.Str.ofString "power"), (.int 3))]
def g__law_good : GS := (gSeq (gSet 1 (gC (.dict dt__law_good_0)))
    (gSeq (gIf (gOr (gNot (gTru (gIsi "tuple" (gVar 0)))) (gOr (gBool (gBin dEq (gCall dLen (gaCons (gVar 0) gaNil)) (gC (.int 0)))) (gNot (gTru (gIsi "str" (gBin dIx (gVar 0) (gC (.int 0)))))))) (gRet (gC (.bool false))) gSkip)
    (gSeq (gIf (gBool (gBin dNe (gDGet (gVar 1) (gBin dIx (gVar 0) (gC (.int 0))) (gC (.int 0))) (gCall dLen (gaCons (gVar 0) gaNil)))) (gRet (gC (.bool false))) gSkip)
    (gSeq (gIf (gAnd (gBool (gBin dNe (gBin dIx (gVar 0) (gC (.int 0))) (gC (.str (PySem.Str.ofString "whole"))))) (gBool (gBin dNe (gBin dIx (gVar 0) (gC (.int 0))) (gC (.str (PySem.Str.ofString "power")))))) (gRet (gC (.bool true))) gSkip)
    (gSeq (gSet 2 (gBin dIx (gVar 0) (gUn dNeg (gC (.int 1)))))
    (gRet (gAndV (gIsi "int" (gVar 2)) (gAndV (gNotV (gIsi "bool" (gVar 2))) (gChain (fB0 fun i j => decide (i ≤ j)) (fB0 fun i j => decide (i ≤ j)) (gC (.int 0)) (gVar 2) (gIfE (gBool (gBin dEq (gBin dIx (gVar 0) (gC (.int 0))) (gC (.str (PySem.Str.ofString "power"))))) (gC (.int 12)) (gC (.int 1000000))))))))))))
def G__law_good : GF := gFn 3 g__law_good
theorem d__law_good (T : Txt P w F mg base K) : DefOk P w F mg base K "_law_good" 1 1 G__law_good := by
  obtain ⟨f, fd, Fn, hm, hb⟩ := T.f__law_good
  refine ⟨f, fd, ["_law_value"], ok_def (N := ["_law_value", "_law_lengths", "_law_number"]) (g := g__law_good) Fn sc__law_good ?body, hm, Fn.kp, hb⟩
  intro cdv A outer s H E hr
  have nd := sc__law_good.nd
  have hu := hr.units
  have hu1 := Nat.lt_of_le_of_lt (Nat.add_le_add_left (by decide : 1 ≤ 64) _) hu
  have tk : Takes (cxOf (L2.CX P w) P w F mg base ["_law_value", "_law_lengths", "_law_number"] "_law_good" (defScope s__law_good) f cdv A outer s H E) (fun cls d _ H => E cls d H) := takes_of rfl rfl rfl rfl
  have hx : Passes (L2.CX P w) (cxOf (L2.CX P w) P w F mg base ["_law_value", "_law_lengths", "_law_number"] "_law_good" (defScope s__law_good) f cdv A outer s H E) E := passes_call tk fun _ _ _ _ h => h
  have hp : PassesOwn (model P w) (cxOf (L2.CX P w) P w F mg base ["_law_value", "_law_lengths", "_law_number"] "_law_good" (defScope s__law_good) f cdv A outer s H E).A (cxOf (L2.CX P w) P w F mg base ["_law_value", "_law_lengths", "_law_number"] "_law_good" (defScope s__law_good) f cdv A outer s H E).env (cxOf (L2.CX P w) P w F mg base ["_law_value", "_law_lengths", "_law_number"] "_law_good" (defScope s__law_good) f cdv A outer s H E).xe := passes_of rfl
  have hc : (cxOf (L2.CX P w) P w F mg base ["_law_value", "_law_lengths", "_law_number"] "_law_good" (defScope s__law_good) f cdv A outer s H E).calm = true := rfl
  have hKF : K.F = (cxOf (L2.CX P w) P w F mg base ["_law_value", "_law_lengths", "_law_number"] "_law_good" (defScope s__law_good) f cdv A outer s H E).K := T.kf
  exact ⟨_, (pssd_cons (psd_set (i := 1) nd rfl (by first | exact .inl rfl | exact .inr rfl) (pd_dict (ps := dt__law_good_0) (pps_str_int (pps_str_int (pps_str_int (pps_str_int (pps_str_int (pps_str_int (pps_str_int (pps_str_int (pps_str_int (pps_str_int pps_end))))))))))))
    (pssd_cons (psd_if (PWD.pt (pwd_or (ptd_not (ptd_truth (pd_isi (T := "tuple") (pd_var (pv 0)) (by rfl) T.b_isinstance (by rfl) T.b_tuple bb_tuple))) (pwd_or (ptd_cmp (op_eqX hu) opD_eq (pd_callB call_len_seq callD_len (by rfl) T.b_len bb_len (pad_cons (pd_var (pv 0)) pad_nil)) pd_int (nomark _)) (pwd_or1 (ptd_not (ptd_truth (pd_isi (T := "str") (pd_ix ixR_D opD_ix (pd_var (pv 0)) pd_int (fun _ _ => rfl)) (by rfl) T.b_isinstance (by rfl) T.b_str bb_str))))))) (pssd_one (psd_ret pd_bl)) pssd_nil)
    (pssd_cons (psd_if (ptd_cmp (op_neX hu) opD_ne (pd_dget2 hu1 (pd_var (pv 1)) (pd_ix ixR_D opD_ix (pd_var (pv 0)) pd_int (fun _ _ => rfl)) pd_int) (pd_callB call_len_seq callD_len (by rfl) T.b_len bb_len (pad_cons (pd_var (pv 0)) pad_nil)) (nomark _)) (pssd_one (psd_ret pd_bl)) pssd_nil)
    (pssd_cons (psd_if (PWD.pt (pwd_and (ptd_cmp (op_neX hu) opD_ne (pd_ix ixR_D opD_ix (pd_var (pv 0)) pd_int (fun _ _ => rfl)) pd_str (nomark _)) (pwd_and1 (ptd_cmp (op_neX hu) opD_ne (pd_ix ixR_D opD_ix (pd_var (pv 0)) pd_int (fun _ _ => rfl)) pd_str (nomark _))))) (pssd_one (psd_ret pd_bl)) pssd_nil)
    (pssd_cons (psd_set (i := 2) nd rfl (by first | exact .inl rfl | exact .inr rfl) (pd_ix ixR_D opD_ix (pd_var (pv 0)) (pd_neg pd_int) (fun _ _ => rfl)))
    (pssd_one (psd_ret (pd_and (pd_isi (T := "int") (pd_var (pv 2)) (by rfl) T.b_isinstance (by rfl) T.b_int bb_int) (pd_and (pd_not (pd_isi (T := "bool") (pd_var (pv 2)) (by rfl) T.b_isinstance (by rfl) T.b_bool bb_bool)) (pd_one (pd_chain op_le opD_le op_le opD_le pd_int (pd_var (pv 2)) (pd_ifExp (ptd_cmp (op_eqX hu) opD_eq (pd_ix ixR_D opD_ix (pd_var (pv 0)) pd_int (fun _ _ => rfl)) pd_str (nomark _)) pd_int pd_int))))))))))))⟩
theorem sc__law_within : FnScope ["_law_value"] ["_law_value"] (defScope s__law_within) := ⟨rfl, rfl, rfl, by decide +kernel, rfl, by decide +kernel, by decide +kernel⟩
def g__law_within : GS := (gSeq (gIf (gBool (gBin dEq (gBin dIx (gVar 0) (gC (.int 0))) (gC (.str (PySem.Str.ofString "whole"))))) (gRet (gDisp .list gaNil)) gSkip)
    (gRet (gIfE (gBool (gBin dEq (gBin dIx (gVar 0) (gC (.int 0))) (gC (.str (PySem.Str.ofString "power"))))) (gDisp .list (gaCons (gBin dIx (gVar 0) (gC (.int 1))) gaNil)) (gCall dToLst (gaCons (gSlice (gVar 0) (gPart (gC (.int 1))) gNoPart) gaNil)))))
def G__law_within : GF := gFn 1 g__law_within
theorem d__law_within (T : Txt P w F mg base K) : DefOk P w F mg base K "_law_within" 1 1 G__law_within := by
  obtain ⟨f, fd, Fn, hm, hb⟩ := T.f__law_within
  refine ⟨f, fd, ["_law_value"], ok_def (N := ["_law_value"]) (g := g__law_within) Fn sc__law_within ?body, hm, Fn.kp, hb⟩
  intro cdv A outer s H E hr
  have nd := sc__law_within.nd
  have hu := hr.units
  have hu1 := Nat.lt_of_le_of_lt (Nat.add_le_add_left (by decide : 1 ≤ 64) _) hu
  have tk : Takes (cxOf (L2.CX P w) P w F mg base ["_law_value"] "_law_within" (defScope s__law_within) f cdv A outer s H E) (fun cls d _ H => E cls d H) := takes_of rfl rfl rfl rfl
  have hx : Passes (L2.CX P w) (cxOf (L2.CX P w) P w F mg base ["_law_value"] "_law_within" (defScope s__law_within) f cdv A outer s H E) E := passes_call tk fun _ _ _ _ h => h
  have hp : PassesOwn (model P w) (cxOf (L2.CX P w) P w F mg base ["_law_value"] "_law_within" (defScope s__law_within) f cdv A outer s H E).A (cxOf (L2.CX P w) P w F mg base ["_law_value"] "_law_within" (defScope s__law_within) f cdv A outer s H E).env (cxOf (L2.CX P w) P w F mg base ["_law_value"] "_law_within" (defScope s__law_within) f cdv A outer s H E).xe := passes_of rfl
  have hc : (cxOf (L2.CX P w) P w F mg base ["_law_value"] "_law_within" (defScope s__law_within) f cdv A outer s H E).calm = true := rfl
  have hKF : K.F = (cxOf (L2.CX P w) P w F mg base ["_law_value"] "_law_within" (defScope s__law_within) f cdv A outer s H E).K := T.kf
  exact ⟨_, (pssd_cons (psd_if (ptd_cmp (op_eqX hu) opD_eq (pd_ix ixR_D opD_ix (pd_var (pv 0)) pd_int (fun _ _ => rfl)) pd_str (nomark _)) (pssd_one (psd_ret (pd_lst pad_nil))) pssd_nil)
    (pssd_one (psd_ret (pd_ifExp (ptd_cmp (op_eqX hu) opD_eq (pd_ix ixR_D opD_ix (pd_var (pv 0)) pd_int (fun _ _ => rfl)) pd_str (nomark _)) (pd_lst (pad_cons (pd_ix ixR_D opD_ix (pd_var (pv 0)) pd_int (fun _ _ => rfl)) pad_nil)) (pd_callTy call_list_of callD_list (by rfl) T.b_list bb_list (pad_cons (pd_slice (pd_var (pv 0)) (pod_some pd_int) pod_none) pad_nil))))))⟩
theorem sc__law_is_term : FnScope ["_law_value", "_law_high", "_law_level", "_law_count", "_law_below", "_law_one"] ["_law_value"] (defScope s__law_is_term) := ⟨rfl, rfl, rfl, by decide +kernel, rfl, by decide +kernel, by decide +kernel⟩
def le__law_is_term_0 : GE := (gC (.int 1))
def lt__law_is_term_0 : GT := (gNot (gTru (gApp 1 G__law_good (gaCons (gVar 5) gaNil))))
def fb__law_is_term_0 : GS := (gExt 4 (gApp 1 G__law_within (gaCons (gVar 5) gaNil)))
def ta__law_is_term_0 : GS := (gSeq (gIf (gBool (gBin dEq (gCall dLen (gaCons (gVar 4) gaNil)) (gC (.int 0)))) (gRet (gC (.bool true))) gSkip)
    (gSet 2 (gVar 4)))
def fb__law_is_term_1 : GS := (gSeq (gSet 3 (gBin dAdd (gVar 3) (gCall dLen (gaCons (gVar 2) gaNil))))
    (gSeq (gIf (gOr (gBool (gBin (fB0 fun i j => decide (j < i)) (gVar 3) (gC (.int 20000)))) (gBool (gBin dNe (gL (gLc (giSeq (gVar 2)) [5] (ggName 5) lt__law_is_term_0 le__law_is_term_0)) (gDisp .list gaNil)))) (gRet (gC (.bool false))) gSkip)
    (gSeq (gSetO 4 (gfDisp gaNil))
    (gSeq (gFor (giSeq (gVar 2)) (ggName 5) fb__law_is_term_0)
    (gFrz 4 ta__law_is_term_0)))))
def g__law_is_term : GS := (gSeq (gPar 2 3 (gaCons (gDisp .list (gaCons (gVar 0) gaNil)) (gaCons (gC (.int 0)) gaNil)))
    (gSeq (gFor (giArg dRng1 (gaCons (gC (.int 60)) gaNil)) (ggName 1) fb__law_is_term_1)
    (gRet (gC (.bool false)))))
def G__law_is_term : GF := gFn 6 g__law_is_term
theorem d__law_is_term (T : Txt P w F mg base K) : DefOk P w F mg base K "_law_is_term" 2 1 G__law_is_term := by
  obtain ⟨f, fd, Fn, hm, hb⟩ := T.f__law_is_term
  refine ⟨f, fd, ["_law_value"], ok_def (N := ["_law_value", "_law_high", "_law_level", "_law_count", "_law_below", "_law_one"]) (g := g__law_is_term) Fn sc__law_is_term ?body, hm, Fn.kp, hb⟩
  intro cdv A outer s H E hr
  have nd := sc__law_is_term.nd
  have hu := hr.units
  have hu1 := Nat.lt_of_le_of_lt (Nat.add_le_add_left (by decide : 1 ≤ 64) _) hu
  have tk : Takes (cxOf (L2.CX P w) P w F mg base ["_law_value", "_law_high", "_law_level", "_law_count", "_law_below", "_law_one"] "_law_is_term" (defScope s__law_is_term) f cdv A outer s H E) (fun cls d _ H => E cls d H) := takes_of rfl rfl rfl rfl
  have hx : Passes (L2.CX P w) (cxOf (L2.CX P w) P w F mg base ["_law_value", "_law_high", "_law_level", "_law_count", "_law_below", "_law_one"] "_law_is_term" (defScope s__law_is_term) f cdv A outer s H E) E := passes_call tk fun _ _ _ _ h => h
  have hp : PassesOwn (model P w) (cxOf (L2.CX P w) P w F mg base ["_law_value", "_law_high", "_law_level", "_law_count", "_law_below", "_law_one"] "_law_is_term" (defScope s__law_is_term) f cdv A outer s H E).A (cxOf (L2.CX P w) P w F mg base ["_law_value", "_law_high", "_law_level", "_law_count", "_law_below", "_law_one"] "_law_is_term" (defScope s__law_is_term) f cdv A outer s H E).env (cxOf (L2.CX P w) P w F mg base ["_law_value", "_law_high", "_law_level", "_law_count", "_law_below", "_law_one"] "_law_is_term" (defScope s__law_is_term) f cdv A outer s H E).xe := passes_of rfl
  have hc : (cxOf (L2.CX P w) P w F mg base ["_law_value", "_law_high", "_law_level", "_law_count", "_law_below", "_law_one"] "_law_is_term" (defScope s__law_is_term) f cdv A outer s H E).calm = true := rfl
  have hKF : K.F = (cxOf (L2.CX P w) P w F mg base ["_law_value", "_law_high", "_law_level", "_law_count", "_law_below", "_law_one"] "_law_is_term" (defScope s__law_is_term) f cdv A outer s H E).K := T.kf
  exact ⟨_, (pssd_cons (psd_par (i := 2) (j := 3) hc nd rfl rfl (by decide) rfl rfl (pad_cons (pd_lst (pad_cons (pd_var (pv 0)) pad_nil)) (pad_cons pd_int pad_nil)))
    (pssd_cons (psd_for hp hc (pid_rng1 (by rfl) T.b_range (pad_cons pd_int pad_nil)) (pgd_name (i := 1) nd rfl (by first | exact .inl rfl | exact .inr rfl)) (pssd_cons (psd_set (i := 3) nd rfl (by first | exact .inl rfl | exact .inr rfl) (pd_op op_addD opD_add (pd_var (pv 3)) (pd_callB call_len_seq callD_len (by rfl) T.b_len bb_len (pad_cons (pd_var (pv 2)) pad_nil))))
    (pssd_cons (psd_if (PWD.pt (pwd_or (ptd_cmp op_gt opD_gt (pd_var (pv 3)) pd_int (nomark _)) (pwd_or1 (ptd_cmp (op_neX hu) opD_ne (PFD.toD (pf_lc (own := [("_law_one", 5)]) (ws := [5]) hc nd (pid_seq (pd_var (pv 2))) (blkOk_by (N := ["_law_value", "_law_high", "_law_level", "_law_count", "_law_below", "_law_one"]) (sc := defScope s__law_is_term) (by decide +kernel)) (fun _ _ _ _ _ => ⟨_, by exact (pgd_name (i := 5) nd rfl (by first | exact .inl rfl | exact .inr rfl))⟩) (fun _ _ _ _ _ => ⟨_, by exact (ptsd_one (ptd_not (ptd_truth (pd_callD (d__law_good T) (hr.mono (by decide)) (by rfl) passL (pad_cons (pd_var (pv 5)) pad_nil)))))⟩) (fun _ _ _ _ _ => ⟨_, by exact pd_int⟩))) (pd_lst pad_nil) (nomark _))))) (pssd_one (psd_ret pd_bl)) pssd_nil)
    (pssd_cons (psd_setO (i := 4) nd rfl (by first | exact .inl rfl | exact .inr rfl) (pf_lst pad_nil))
    (pssd_cons (psd_for hp hc (pid_seq (pd_var (pv 2))) (pgd_name (i := 5) nd rfl (by first | exact .inl rfl | exact .inr rfl)) (pssd_one (psd_extend (pv 4) (pd_callD (d__law_within T) (hr.mono (by decide)) (by rfl) hx (pad_cons (pd_var (pv 5)) pad_nil)) (fun h => pe_bm PySem.F.plainAttrs_list PySem.F.slot_list_extend PySem.F.type_list_extend mt_extD (pv 4) h))))
    (pssd_frz 4 (pssd_cons (psd_if (ptd_cmp (op_eqX hu) opD_eq (pd_callB call_len_seq callD_len (by rfl) T.b_len bb_len (pad_cons (pd_var (pv 4)) pad_nil)) pd_int (nomark _)) (pssd_one (psd_ret pd_bl)) pssd_nil)
    (pssd_one (psd_set (i := 2) nd rfl (by first | exact .inl rfl | exact .inr rfl) (pd_var (pv 4)))))))))))
    (pssd_one (psd_ret pd_bl))))⟩
theorem sc__law_same : FnScope ["_law_one", "_law_other"] ["_law_one", "_law_other"] (defScope s__law_same) := ⟨rfl, rfl, rfl, by decide +kernel, rfl, by decide +kernel, by decide +kernel⟩
def g__law_same : GS := (gRet (gBin dEq (gCall dRep (gaCons (gVar 0) gaNil)) (gCall dRep (gaCons (gVar 1) gaNil))))
def G__law_same : GF := gFn 2 g__law_same
theorem d__law_same (T : Txt P w F mg base K) : DefG P w F mg base K "_law_same" 1 2 G__law_same := by
  obtain ⟨f, fd, Fn, hm, hb⟩ := T.f__law_same
  refine ⟨f, fd, ["_law_one", "_law_other"], ok_defG (N := ["_law_one", "_law_other"]) (g := g__law_same) Fn sc__law_same ?body, hm, Fn.kp, hb⟩
  intro cdv A hgu outer s H E hr
  have nd := sc__law_same.nd
  have hu := hr.units
  have hu1 := Nat.lt_of_le_of_lt (Nat.add_le_add_left (by decide : 1 ≤ 64) _) hu
  have tk : Takes (cxOf (L2.CX P w) P w F mg base ["_law_one", "_law_other"] "_law_same" (defScope s__law_same) f cdv A outer s H E) (fun cls d _ H => E cls d H) := takes_of rfl rfl rfl rfl
  have hx : Passes (L2.CX P w) (cxOf (L2.CX P w) P w F mg base ["_law_one", "_law_other"] "_law_same" (defScope s__law_same) f cdv A outer s H E) E := passes_call tk fun _ _ _ _ h => h
  have hp : PassesOwn (model P w) (cxOf (L2.CX P w) P w F mg base ["_law_one", "_law_other"] "_law_same" (defScope s__law_same) f cdv A outer s H E).A (cxOf (L2.CX P w) P w F mg base ["_law_one", "_law_other"] "_law_same" (defScope s__law_same) f cdv A outer s H E).env (cxOf (L2.CX P w) P w F mg base ["_law_one", "_law_other"] "_law_same" (defScope s__law_same) f cdv A outer s H E).xe := passes_of rfl
  have hc : (cxOf (L2.CX P w) P w F mg base ["_law_one", "_law_other"] "_law_same" (defScope s__law_same) f cdv A outer s H E).calm = true := rfl
  have hKF : K.F = (cxOf (L2.CX P w) P w F mg base ["_law_one", "_law_other"] "_law_same" (defScope s__law_same) f cdv A outer s H E).K := T.kf
  exact ⟨_, (pssd_one (psd_ret (pd_cmp (op_eqX hu) opD_eq (pd_callB (cr_rep hu hgu) callD_rep (by rfl) T.b_repr bb_repr (pad_cons (pd_var (pv 0)) pad_nil)) (pd_callB (cr_rep hu hgu) callD_rep (by rfl) T.b_repr bb_repr (pad_cons (pd_var (pv 1)) pad_nil)) (nomark _))))⟩
theorem sc__law_size : FnScope ["_law_term", "_law_above", "_law_below", "_law_more", "_law_less"] ["_law_term"] (defScope s__law_size) := ⟨rfl, rfl, rfl, by decide +kernel, rfl, by decide +kernel, by decide +kernel⟩
def ta__law_size_0 (self : GF) : GS := (gSeq (gIf (gBool (gBin dEq (gBin dIx (gVar 0) (gC (.int 0))) (gC (.str (PySem.Str.ofString "times"))))) (gRet (gDisp .tuple (gaCons (gBin dAdd (gVar 1) (gVar 3)) (gaCons (gBin dAdd (gVar 2) (gVar 4)) gaNil)))) gSkip)
    (gSeq (gIf (gBool (gBin dEq (gBin dIx (gVar 0) (gC (.int 0))) (gC (.str (PySem.Str.ofString "over"))))) (gRet (gDisp .tuple (gaCons (gBin dAdd (gVar 1) (gVar 4)) (gaCons (gBin dAdd (gVar 2) (gVar 3)) gaNil)))) gSkip)
    (gRet (gDisp .tuple (gaCons (gCall dMax2 (gaCons (gBin dAdd (gVar 1) (gVar 4)) (gaCons (gBin dAdd (gVar 2) (gVar 3)) gaNil))) (gaCons (gBin dAdd (gVar 2) (gVar 4)) gaNil))))))
def ta__law_size_1 (self : GF) : GS := (gSeq (gAsg (gApp 1 self (gaCons (gBin dIx (gVar 0) (gC (.int 2))) gaNil)) (ggTup 2 (ggCons (ggName 3) (ggCons (ggName 4) ggNil))))
    (ta__law_size_0 self))
def ta__law_size_2 (self : GF) : GS := (gSeq (gIf (gBool (gBin dEq (gBin dIx (gVar 0) (gC (.int 0))) (gC (.str (PySem.Str.ofString "power"))))) (gRet (gDisp .tuple (gaCons (gBin dMul (gVar 1) (gBin dIx (gVar 0) (gC (.int 2)))) (gaCons (gBin dMul (gVar 2) (gBin dIx (gVar 0) (gC (.int 2)))) gaNil)))) gSkip)
    (ta__law_size_1 self))
def ta__law_size_3 (self : GF) : GS := (gSeq (gIf (gBool (gBin dEq (gBin dIx (gVar 0) (gC (.int 0))) (gC (.str (PySem.Str.ofString "negative"))))) (gRet (gDisp .tuple (gaCons (gVar 1) (gaCons (gVar 2) gaNil)))) gSkip)
    (ta__law_size_2 self))
def ta__law_size_4 (self : GF) : GS := (gSeq (gAsg (gApp 1 self (gaCons (gBin dIx (gVar 0) (gC (.int 1))) gaNil)) (ggTup 2 (ggCons (ggName 1) (ggCons (ggName 2) ggNil))))
    (ta__law_size_3 self))
def g__law_size (self : GF) : GS := (gSeq (gIf (gBool (gBin dEq (gBin dIx (gVar 0) (gC (.int 0))) (gC (.str (PySem.Str.ofString "whole"))))) (gRet (gDisp .tuple (gaCons (gC (.int 0)) (gaCons (gC (.int 0)) gaNil)))) gSkip)
    (gSeq (gIf (gOr (gBool (gBin dEq (gCall dLen (gaCons (gVar 0) gaNil)) (gC (.int 1)))) (gOr (gBool (gBin dEq (gBin dIx (gVar 0) (gC (.int 0))) (gC (.str (PySem.Str.ofString "log"))))) (gBool (gBin dEq (gBin dIx (gVar 0) (gC (.int 0))) (gC (.str (PySem.Str.ofString "exp"))))))) (gRet (gDisp .tuple (gaCons (gC (.int 1)) (gaCons (gC (.int 0)) gaNil)))) gSkip)
    (ta__law_size_4 self)))
def G__law_size : Nat → GF
  | 0 => gfStk
  | n + 1 => gFn 5 (g__law_size (G__law_size n))
theorem d__law_size (T : Txt P w F mg base K) : ∀ fuel : Nat, DefOk P w F mg base K "_law_size" (0 + fuel) 1 (G__law_size fuel)
  | 0 => by
    obtain ⟨f, fd, Fn, hm, hb⟩ := T.f__law_size
    exact defOk_stk (ps := ["_law_term"]) Fn hm hb
  | fuel + 1 => by
    obtain ⟨f, fd, Fn, hm, hb⟩ := T.f__law_size
    refine ⟨f, fd, ["_law_term"], ok_def (N := ["_law_term", "_law_above", "_law_below", "_law_more", "_law_less"]) (k := 0 + fuel) (g := g__law_size (G__law_size fuel)) Fn sc__law_size ?body, hm, Fn.kp, hb⟩
    intro cdv A outer s H E hr
    have nd := sc__law_size.nd
    have hu := hr.units
    have hu1 := Nat.lt_of_le_of_lt (Nat.add_le_add_left (by decide : 1 ≤ 64) _) hu
    have tk : Takes (cxOf (L2.CX P w) P w F mg base ["_law_term", "_law_above", "_law_below", "_law_more", "_law_less"] "_law_size" (defScope s__law_size) f cdv A outer s H E) (fun cls d _ H => E cls d H) := takes_of rfl rfl rfl rfl
    have hx : Passes (L2.CX P w) (cxOf (L2.CX P w) P w F mg base ["_law_term", "_law_above", "_law_below", "_law_more", "_law_less"] "_law_size" (defScope s__law_size) f cdv A outer s H E) E := passes_call tk fun _ _ _ _ h => h
    have hp : PassesOwn (model P w) (cxOf (L2.CX P w) P w F mg base ["_law_term", "_law_above", "_law_below", "_law_more", "_law_less"] "_law_size" (defScope s__law_size) f cdv A outer s H E).A (cxOf (L2.CX P w) P w F mg base ["_law_term", "_law_above", "_law_below", "_law_more", "_law_less"] "_law_size" (defScope s__law_size) f cdv A outer s H E).env (cxOf (L2.CX P w) P w F mg base ["_law_term", "_law_above", "_law_below", "_law_more", "_law_less"] "_law_size" (defScope s__law_size) f cdv A outer s H E).xe := passes_of rfl
    have hc : (cxOf (L2.CX P w) P w F mg base ["_law_term", "_law_above", "_law_below", "_law_more", "_law_less"] "_law_size" (defScope s__law_size) f cdv A outer s H E).calm = true := rfl
    have hKF : K.F = (cxOf (L2.CX P w) P w F mg base ["_law_term", "_law_above", "_law_below", "_law_more", "_law_less"] "_law_size" (defScope s__law_size) f cdv A outer s H E).K := T.kf
    exact ⟨_, (pssd_cons (psd_if (ptd_cmp (op_eqX hu) opD_eq (pd_ix ixR_D opD_ix (pd_var (pv 0)) pd_int (fun _ _ => rfl)) pd_str (nomark _)) (pssd_one (psd_ret (pd_tup (pad_cons pd_int (pad_cons pd_int pad_nil))))) pssd_nil)
    (pssd_cons (psd_if (PWD.pt (pwd_or (ptd_cmp (op_eqX hu) opD_eq (pd_callB call_len_seq callD_len (by rfl) T.b_len bb_len (pad_cons (pd_var (pv 0)) pad_nil)) pd_int (nomark _)) (pwd_or (ptd_cmp (op_eqX hu) opD_eq (pd_ix ixR_D opD_ix (pd_var (pv 0)) pd_int (fun _ _ => rfl)) pd_str (nomark _)) (pwd_or1 (ptd_cmp (op_eqX hu) opD_eq (pd_ix ixR_D opD_ix (pd_var (pv 0)) pd_int (fun _ _ => rfl)) pd_str (nomark _)))))) (pssd_one (psd_ret (pd_tup (pad_cons pd_int (pad_cons pd_int pad_nil))))) pssd_nil)
    (pssd_cons (psd_asg (pd_callD (d__law_size T fuel) (hr.mono (by omega)) (by rfl) hx (pad_cons (pd_ix ixR_D opD_ix (pd_var (pv 0)) pd_int (fun _ _ => rfl)) pad_nil)) (pgd_tup rfl (pgsd_cons (pgd_name (i := 1) nd rfl (by first | exact .inl rfl | exact .inr rfl)) (pgsd_cons (pgd_name (i := 2) nd rfl (by first | exact .inl rfl | exact .inr rfl)) pgsd_nil))))
    (pssd_cons (psd_if (ptd_cmp (op_eqX hu) opD_eq (pd_ix ixR_D opD_ix (pd_var (pv 0)) pd_int (fun _ _ => rfl)) pd_str (nomark _)) (pssd_one (psd_ret (pd_tup (pad_cons (pd_var (pv 1)) (pad_cons (pd_var (pv 2)) pad_nil))))) pssd_nil)
    (pssd_cons (psd_if (ptd_cmp (op_eqX hu) opD_eq (pd_ix ixR_D opD_ix (pd_var (pv 0)) pd_int (fun _ _ => rfl)) pd_str (nomark _)) (pssd_one (psd_ret (pd_tup (pad_cons (pd_op op_mulD opD_mul (pd_var (pv 1)) (pd_ix ixR_D opD_ix (pd_var (pv 0)) pd_int (fun _ _ => rfl))) (pad_cons (pd_op op_mulD opD_mul (pd_var (pv 2)) (pd_ix ixR_D opD_ix (pd_var (pv 0)) pd_int (fun _ _ => rfl))) pad_nil))))) pssd_nil)
    (pssd_cons (psd_asg (pd_callD (d__law_size T fuel) (hr.mono (by omega)) (by rfl) hx (pad_cons (pd_ix ixR_D opD_ix (pd_var (pv 0)) pd_int (fun _ _ => rfl)) pad_nil)) (pgd_tup rfl (pgsd_cons (pgd_name (i := 3) nd rfl (by first | exact .inl rfl | exact .inr rfl)) (pgsd_cons (pgd_name (i := 4) nd rfl (by first | exact .inl rfl | exact .inr rfl)) pgsd_nil))))
    (pssd_cons (psd_if (ptd_cmp (op_eqX hu) opD_eq (pd_ix ixR_D opD_ix (pd_var (pv 0)) pd_int (fun _ _ => rfl)) pd_str (nomark _)) (pssd_one (psd_ret (pd_tup (pad_cons (pd_op op_addD opD_add (pd_var (pv 1)) (pd_var (pv 3))) (pad_cons (pd_op op_addD opD_add (pd_var (pv 2)) (pd_var (pv 4))) pad_nil))))) pssd_nil)
    (pssd_cons (psd_if (ptd_cmp (op_eqX hu) opD_eq (pd_ix ixR_D opD_ix (pd_var (pv 0)) pd_int (fun _ _ => rfl)) pd_str (nomark _)) (pssd_one (psd_ret (pd_tup (pad_cons (pd_op op_addD opD_add (pd_var (pv 1)) (pd_var (pv 4))) (pad_cons (pd_op op_addD opD_add (pd_var (pv 2)) (pd_var (pv 3))) pad_nil))))) pssd_nil)
    (pssd_one (psd_ret (pd_tup (pad_cons (pd_callB (call_max2 rfl) callD_max2 (by rfl) T.b_max bb_max (pad_cons (pd_op op_addD opD_add (pd_var (pv 1)) (pd_var (pv 4))) (pad_cons (pd_op op_addD opD_add (pd_var (pv 2)) (pd_var (pv 3))) pad_nil))) (pad_cons (pd_op op_addD opD_add (pd_var (pv 2)) (pd_var (pv 4))) pad_nil)))))))))))))⟩
theorem sc__law_asked : FnScope ["_law_value", "_law_path_here", "_law_found", "_law_turn"] ["_law_value", "_law_path_here"] (defScope s__law_asked) := ⟨rfl, rfl, rfl, by decide +kernel, rfl, by decide +kernel, by decide +kernel⟩
def tr__law_asked_0 : GS := (gIf (gBool (gBin dEq (gVar 3) (gC (.int 0)))) (gApd 2 (gApp 1 G_parts_of (gaCons (gVar 0) gaNil))) (gIf (gBool (gBin dEq (gVar 3) (gC (.int 1)))) (gApd 2 (gApp 1 G_height_of (gaCons (gVar 0) gaNil))) (gIf (gBool (gBin dEq (gVar 3) (gC (.int 2)))) (gApd 2 (gApp 1 G_size_of (gaCons (gVar 0) gaNil))) (gApd 2 (gApp 2 G_part_at (gaCons (gVar 0) (gaCons (gVar 1) gaNil)))))))
def hd__law_asked_0 : GS := (gApd 2 (gC (.str (PySem.Str.ofString "InvalidPath"))))
def hd__law_asked_1 : GS := (gApd 2 (gC (.str (PySem.Str.ofString "InvalidTerm"))))
def hk__law_asked : Nat → GS := fun k => if k = 0 then hd__law_asked_1 else if k = 1 then hd__law_asked_0 else fun _ _ => .stuck
def fb__law_asked_0 : GS := (gTryW tr__law_asked_0 hk__law_asked)
def ta__law_asked_0 : GS := (gRet (gVar 2))
def g__law_asked : GS := (gSeq (gSetO 2 (gfDisp gaNil))
    (gSeq (gFor (giArg dRng1 (gaCons (gC (.int 4)) gaNil)) (ggName 3) fb__law_asked_0)
    (gFrz 2 ta__law_asked_0)))
def G__law_asked : GF := gFn 4 g__law_asked
theorem d__law_asked (T : Txt P w F mg base K) : DefOk P w F mg base K "_law_asked" 65 2 G__law_asked := by
  obtain ⟨f, fd, Fn, hm, hb⟩ := T.f__law_asked
  refine ⟨f, fd, ["_law_value", "_law_path_here"], ok_def (N := ["_law_value", "_law_path_here", "_law_found", "_law_turn"]) (g := g__law_asked) Fn sc__law_asked ?body, hm, Fn.kp, hb⟩
  intro cdv A outer s H E hr
  have nd := sc__law_asked.nd
  have hu := hr.units
  have hu1 := Nat.lt_of_le_of_lt (Nat.add_le_add_left (by decide : 1 ≤ 64) _) hu
  have tk : Takes (cxOf (L2.CX P w) P w F mg base ["_law_value", "_law_path_here", "_law_found", "_law_turn"] "_law_asked" (defScope s__law_asked) f cdv A outer s H E) (fun cls d _ H => E cls d H) := takes_of rfl rfl rfl rfl
  have hx : Passes (L2.CX P w) (cxOf (L2.CX P w) P w F mg base ["_law_value", "_law_path_here", "_law_found", "_law_turn"] "_law_asked" (defScope s__law_asked) f cdv A outer s H E) E := passes_call tk fun _ _ _ _ h => h
  have hp : PassesOwn (model P w) (cxOf (L2.CX P w) P w F mg base ["_law_value", "_law_path_here", "_law_found", "_law_turn"] "_law_asked" (defScope s__law_asked) f cdv A outer s H E).A (cxOf (L2.CX P w) P w F mg base ["_law_value", "_law_path_here", "_law_found", "_law_turn"] "_law_asked" (defScope s__law_asked) f cdv A outer s H E).env (cxOf (L2.CX P w) P w F mg base ["_law_value", "_law_path_here", "_law_found", "_law_turn"] "_law_asked" (defScope s__law_asked) f cdv A outer s H E).xe := passes_of rfl
  have hc : (cxOf (L2.CX P w) P w F mg base ["_law_value", "_law_path_here", "_law_found", "_law_turn"] "_law_asked" (defScope s__law_asked) f cdv A outer s H E).calm = true := rfl
  have hKF : K.F = (cxOf (L2.CX P w) P w F mg base ["_law_value", "_law_path_here", "_law_found", "_law_turn"] "_law_asked" (defScope s__law_asked) f cdv A outer s H E).K := T.kf
  exact ⟨_, (pssd_cons (psd_setO (i := 2) nd rfl (by first | exact .inl rfl | exact .inr rfl) (pf_lst pad_nil))
    (pssd_cons (psd_for hp hc (pid_rng1 (by rfl) T.b_range (pad_cons pd_int pad_nil)) (pgd_name (i := 3) nd rfl (by first | exact .inl rfl | exact .inr rfl)) (pssd_one (psd_tryW (g := tr__law_asked_0) (hk := hk__law_asked) rfl rfl nd (fun W pn xe tk hp => ⟨_, by exact (psw_if (fun E => (ptd_cmp (op_eqX hu) opD_eq (pd_var (pv 3)) pd_int (nomark _))) (psw_append (i := 2) (d_parts_of T) (hr.mono (by decide)) (by rfl) tk (fun E => (pad_cons (pd_var (pv 0)) pad_nil)) (fun h => pe_bm PySem.F.plainAttrs_list PySem.F.slot_list_append PySem.F.type_list_append mt_append (pv 2) h)) (psw_if (fun E => (ptd_cmp (op_eqX hu) opD_eq (pd_var (pv 3)) pd_int (nomark _))) (psw_append (i := 2) (d_height_of T) (hr.mono (by decide)) (by rfl) tk (fun E => (pad_cons (pd_var (pv 0)) pad_nil)) (fun h => pe_bm PySem.F.plainAttrs_list PySem.F.slot_list_append PySem.F.type_list_append mt_append (pv 2) h)) (psw_if (fun E => (ptd_cmp (op_eqX hu) opD_eq (pd_var (pv 3)) pd_int (nomark _))) (psw_append (i := 2) (d_size_of T) (hr.mono (by decide)) (by rfl) tk (fun E => (pad_cons (pd_var (pv 0)) pad_nil)) (fun h => pe_bm PySem.F.plainAttrs_list PySem.F.slot_list_append PySem.F.type_list_append mt_append (pv 2) h)) (psw_append (i := 2) (d_part_at T) (hr.mono (by decide)) (by rfl) tk (fun E => (pad_cons (pd_var (pv 0)) (pad_cons (pd_var (pv 1)) pad_nil))) (fun h => pe_bm PySem.F.plainAttrs_list PySem.F.slot_list_append PySem.F.type_list_append mt_append (pv 2) h)))))⟩) (ClOk.plain ⟨rfl, by decide, .inl T.g_InvalidTerm⟩ (su_const (K := K) (g := hd__law_asked_1) fun _ _ _ => ⟨_, pssd_one (psd_append (pv 2) pd_str (fun h => pe_bm PySem.F.plainAttrs_list PySem.F.slot_list_append PySem.F.type_list_append mt_append (pv 2) h))⟩) (ClOk.plain ⟨rfl, by decide, .inl T.g_InvalidPath⟩ (su_const (K := K) (g := hd__law_asked_0) fun _ _ _ => ⟨_, pssd_one (psd_append (pv 2) pd_str (fun h => pe_bm PySem.F.plainAttrs_list PySem.F.slot_list_append PySem.F.type_list_append mt_append (pv 2) h))⟩) ClOk.nil)) (fun k c H0 G0 σ H G ρ cu D d s hd z q => match k, z, q with
    | 0, z, q => by exact ⟨true, T.m_InvalidTerm_InvalidTerm, fun _ a ha => ⟨_, _, _, _, _, _, s, q⟩, (fun z => nomatch z)⟩
    | 1, z, q => by exact ⟨false, T.m_InvalidPath_InvalidTerm, (fun z => nomatch z), fun _ => ⟨true, T.m_InvalidPath_InvalidPath, fun _ a ha => ⟨_, _, _, _, _, _, s, q⟩, (fun z => nomatch z)⟩⟩
    | _ + 2, z, q => by obtain ⟨_, _, z⟩ := z; cases z))))
    (pssd_frz 2 (pssd_one (psd_ret (pd_var (pv 2)))))))⟩
theorem sc__law_at : FnScope ["_law_term", "_law_path_here", "_law_index", "_law_parts_here"] ["_law_term", "_law_path_here"] (defScope s__law_at) := ⟨rfl, rfl, rfl, by decide +kernel, rfl, by decide +kernel, by decide +kernel⟩
def fb__law_at_0 : GS := (gSeq (gSet 3 (gApp 1 G__law_parts (gaCons (gVar 0) gaNil)))
    (gSeq (gIf (gOr (gNot (gTru (gIsi "int" (gVar 2)))) (gOr (gTru (gIsi "bool" (gVar 2))) (gNot (gBool (gChain (fB0 fun i j => decide (i ≤ j)) (fB0 fun i j => decide (i < j)) (gC (.int 0)) (gVar 2) (gCall dLen (gaCons (gVar 3) gaNil))))))) (gRet (gC (.str (PySem.Str.ofString "InvalidPath")))) gSkip)
    (gSet 0 (gBin dIx (gVar 3) (gVar 2)))))
def g__law_at : GS := (gSeq (gIf (gNot (gTru (gIsi "tuple" (gVar 1)))) (gRet (gC (.str (PySem.Str.ofString "InvalidPath")))) gSkip)
    (gSeq (gFor (giSeq (gVar 1)) (ggName 2) fb__law_at_0)
    (gRet (gVar 0))))
def G__law_at : GF := gFn 4 g__law_at
theorem d__law_at (T : Txt P w F mg base K) : DefOk P w F mg base K "_law_at" 2 2 G__law_at := by
  obtain ⟨f, fd, Fn, hm, hb⟩ := T.f__law_at
  refine ⟨f, fd, ["_law_term", "_law_path_here"], ok_def (N := ["_law_term", "_law_path_here", "_law_index", "_law_parts_here"]) (g := g__law_at) Fn sc__law_at ?body, hm, Fn.kp, hb⟩
  intro cdv A outer s H E hr
  have nd := sc__law_at.nd
  have hu := hr.units
  have hu1 := Nat.lt_of_le_of_lt (Nat.add_le_add_left (by decide : 1 ≤ 64) _) hu
  have tk : Takes (cxOf (L2.CX P w) P w F mg base ["_law_term", "_law_path_here", "_law_index", "_law_parts_here"] "_law_at" (defScope s__law_at) f cdv A outer s H E) (fun cls d _ H => E cls d H) := takes_of rfl rfl rfl rfl
  have hx : Passes (L2.CX P w) (cxOf (L2.CX P w) P w F mg base ["_law_term", "_law_path_here", "_law_index", "_law_parts_here"] "_law_at" (defScope s__law_at) f cdv A outer s H E) E := passes_call tk fun _ _ _ _ h => h
  have hp : PassesOwn (model P w) (cxOf (L2.CX P w) P w F mg base ["_law_term", "_law_path_here", "_law_index", "_law_parts_here"] "_law_at" (defScope s__law_at) f cdv A outer s H E).A (cxOf (L2.CX P w) P w F mg base ["_law_term", "_law_path_here", "_law_index", "_law_parts_here"] "_law_at" (defScope s__law_at) f cdv A outer s H E).env (cxOf (L2.CX P w) P w F mg base ["_law_term", "_law_path_here", "_law_index", "_law_parts_here"] "_law_at" (defScope s__law_at) f cdv A outer s H E).xe := passes_of rfl
  have hc : (cxOf (L2.CX P w) P w F mg base ["_law_term", "_law_path_here", "_law_index", "_law_parts_here"] "_law_at" (defScope s__law_at) f cdv A outer s H E).calm = true := rfl
  have hKF : K.F = (cxOf (L2.CX P w) P w F mg base ["_law_term", "_law_path_here", "_law_index", "_law_parts_here"] "_law_at" (defScope s__law_at) f cdv A outer s H E).K := T.kf
  exact ⟨_, (pssd_cons (psd_if (ptd_not (ptd_truth (pd_isi (T := "tuple") (pd_var (pv 1)) (by rfl) T.b_isinstance (by rfl) T.b_tuple bb_tuple))) (pssd_one (psd_ret pd_str)) pssd_nil)
    (pssd_cons (psd_for hp hc (pid_seq (pd_var (pv 1))) (pgd_name (i := 2) nd rfl (by first | exact .inl rfl | exact .inr rfl)) (pssd_cons (psd_set (i := 3) nd rfl (by first | exact .inl rfl | exact .inr rfl) (pd_callD (d__law_parts T) (hr.mono (by decide)) (by rfl) hx (pad_cons (pd_var (pv 0)) pad_nil)))
    (pssd_cons (psd_if (PWD.pt (pwd_or (ptd_not (ptd_truth (pd_isi (T := "int") (pd_var (pv 2)) (by rfl) T.b_isinstance (by rfl) T.b_int bb_int))) (pwd_or (ptd_truth (pd_isi (T := "bool") (pd_var (pv 2)) (by rfl) T.b_isinstance (by rfl) T.b_bool bb_bool)) (pwd_or1 (ptd_not (ptd_chain op_le opD_le op_lt opD_lt pd_int (pd_var (pv 2)) (pd_callB call_len_seq callD_len (by rfl) T.b_len bb_len (pad_cons (pd_var (pv 3)) pad_nil)))))))) (pssd_one (psd_ret pd_str)) pssd_nil)
    (pssd_one (psd_set (i := 0) nd rfl (by first | exact .inl rfl | exact .inr rfl) (pd_ix ixR_D opD_ix (pd_var (pv 3)) (pd_var (pv 2)) (fun _ _ => rfl)))))))
    (pssd_one (psd_ret (pd_var (pv 0))))))⟩
theorem sc__law_exactly : FnScope ["_law_many", "_law_half"] ["_law_many"] (defScope s__law_exactly) := ⟨rfl, rfl, rfl, by decide +kernel, rfl, by decide +kernel, by decide +kernel⟩
def ta__law_exactly_0 (self : GF) : GS := (gRet (gDisp .tuple (gaCons (gC (.str (PySem.Str.ofString "plus"))) (gaCons (gVar 1) (gaCons (gVar 1) gaNil)))))
def ta__law_exactly_1 (self : GF) : GS := (gSeq (gSet 1 (gApp 1 self (gaCons (gBin (fI divOk fun i j => i.fdiv j) (gVar 0) (gC (.int 2))) gaNil)))
    (ta__law_exactly_0 self))
def ta__law_exactly_2 (self : GF) : GS := (gSeq (gIf (gBool (gBin dEq (gBin (fI modOk fun i j => i.fmod j) (gCall dToInt (gaCons (gVar 0) gaNil)) (gC (.int 2))) (gC (.int 0)))) (gRet (gDisp .tuple (gaCons (gC (.str (PySem.Str.ofString "negative"))) (gaCons (gApp 1 self (gaCons (gBin (fI0 fun i j => i - j) (gVar 0) (gC (.int 1))) gaNil)) gaNil)))) gSkip)
    (ta__law_exactly_1 self))
def g__law_exactly (self : GF) : GS := (gSeq (gIf (gBool (gBin dEq (gVar 0) (gC (.int 1)))) (gRet (gDisp .tuple (gaCons (gC (.str (PySem.Str.ofString "x"))) gaNil))) gSkip)
    (ta__law_exactly_2 self))
def G__law_exactly : Nat → GF
  | 0 => gfStk
  | n + 1 => gFn 2 (g__law_exactly (G__law_exactly n))
theorem d__law_exactly (T : Txt P w F mg base K) : ∀ fuel : Nat, DefOk P w F mg base K "_law_exactly" (0 + fuel) 1 (G__law_exactly fuel)
  | 0 => by
    obtain ⟨f, fd, Fn, hm, hb⟩ := T.f__law_exactly
    exact defOk_stk (ps := ["_law_many"]) Fn hm hb
  | fuel + 1 => by
    obtain ⟨f, fd, Fn, hm, hb⟩ := T.f__law_exactly
    refine ⟨f, fd, ["_law_many"], ok_def (N := ["_law_many", "_law_half"]) (k := 0 + fuel) (g := g__law_exactly (G__law_exactly fuel)) Fn sc__law_exactly ?body, hm, Fn.kp, hb⟩
    intro cdv A outer s H E hr
    have nd := sc__law_exactly.nd
    have hu := hr.units
    have hu1 := Nat.lt_of_le_of_lt (Nat.add_le_add_left (by decide : 1 ≤ 64) _) hu
    have tk : Takes (cxOf (L2.CX P w) P w F mg base ["_law_many", "_law_half"] "_law_exactly" (defScope s__law_exactly) f cdv A outer s H E) (fun cls d _ H => E cls d H) := takes_of rfl rfl rfl rfl
    have hx : Passes (L2.CX P w) (cxOf (L2.CX P w) P w F mg base ["_law_many", "_law_half"] "_law_exactly" (defScope s__law_exactly) f cdv A outer s H E) E := passes_call tk fun _ _ _ _ h => h
    have hp : PassesOwn (model P w) (cxOf (L2.CX P w) P w F mg base ["_law_many", "_law_half"] "_law_exactly" (defScope s__law_exactly) f cdv A outer s H E).A (cxOf (L2.CX P w) P w F mg base ["_law_many", "_law_half"] "_law_exactly" (defScope s__law_exactly) f cdv A outer s H E).env (cxOf (L2.CX P w) P w F mg base ["_law_many", "_law_half"] "_law_exactly" (defScope s__law_exactly) f cdv A outer s H E).xe := passes_of rfl
    have hc : (cxOf (L2.CX P w) P w F mg base ["_law_many", "_law_half"] "_law_exactly" (defScope s__law_exactly) f cdv A outer s H E).calm = true := rfl
    have hKF : K.F = (cxOf (L2.CX P w) P w F mg base ["_law_many", "_law_half"] "_law_exactly" (defScope s__law_exactly) f cdv A outer s H E).K := T.kf
    exact ⟨_, (pssd_cons (psd_if (ptd_cmp (op_eqX hu) opD_eq (pd_var (pv 0)) pd_int (nomark _)) (pssd_one (psd_ret (pd_tup (pad_cons pd_str pad_nil)))) pssd_nil)
    (pssd_cons (psd_if (ptd_cmp (op_eqX hu) opD_eq (pd_op op_modN opD_mod (pd_callTy call_int1 callD_int (by rfl) T.b_int bb_int (pad_cons (pd_var (pv 0)) pad_nil)) pd_int) pd_int (nomark _)) (pssd_one (psd_ret (pd_tup (pad_cons pd_str (pad_cons (pd_callD (d__law_exactly T fuel) (hr.mono (by omega)) (by rfl) hx (pad_cons (pd_op op_sub opD_sub (pd_var (pv 0)) pd_int) pad_nil)) pad_nil))))) pssd_nil)
    (pssd_cons (psd_set (i := 1) nd rfl (by first | exact .inl rfl | exact .inr rfl) (pd_callD (d__law_exactly T fuel) (hr.mono (by omega)) (by rfl) hx (pad_cons (pd_op op_divD opD_div (pd_var (pv 0)) pd_int) pad_nil)))
    (pssd_one (psd_ret (pd_tup (pad_cons pd_str (pad_cons (pd_var (pv 1)) (pad_cons (pd_var (pv 1)) pad_nil)))))))))⟩
end
end Prog

set_option Elab.async false
set_option linter.all false
set_option maxRecDepth 100000
set_option maxHeartbeats 4000000
set_option autoImplicit false
namespace Prog
open PySem PySem.Spec PyProof.Rows L2 DL
section
variable {P : Program} {w : World} {F : PySem.W.Frag} {mg : Str → Option Value} {base : Heap} {K : Kx}
theorem sc_law : FnScope ["_law_script", "_law_cup_here", "_law_term", "_law_path_here", "_law_turn", "_law_many"] ["_law_script"] (defScope s_law) := ⟨rfl, rfl, rfl, by decide +kernel, rfl, by decide +kernel, by decide +kernel⟩
def fb_law_0 : GS := (gSet 2 (gDisp .tuple (gaCons (gApp 2 G__law_some (gaCup 1 (gaCons (gDisp .list (gaCons (gC (.str (PySem.Str.ofString "negative"))) (gaCons (gC (.str (PySem.Str.ofString "exp"))) gaNil))) gaNil))) (gaCons (gVar 2) gaNil))))
def ta_law_0 : GS := (gRet (gApp 2 G__law_same (gaCons (gApp 2 G__law_asked (gaCons (gVar 2) (gaCons (gVar 3) gaNil))) (gaCons (gDisp .list (gaCons (gApp 1 G__law_parts (gaCons (gVar 2) gaNil)) (gaCons (gApp 1 G__law_height (gaCons (gVar 2) gaNil)) (gaCons (gApp 1 (G__law_size 62) (gaCons (gVar 2) gaNil)) (gaCons (gApp 2 G__law_at (gaCons (gVar 2) (gaCons (gVar 3) gaNil))) gaNil))))) gaNil))))
def ta_law_1 : GS := (gSeq (gIf (gNot (gTru (gApp 1 G__law_is_term (gaCons (gVar 2) gaNil)))) (gRet (gBin dEq (gApp 2 G__law_asked (gaCons (gVar 2) (gaCons (gVar 3) gaNil))) (gBin dMul (gDisp .list (gaCons (gC (.str (PySem.Str.ofString "InvalidTerm"))) gaNil)) (gC (.int 4))))) gSkip)
    ta_law_0)
def ta_law_2 : GS := (gSeq (gIf (gNot (gTru (gApp 2 G__law_same (gaCons (gApp 1 G_is_term (gaCons (gVar 2) gaNil)) (gaCons (gApp 1 G__law_is_term (gaCons (gVar 2) gaNil)) gaNil))))) (gRet (gC (.bool false))) gSkip)
    ta_law_1)
def ta_law_3 : GS := (gSeq (gIf (gBool (gBin dEq (gApp 2 G__law_roll (gaCup 1 (gaCons (gC (.int 3)) gaNil))) (gC (.int 0)))) (gSet 2 (gApp 3 (G__law_put 7) (gaCons (gVar 2) (gaCons (gApp 2 G__law_path (gaCup 1 (gaCons (gVar 2) gaNil))) (gaCons (gApp 1 G__law_odd (gaCup 1 gaNil)) gaNil))))) gSkip)
    ta_law_2)
def ta_law_4 : GS := (gSeq (gIf (gBool (gBin dEq (gApp 2 G__law_roll (gaCup 1 (gaCons (gC (.int 2)) gaNil))) (gC (.int 0)))) (gSet 3 (gApp 2 G__law_some (gaCup 1 (gaCons (gDisp .list (gaCons (gBin dAdd (gVar 3) (gDisp .tuple (gaCons (gC (.int 0)) gaNil))) (gaCons (gBin dAdd (gVar 3) (gDisp .tuple (gaCons (gC (.int 1)) gaNil))) (gaCons (gBin dAdd (gVar 3) (gDisp .tuple (gaCons (gC (.int 2)) gaNil))) (gaCons (gBin dAdd (gVar 3) (gDisp .tuple (gaCons (gUn dNeg (gC (.int 1))) gaNil))) (gaCons (gBin dAdd (gVar 3) (gDisp .tuple (gaCons (gC (.bool true)) gaNil))) (gaCons (gCall dToLst (gaCons (gVar 3) gaNil)) (gaCons (gC .none) (gaCons (gBin dAdd (gVar 3) (gDisp .tuple (gaCons (gC (.str (PySem.Str.ofString "x"))) gaNil))) (gaCons (gBin dMulT (gDisp .tuple (gaCons (gC (.int 0)) gaNil)) (gC (.int 61))) gaNil)))))))))) gaNil)))) gSkip)
    ta_law_3)
def ta_law_5 : GS := (gSeq (gSet 3 (gApp 2 G__law_path (gaCup 1 (gaCons (gVar 2) gaNil))))
    ta_law_4)
def ta_law_6 : GS := (gSeq (gIf (gBool (gBin dEq (gApp 2 G__law_roll (gaCup 1 (gaCons (gC (.int 40)) gaNil))) (gC (.int 0)))) (gSeq (gSet 5 (gApp 2 G__law_some (gaCup 1 (gaCons (gDisp .list (gaCons (gC (.int 16383)) (gaCons (gC (.int 20000)) (gaCons (gC (.int 20001)) (gaCons (gC (.int 32767)) gaNil))))) gaNil))))
    (gRet (gApp 2 G__law_same (gaCons (gApp 1 G_is_term (gaCons (gApp 1 (G__law_exactly 40) (gaCons (gVar 5) gaNil)) gaNil)) (gaCons (gBin (fB0 fun i j => decide (i ≤ j)) (gVar 5) (gC (.int 20000))) gaNil))))) gSkip)
    ta_law_5)
def ta_law_7 : GS := (gSeq (gIf (gBool (gBin dEq (gApp 2 G__law_roll (gaCup 1 (gaCons (gC (.int 12)) gaNil))) (gC (.int 0)))) (gFor (giArg dRng1 (gaCons (gApp 2 G__law_some (gaCup 1 (gaCons (gDisp .list (gaCons (gC (.int 50)) (gaCons (gBin (fI0 fun i j => i - j) (gC (.int 60)) (gApp 1 G__law_height (gaCons (gVar 2) gaNil))) (gaCons (gBin (fI0 fun i j => i - j) (gC (.int 61)) (gApp 1 G__law_height (gaCons (gVar 2) gaNil))) gaNil)))) gaNil))) gaNil)) (ggName 4) fb_law_0) gSkip)
    ta_law_6)
def g_law : GS := (gSeq (gSet 2 (gApp 4 (G__law_drawn 7) (gaCup 1 (gaCons (gApp 2 G__law_some (gaCup 1 (gaCons (gDisp .list (gaCons (gC (.int 1)) (gaCons (gC (.int 2)) (gaCons (gC (.int 3)) (gaCons (gC (.int 4)) (gaCons (gC (.int 5)) gaNil)))))) gaNil))) (gaCons (gDisp .list (gaCons (gC (.int 0)) (gaCons (gC (.int 1)) (gaCons (gC (.int 2)) (gaCons (gC (.int 3)) (gaCons (gC (.int 12)) gaNil)))))) (gaCons (gDisp .list (gaCons (gC (.str (PySem.Str.ofString "log"))) (gaCons (gC (.str (PySem.Str.ofString "exp"))) gaNil))) gaNil))))))
    ta_law_7)
theorem ok__law (T : Txt P w F mg base K) (hg : ∀ ns : List Int, ns.length ≤ 63 → ∃ cu, g_law (.un :: .cup :: List.replicate 4 .un) (cup0 (cell0 ns)) = .ok (.ret (.bool true)) cu) :
    ∃ (f : Addr) (fd : FuncData), FnG P w F mg base (L2.CX P w) 80 f fd ["_law_script"] (spLaw K F) ∧ mg "law" = some (.ref f) ∧ Binds F fd ["_law_script"] [] ∧ ∃ (oc : Value) (od : Option Addr) (osl : Array (Option Value)), F.lookup f = some ⟨oc, od, .func fd, osl⟩ := by
  obtain ⟨f, fd, Fn, hm, hb⟩ := T.f_law
  obtain ⟨fc, fdc, hcup, hmc, hkc, hbc⟩ := ok__law_cup T
  refine ⟨f, fd, ok_lawG (N := ["_law_script", "_law_cup_here", "_law_term", "_law_path_here", "_law_turn", "_law_many"]) (n := 4) Fn sc_law rfl rfl rfl (by first | exact .inl rfl | exact .inr rfl) (by first | exact .inl rfl | exact .inr (.inl rfl)) rfl rfl hcup hmc hkc hbc (by decide) (fun _ _ => rfl) ?body hg, hm, hb, let ⟨oc, od, _, _, _, _, _, _, osl, _, lk, _⟩ := Fn.ex; ⟨oc, od, osl, lk⟩⟩
  intro cdv A hgu outer s H E hr
  have nd := sc_law.nd
  have hu := hr.units
  have hu1 := Nat.lt_of_le_of_lt (Nat.add_le_add_left (by decide : 1 ≤ 64) _) hu
  have tk : Takes (cxOf (L2.CX P w) P w F mg base ["_law_script", "_law_cup_here", "_law_term", "_law_path_here", "_law_turn", "_law_many"] "law" (defScope s_law) f cdv A outer s H E) (fun cls d _ H => E cls d H) := takes_of rfl rfl rfl rfl
  have hx : Passes (L2.CX P w) (cxOf (L2.CX P w) P w F mg base ["_law_script", "_law_cup_here", "_law_term", "_law_path_here", "_law_turn", "_law_many"] "law" (defScope s_law) f cdv A outer s H E) E := passes_call tk fun _ _ _ _ h => h
  have hp : PassesOwn (model P w) (cxOf (L2.CX P w) P w F mg base ["_law_script", "_law_cup_here", "_law_term", "_law_path_here", "_law_turn", "_law_many"] "law" (defScope s_law) f cdv A outer s H E).A (cxOf (L2.CX P w) P w F mg base ["_law_script", "_law_cup_here", "_law_term", "_law_path_here", "_law_turn", "_law_many"] "law" (defScope s_law) f cdv A outer s H E).env (cxOf (L2.CX P w) P w F mg base ["_law_script", "_law_cup_here", "_law_term", "_law_path_here", "_law_turn", "_law_many"] "law" (defScope s_law) f cdv A outer s H E).xe := passes_of rfl
  have hc : (cxOf (L2.CX P w) P w F mg base ["_law_script", "_law_cup_here", "_law_term", "_law_path_here", "_law_turn", "_law_many"] "law" (defScope s_law) f cdv A outer s H E).calm = true := rfl
  have hKF : K.F = (cxOf (L2.CX P w) P w F mg base ["_law_script", "_law_cup_here", "_law_term", "_law_path_here", "_law_turn", "_law_many"] "law" (defScope s_law) f cdv A outer s H E).K := T.kf
  exact ⟨_, (pssd_cons (psd_set (i := 2) nd rfl (by first | exact .inl rfl | exact .inr rfl) (pd_callD (d__law_drawn T 7) (hr.mono (by decide)) (by rfl) hx (pad_cup (pv 1) (pad_cons (pd_callD (d__law_some T) (hr.mono (by decide)) (by rfl) hx (pad_cup (pv 1) (pad_cons (pd_lst (pad_cons pd_int (pad_cons pd_int (pad_cons pd_int (pad_cons pd_int (pad_cons pd_int pad_nil)))))) pad_nil))) (pad_cons (pd_lst (pad_cons pd_int (pad_cons pd_int (pad_cons pd_int (pad_cons pd_int (pad_cons pd_int pad_nil)))))) (pad_cons (pd_lst (pad_cons pd_str (pad_cons pd_str pad_nil))) pad_nil))))))
    (pssd_cons (psd_if (ptd_cmp (op_eqX hu) opD_eq (pd_callD (d__law_roll T) (hr.mono (by decide)) (by rfl) hx (pad_cup (pv 1) (pad_cons pd_int pad_nil))) pd_int (nomark _)) (pssd_one (psd_for hp hc (pid_rng1 (by rfl) T.b_range (pad_cons (pd_callD (d__law_some T) (hr.mono (by decide)) (by rfl) hx (pad_cup (pv 1) (pad_cons (pd_lst (pad_cons pd_int (pad_cons (pd_op op_sub opD_sub pd_int (pd_callD (d__law_height T) (hr.mono (by decide)) (by rfl) hx (pad_cons (pd_var (pv 2)) pad_nil))) (pad_cons (pd_op op_sub opD_sub pd_int (pd_callD (d__law_height T) (hr.mono (by decide)) (by rfl) hx (pad_cons (pd_var (pv 2)) pad_nil))) pad_nil)))) pad_nil))) pad_nil)) (pgd_name (i := 4) nd rfl (by first | exact .inl rfl | exact .inr rfl)) (pssd_one (psd_set (i := 2) nd rfl (by first | exact .inl rfl | exact .inr rfl) (pd_tup (pad_cons (pd_callD (d__law_some T) (hr.mono (by decide)) (by rfl) hx (pad_cup (pv 1) (pad_cons (pd_lst (pad_cons pd_str (pad_cons pd_str pad_nil))) pad_nil))) (pad_cons (pd_var (pv 2)) pad_nil))))))) pssd_nil)
    (pssd_cons (psd_if (ptd_cmp (op_eqX hu) opD_eq (pd_callD (d__law_roll T) (hr.mono (by decide)) (by rfl) hx (pad_cup (pv 1) (pad_cons pd_int pad_nil))) pd_int (nomark _)) (pssd_cons (psd_set (i := 5) nd rfl (by first | exact .inl rfl | exact .inr rfl) (pd_callD (d__law_some T) (hr.mono (by decide)) (by rfl) hx (pad_cup (pv 1) (pad_cons (pd_lst (pad_cons pd_int (pad_cons pd_int (pad_cons pd_int (pad_cons pd_int pad_nil))))) pad_nil))))
    (pssd_one (psd_ret (pd_callG (d__law_same T) hgu (hr.mono (by decide)) (by rfl) hx (pad_cons (pd_callD (d_is_term T) (hr.mono (by decide)) (by rfl) hx (pad_cons (pd_callD (d__law_exactly T 40) (hr.mono (by decide)) (by rfl) hx (pad_cons (pd_var (pv 5)) pad_nil)) pad_nil)) (pad_cons (pd_cmp op_le opD_le (pd_var (pv 5)) pd_int (nomark _)) pad_nil)))))) pssd_nil)
    (pssd_cons (psd_set (i := 3) nd rfl (by first | exact .inl rfl | exact .inr rfl) (pd_callD (d__law_path T) (hr.mono (by decide)) (by rfl) hx (pad_cup (pv 1) (pad_cons (pd_var (pv 2)) pad_nil))))
    (pssd_cons (psd_if (ptd_cmp (op_eqX hu) opD_eq (pd_callD (d__law_roll T) (hr.mono (by decide)) (by rfl) hx (pad_cup (pv 1) (pad_cons pd_int pad_nil))) pd_int (nomark _)) (pssd_one (psd_set (i := 3) nd rfl (by first | exact .inl rfl | exact .inr rfl) (pd_callD (d__law_some T) (hr.mono (by decide)) (by rfl) hx (pad_cup (pv 1) (pad_cons (pd_lst (pad_cons (pd_op op_addD opD_add (pd_var (pv 3)) (pd_tup (pad_cons pd_int pad_nil))) (pad_cons (pd_op op_addD opD_add (pd_var (pv 3)) (pd_tup (pad_cons pd_int pad_nil))) (pad_cons (pd_op op_addD opD_add (pd_var (pv 3)) (pd_tup (pad_cons pd_int pad_nil))) (pad_cons (pd_op op_addD opD_add (pd_var (pv 3)) (pd_tup (pad_cons (pd_neg pd_int) pad_nil))) (pad_cons (pd_op op_addD opD_add (pd_var (pv 3)) (pd_tup (pad_cons pd_bl pad_nil))) (pad_cons (pd_callTy call_list_of callD_list (by rfl) T.b_list bb_list (pad_cons (pd_var (pv 3)) pad_nil)) (pad_cons pd_non (pad_cons (pd_op op_addD opD_add (pd_var (pv 3)) (pd_tup (pad_cons pd_str pad_nil))) (pad_cons (pd_op op_mulDT opD_mulT (pd_tup (pad_cons pd_int pad_nil)) pd_int) pad_nil)))))))))) pad_nil))))) pssd_nil)
    (pssd_cons (psd_if (ptd_cmp (op_eqX hu) opD_eq (pd_callD (d__law_roll T) (hr.mono (by decide)) (by rfl) hx (pad_cup (pv 1) (pad_cons pd_int pad_nil))) pd_int (nomark _)) (pssd_one (psd_set (i := 2) nd rfl (by first | exact .inl rfl | exact .inr rfl) (pd_callD (d__law_put T 7) (hr.mono (by decide)) (by rfl) hx (pad_cons (pd_var (pv 2)) (pad_cons (pd_callD (d__law_path T) (hr.mono (by decide)) (by rfl) hx (pad_cup (pv 1) (pad_cons (pd_var (pv 2)) pad_nil))) (pad_cons (pd_callD (d__law_odd T) (hr.mono (by decide)) (by rfl) hx (pad_cup (pv 1) pad_nil)) pad_nil)))))) pssd_nil)
    (pssd_cons (psd_if (ptd_not (ptd_truth (pd_callG (d__law_same T) hgu (hr.mono (by decide)) (by rfl) hx (pad_cons (pd_callD (d_is_term T) (hr.mono (by decide)) (by rfl) hx (pad_cons (pd_var (pv 2)) pad_nil)) (pad_cons (pd_callD (d__law_is_term T) (hr.mono (by decide)) (by rfl) hx (pad_cons (pd_var (pv 2)) pad_nil)) pad_nil))))) (pssd_one (psd_ret pd_bl)) pssd_nil)
    (pssd_cons (psd_if (ptd_not (ptd_truth (pd_callD (d__law_is_term T) (hr.mono (by decide)) (by rfl) hx (pad_cons (pd_var (pv 2)) pad_nil)))) (pssd_one (psd_ret (pd_cmp (op_eqX hu) opD_eq (pd_callD (d__law_asked T) (hr.mono (by decide)) (by rfl) hx (pad_cons (pd_var (pv 2)) (pad_cons (pd_var (pv 3)) pad_nil))) (pd_op op_mulD opD_mul (pd_lst (pad_cons pd_str pad_nil)) pd_int) (nomark _)))) pssd_nil)
    (pssd_one (psd_ret (pd_callG (d__law_same T) hgu (hr.mono (by decide)) (by rfl) hx (pad_cons (pd_callD (d__law_asked T) (hr.mono (by decide)) (by rfl) hx (pad_cons (pd_var (pv 2)) (pad_cons (pd_var (pv 3)) pad_nil))) (pad_cons (pd_lst (pad_cons (pd_callD (d__law_parts T) (hr.mono (by decide)) (by rfl) hx (pad_cons (pd_var (pv 2)) pad_nil)) (pad_cons (pd_callD (d__law_height T) (hr.mono (by decide)) (by rfl) hx (pad_cons (pd_var (pv 2)) pad_nil)) (pad_cons (pd_callD (d__law_size T 62) (hr.mono (by decide)) (by rfl) hx (pad_cons (pd_var (pv 2)) pad_nil)) (pad_cons (pd_callD (d__law_at T) (hr.mono (by decide)) (by rfl) hx (pad_cons (pd_var (pv 2)) (pad_cons (pd_var (pv 3)) pad_nil))) pad_nil))))) pad_nil)))))))))))))⟩
end
end Prog

set_option Elab.async false
set_option linter.all false
set_option maxRecDepth 100000
set_option maxHeartbeats 0
set_option autoImplicit false
namespace Prog
open PySem PySem.Spec PyProof.Rows L2 DL
def CLs : List Str := ["InvalidTerm", "InvalidPath"]
def LMs : List (Option Int) := [none, none]
def kxOf (K : PySem.W.Frag) : Kx := ⟨[], fun i => He.ga K (CLs.getD i ""), K, fun i => LMs.getD i none⟩
theorem txtH {P : Program} {w : World} {F : PySem.W.Frag} {mg : Str → Option Value} {h base : Heap} (S : SaysE faH fnH xsH bsH tsH exH dcH w F h) (G : h.Ns mainGlobals mg) (TB : ∀ x ∈ xsH, LamX.TabB base mg (tabP F x).1 (tabP F x).2) : Txt P w F mg base (kxOf F) where
  b_abs := He.free_ok S.kin G (S.facts.fact 0 rfl)
  b_len := He.free_ok S.kin G (S.facts.fact 1 rfl)
  b_isinstance := He.free_ok S.kin G (S.facts.fact 2 rfl)
  b_range := He.free_ok S.kin G (S.facts.fact 3 rfl)
  b_enumerate := He.free_ok S.kin G (S.facts.fact 4 rfl)
  b_int := He.free_ok S.kin G (S.facts.fact 5 rfl)
  b_bool := He.free_ok S.kin G (S.facts.fact 6 rfl)
  b_str := He.free_ok S.kin G (S.facts.fact 7 rfl)
  b_tuple := He.free_ok S.kin G (S.facts.fact 8 rfl)
  b_list := He.free_ok S.kin G (S.facts.fact 9 rfl)
  b_repr := He.free_ok S.kin G (S.facts.fact 10 rfl)
  b_max := He.free_ok S.kin G (S.facts.fact 11 rfl)
  kf := rfl
  c_GREATEST_WHOLE := He.int_ok S.kin G (S.facts.fact 12 rfl)
  c_GREATEST_EXPONENT := He.int_ok S.kin G (S.facts.fact 13 rfl)
  c_GREATEST_HEIGHT := He.int_ok S.kin G (S.facts.fact 14 rfl)
  c_MOST_TERMS := He.int_ok S.kin G (S.facts.fact 15 rfl)
  g_InvalidTerm := He.glo_ok S.kin G (S.facts.fact 16 rfl)
  g_InvalidPath := He.glo_ok S.kin G (S.facts.fact 17 rfl)
  x_InvalidTerm := (He.exc_ok (S.facts.fact 18 rfl)).1
  k_InvalidTerm := (He.exc_ok (S.facts.fact 18 rfl)).2.1
  s_InvalidTerm := (He.exc_ok (S.facts.fact 18 rfl)).2.2.1
  t_InvalidTerm := (He.exc_ok (S.facts.fact 18 rfl)).2.2.2
  m_InvalidTerm_InvalidTerm := He.exm_ok (S.facts.fact 19 rfl)
  x_InvalidPath := (He.exc_ok (S.facts.fact 20 rfl)).1
  k_InvalidPath := (He.exc_ok (S.facts.fact 20 rfl)).2.1
  s_InvalidPath := (He.exc_ok (S.facts.fact 20 rfl)).2.2.1
  t_InvalidPath := (He.exc_ok (S.facts.fact 20 rfl)).2.2.2
  m_InvalidPath_InvalidTerm := He.exm_ok (S.facts.fact 21 rfl)
  m_InvalidPath_InvalidPath := He.exm_ok (S.facts.fact 22 rfl)
  lm_InvalidTerm := rfl
  lm_InvalidPath := rfl
  d_MANY_PARTS := ⟨_, He.glo_ok S.kin G (S.facts.fact 23 rfl), kd_of (S.dc _ (List.mem_of_getElem? (i := 0) rfl)) (S.ex _ (List.mem_of_getElem? (i := 0) rfl))⟩
  f_is_integer := fun_ofA S.facts S.kin G 0 rfl 24 rfl (fun _ _ _ _ _ _ us hl => match us, hl with | [_], _ => rfl)
  f_is_integer_in := fun_ofA S.facts S.kin G 1 rfl 25 rfl (fun _ _ _ _ _ _ us hl => match us, hl with | [_, _, _], _ => rfl)
  f_has_sort := fun_ofA S.facts S.kin G 2 rfl 26 rfl (fun _ _ _ _ _ _ us hl => match us, hl with | [_], _ => rfl)
  f_parts_within := fun_ofA S.facts S.kin G 3 rfl 27 rfl (fun _ _ _ _ _ _ us hl => match us, hl with | [_], _ => rfl)
  f_is_built_within := fun_ofA S.facts S.kin G 4 rfl 28 rfl (fun _ _ _ _ _ _ us hl => match us, hl with | [_, _, _], _ => rfl)
  f_is_plain_term := fun_ofA S.facts S.kin G 5 rfl 29 rfl (fun _ _ _ _ _ _ us hl => match us, hl with | [_], _ => rfl)
  f_need_term := fun_ofA S.facts S.kin G 6 rfl 30 rfl (fun _ _ _ _ _ _ us hl => match us, hl with | [_], _ => rfl)
  f_height_within := fun_ofA S.facts S.kin G 7 rfl 31 rfl (fun _ _ _ _ _ _ us hl => match us, hl with | [_], _ => rfl)
  f_size_from_parts := fun_ofA S.facts S.kin G 8 rfl 32 rfl (fun _ _ _ _ _ _ us hl => match us, hl with | [_, _], _ => rfl)
  f_size_within := fun_ofA S.facts S.kin G 9 rfl 33 rfl (fun _ _ _ _ _ _ us hl => match us, hl with | [_], _ => rfl)
  f_is_term := fun_ofA S.facts S.kin G 10 rfl 34 rfl (fun _ _ _ _ _ _ us hl => match us, hl with | [_], _ => rfl)
  f_parts_of := fun_ofA S.facts S.kin G 11 rfl 35 rfl (fun _ _ _ _ _ _ us hl => match us, hl with | [_], _ => rfl)
  f_height_of := fun_ofA S.facts S.kin G 12 rfl 36 rfl (fun _ _ _ _ _ _ us hl => match us, hl with | [_], _ => rfl)
  f_size_of := fun_ofA S.facts S.kin G 13 rfl 37 rfl (fun _ _ _ _ _ _ us hl => match us, hl with | [_], _ => rfl)
  f_part_at := fun_ofA S.facts S.kin G 14 rfl 38 rfl (fun _ _ _ _ _ _ us hl => match us, hl with | [_, _], _ => rfl)
  f__law_cup := fun_ofA S.facts S.kin G 15 rfl 39 rfl (fun _ _ _ _ _ _ us hl => match us, hl with | [_], _ => rfl)
  f__law_roll := fun_ofA S.facts S.kin G 16 rfl 40 rfl (fun _ _ _ _ _ _ us hl => match us, hl with | [_, _], _ => rfl)
  f__law_some := fun_ofA S.facts S.kin G 17 rfl 41 rfl (fun _ _ _ _ _ _ us hl => match us, hl with | [_, _], _ => rfl)
  f__law_parts := fun_ofA S.facts S.kin G 18 rfl 42 rfl (fun _ _ _ _ _ _ us hl => match us, hl with | [_], _ => rfl)
  f__law_height := fun_ofA S.facts S.kin G 19 rfl 43 rfl (fun _ _ _ _ _ _ us hl => match us, hl with | [_], _ => rfl)
  f__law_drawn := fun_ofA S.facts S.kin G 20 rfl 44 rfl (fun _ _ _ _ _ _ us hl => match us, hl with | [_, _, _, _], _ => rfl)
  f__law_odd := fun_ofA S.facts S.kin G 21 rfl 45 rfl (fun _ _ _ _ _ _ us hl => match us, hl with | [_], _ => rfl)
  f__law_path := fun_ofA S.facts S.kin G 22 rfl 46 rfl (fun _ _ _ _ _ _ us hl => match us, hl with | [_, _], _ => rfl)
  f__law_put := fun_ofA S.facts S.kin G 23 rfl 47 rfl (fun _ _ _ _ _ _ us hl => match us, hl with | [_, _, _], _ => rfl)
  f__law_good := fun_ofA S.facts S.kin G 24 rfl 48 rfl (fun _ _ _ _ _ _ us hl => match us, hl with | [_], _ => rfl)
  f__law_within := fun_ofA S.facts S.kin G 25 rfl 49 rfl (fun _ _ _ _ _ _ us hl => match us, hl with | [_], _ => rfl)
  f__law_is_term := fun_ofA S.facts S.kin G 26 rfl 50 rfl (fun _ _ _ _ _ _ us hl => match us, hl with | [_], _ => rfl)
  f__law_same := fun_ofA S.facts S.kin G 27 rfl 51 rfl (fun _ _ _ _ _ _ us hl => match us, hl with | [_, _], _ => rfl)
  f__law_size := fun_ofA S.facts S.kin G 28 rfl 52 rfl (fun _ _ _ _ _ _ us hl => match us, hl with | [_], _ => rfl)
  f__law_asked := fun_ofA S.facts S.kin G 29 rfl 53 rfl (fun _ _ _ _ _ _ us hl => match us, hl with | [_, _], _ => rfl)
  f__law_at := fun_ofA S.facts S.kin G 30 rfl 54 rfl (fun _ _ _ _ _ _ us hl => match us, hl with | [_, _], _ => rfl)
  f__law_exactly := fun_ofA S.facts S.kin G 31 rfl 55 rfl (fun _ _ _ _ _ _ us hl => match us, hl with | [_], _ => rfl)
  f_law := fun_ofA S.facts S.kin G 32 rfl 56 rfl (fun _ _ _ _ _ _ us hl => match us, hl with | [_], _ => rfl)
end Prog
open PySem PySem.W PySem.Calls PyProof.Rows
theorem end_holds (hg : ∀ ns : List Int, ns.length ≤ 63 → ∃ cu, Prog.g_law (.un :: .cup :: List.replicate 4 .un) (DL.cup0 (DL.cell0 ns)) = .ok (.ret (.bool true)) cu) : PySem.Challenge.rw_towerback_k65_whole_terms.Holds := by
  w_on; o_law
  refine HandSHeadRun.head_any (r := OpenLaw.row PySem.Challenge.rw_towerback_k65_whole_terms) (q := view (OpenLaw.row PySem.Challenge.rw_towerback_k65_whole_terms).prog [45]) (H := Prog.hkH) (ob := Prog.obH) (M := 4000) (loose := Prog.looseH) (d := HandSHeadRun.topDef (OpenLaw.row PySem.Challenge.rw_towerback_k65_whole_terms).prog 45) (kwd := []) Prog.obH_eq
    (by kernel_rfl) (fun s => by kernel_rfl) Prog.runH (by kernel_rfl) (by kernel_rfl) (by kernel_rfl) (by rfl) (by first | assumption | decide +kernel) (by decide +kernel) ⟨rfl, rfl, rfl, rfl, rfl, by decide +kernel⟩ ?hw ?hc
  case hw => w_witness2
  case hc =>
    refine DL.walk_ofG (l := PySem.Challenge.rw_towerback_k65_whole_terms) (n := 63) (k := 80) (x := "_law_script") rfl (by decide) (by kernel_rfl) ⟨by decide, by decide, by decide⟩ ?F
    intro w mg fa h Y G hmg0
    obtain ⟨K, S⟩ := Y
    have hmg : mg ("law" : PySem.Str) = some (.ref fa) := by
      have e : (HandSHeadRun.topDef (OpenLaw.row PySem.Challenge.rw_towerback_k65_whole_terms).prog 45).name = ("law" : PySem.Str) := by kernel_rfl
      rw [← e]
      exact hmg0
    refine ⟨K, S.kin, ?_⟩
    obtain ⟨fd, F⟩ := S.facts.def_ 32 rfl
    have e := hmg.symm.trans (He.glo_ok S.kin G (S.facts.fact 56 rfl))
    cases e
    have b := L2.FunD.bindsA (ps := ["_law_script"]) F fun _ _ _ _ _ _ us hl => match us, hl with | [_], _ => rfl
    refine ⟨fd, DL.spLaw (Prog.kxOf K) K, fun s u => b s [u] rfl, fun H a ns hl hS => ⟨a, ns, rfl, hS, hl, fun p hp => absurd (show p ∈ ([] : List (Addr × PySem.Str)) from hp) (by simp), fun _ => rfl⟩, fun base KB GB => ?_⟩
    have T : Prog.Txt (PySem.Challenge.rw_towerback_k65_whole_terms).prog w K mg base (Prog.kxOf K) := Prog.txtH S G (fun x hx => absurd (show x ∈ ([] : List PySem.Str) from hx) (by simp))
    obtain ⟨f, fd', F', hm', hb', hlk⟩ := Prog.ok__law T hg
    have hm2 := hm'.symm.trans hmg
    cases hm2
    obtain ⟨oc, od, osl, lk'⟩ := hlk
    obtain ⟨oc2, od2, _, _, _, _, _, _, _, osl2, _, lk2, _⟩ := F.ex
    have lk2' : K.lookup (He.ga K "law") = some ⟨oc2, od2, .func fd, osl2⟩ := lk2
    have z := lk'.symm.trans lk2'
    have ef : fd' = fd := by
      have z1 := congrArg Obj.data (Option.some.inj z)
      cases z1; rfl
    subst ef
    exact F'

set_option Elab.async false
set_option linter.all false
set_option maxRecDepth 100000
set_option maxHeartbeats 4000000
set_option autoImplicit false
set_option exponentiation.threshold 4000
namespace Prog
open PySem PySem.Spec L2 DL
def rollC (cu : Cu) (m : Int) : Cu := if 0 < cu.1 then (cu.1.fdiv m, cu.2) else (cu.1, (cu.2 * 31039 + 7973).fmod 2147483543)
def rollY (cu : Cu) : Int := (cu.2 * 31039 + 7973).fmod 2147483543
def rollV (cu : Cu) (m : Int) : Int := if 0 < cu.1 then cu.1.fmod m else (((rollY cu * (rollY cu + 229)).fmod 2147483587).fdiv 821).fmod m
section
variable {cu : Cu} {m : Int} {zs : List Int}
theorem roll_lo (h : 1 ≤ m) : 0 ≤ rollV cu m := by
  unfold rollV
  split
  · exact fmod_lo (by omega)
  · exact fmod_lo (by omega)
theorem roll_hi (h : 1 ≤ m) : rollV cu m < m := by
  unfold rollV
  split
  · exact fmod_hi (by omega)
  · exact fmod_hi (by omega)
theorem e_roll (h : 1 ≤ m) (hs : Sm m) : G__law_roll [.cup, .dat (.int m)] cu = .ok (.int (rollV cu m)) (rollC cu m) := by
  have o1 : ∀ x : Int, modOk x m = true := fun x => modOk_b (by omega)
  have o2 : ∀ x : Int, divOk x m = true := fun x => divOk_sm (by omega) hs
  have o3 : mulOk cu.2 31039 = true := mulOk_r (by decide)
  have o4 : ∀ x : Int, modOk x 2147483543 = true := fun x => modOk_b (by decide)
  have o5 : ∀ x : Int, modOk x 2147483587 = true := fun x => modOk_b (by decide)
  have o6 : ∀ x : Int, divOk x 821 = true := fun x => divOk_b (p := 64) (by decide) (by decide) (by decide) (by decide)
  have o7 : mulOk (rollY cu) (rollY cu + 229) = true := mulOk_l (by
    have h1 := fmod_lo (a := cu.2 * 31039 + 7973) (m := 2147483543) (by decide)
    have h2 := fmod_hi (a := cu.2 * 31039 + 7973) (m := 2147483543) (by decide)
    unfold rollY
    omega)
  unfold rollY at o7
  by_cases c : 0 < cu.1
  · unfold rollV rollC
    simp only [G__law_roll, g__law_roll, o1, o2, o3, o4, o5, o6, o7, c, gFn, gSeq, gIf, gSet, gSetO, gfCat, gfDisp, gBin, gCall, gApp, gaNil, gaCons, gaCup, gC_eq, gVar_un, gDisp, gSlice, gPart, gNoPart, gTru, gBool, gChain, gAnd, gOr, gNot, gAndV, gOrV, gNotV, gIfE, gUn, gCupF_un, gCupT_un, gCupSet, gRet, gAsg, gPar, gPar3, gDrop, gRaise, gSkip, gIsi, gFor, giTup, giLst, giArg, gLc, gL, gFrz, gApd, gYes, gAll, ggName, ggTup, ggCons, ggNil, wipeE, dLst, dTup, gForL_nil, gForL_cons, gLcL_nil, gLcL_cons, dZip_tup, dZip_lst, zipD_cc, zipD_nil, cutD_1, dCut_tup, dCut_lst, dAbs_ab, dAdd_tup, dAdd_lst, Rs.bind_ok, Rs.bind_exc, Rs.bind_stuck, Rs.ofO_some, Rs.nox_ok, List.getElem?_cons_zero, List.getElem?_cons_succ, List.set_cons_zero, List.set_cons_succ, List.length_cons, List.length_nil, List.length_append, List.length_map, List.replicate_succ, List.replicate_zero, List.cons_append, List.nil_append, List.append_nil, Nat.reduceAdd, Nat.reduceSub, Nat.reduceLT, Nat.reduceLeDiff, Nat.reduceEqDiff, Nat.zero_add, dAdd_int, dMul_int, fI0_int, fB0_int, fI_int, dEq_int, dNe_int, dEq_str, dNe_str, dEq_bl, dBool_bl, dTru_bl, dNeg_int, dToInt_int, dToInt_bl, dLen_tup, dLen_lst, dMin2_int, dMulT_int, dToTup_lst, dToTup_tup, dToLst_lst, dToLst_tup, dats_nil, dats_cons, dIx_tup, dIx_lst, atI0, atI1, atI2, atI3, atI4, atI5, dInt_int, Option.map_some, Option.map_none, Option.bind_some, if_true, if_false, ite_true, ite_false, Bool.false_eq_true, Bool.true_eq_false, reduceIte, Bool.not_true, Bool.not_false, isi_int_int, isi_int_bool, isi_int_str, isi_int_tuple, isi_bool_int, isi_bool_bool, isi_bool_str, isi_bool_tuple, isi_str_int, isi_str_bool, isi_str_str, isi_str_tuple, isi_tup_int, isi_tup_bool, isi_tup_str, isi_tup_tuple, isi_lst_int, isi_lst_bool, isi_lst_str, isi_lst_tuple, isi_none_int, isi_none_bool, isi_none_str, isi_none_tuple, Int.cast_ofNat_Int, decide_true, decide_false, decide_eq_true_eq, not_true_eq_false, not_false_eq_true, Int.reduceEq, Int.reduceNe, Int.reduceLE, Int.reduceLT, Int.reduceAdd, Int.reduceSub, Int.reduceMul, Int.reduceNeg, ite_self, dMax2_int, dInR_int, gInR, gAug, gBits, dBits, giRev, dRevL, gParO, le_is_built_within_0, fb_part_at_0, le__law_parts_0, lt__law_parts_0, fb__law_height_0, fb__law_path_0, le__law_is_term_0, lt__law_is_term_0, fb__law_is_term_0, fb__law_is_term_1, fb__law_asked_0, fb__law_at_0]
  · unfold rollV rollC rollY
    simp only [G__law_roll, g__law_roll, o1, o2, o3, o4, o5, o6, o7, c, gFn, gSeq, gIf, gSet, gSetO, gfCat, gfDisp, gBin, gCall, gApp, gaNil, gaCons, gaCup, gC_eq, gVar_un, gDisp, gSlice, gPart, gNoPart, gTru, gBool, gChain, gAnd, gOr, gNot, gAndV, gOrV, gNotV, gIfE, gUn, gCupF_un, gCupT_un, gCupSet, gRet, gAsg, gPar, gPar3, gDrop, gRaise, gSkip, gIsi, gFor, giTup, giLst, giArg, gLc, gL, gFrz, gApd, gYes, gAll, ggName, ggTup, ggCons, ggNil, wipeE, dLst, dTup, gForL_nil, gForL_cons, gLcL_nil, gLcL_cons, dZip_tup, dZip_lst, zipD_cc, zipD_nil, cutD_1, dCut_tup, dCut_lst, dAbs_ab, dAdd_tup, dAdd_lst, Rs.bind_ok, Rs.bind_exc, Rs.bind_stuck, Rs.ofO_some, Rs.nox_ok, List.getElem?_cons_zero, List.getElem?_cons_succ, List.set_cons_zero, List.set_cons_succ, List.length_cons, List.length_nil, List.length_append, List.length_map, List.replicate_succ, List.replicate_zero, List.cons_append, List.nil_append, List.append_nil, Nat.reduceAdd, Nat.reduceSub, Nat.reduceLT, Nat.reduceLeDiff, Nat.reduceEqDiff, Nat.zero_add, dAdd_int, dMul_int, fI0_int, fB0_int, fI_int, dEq_int, dNe_int, dEq_str, dNe_str, dEq_bl, dBool_bl, dTru_bl, dNeg_int, dToInt_int, dToInt_bl, dLen_tup, dLen_lst, dMin2_int, dMulT_int, dToTup_lst, dToTup_tup, dToLst_lst, dToLst_tup, dats_nil, dats_cons, dIx_tup, dIx_lst, atI0, atI1, atI2, atI3, atI4, atI5, dInt_int, Option.map_some, Option.map_none, Option.bind_some, if_true, if_false, ite_true, ite_false, Bool.false_eq_true, Bool.true_eq_false, reduceIte, Bool.not_true, Bool.not_false, isi_int_int, isi_int_bool, isi_int_str, isi_int_tuple, isi_bool_int, isi_bool_bool, isi_bool_str, isi_bool_tuple, isi_str_int, isi_str_bool, isi_str_str, isi_str_tuple, isi_tup_int, isi_tup_bool, isi_tup_str, isi_tup_tuple, isi_lst_int, isi_lst_bool, isi_lst_str, isi_lst_tuple, isi_none_int, isi_none_bool, isi_none_str, isi_none_tuple, Int.cast_ofNat_Int, decide_true, decide_false, decide_eq_true_eq, not_true_eq_false, not_false_eq_true, Int.reduceEq, Int.reduceNe, Int.reduceLE, Int.reduceLT, Int.reduceAdd, Int.reduceSub, Int.reduceMul, Int.reduceNeg, ite_self, dMax2_int, dInR_int, gInR, gAug, gBits, dBits, giRev, dRevL, gParO, le_is_built_within_0, fb_part_at_0, le__law_parts_0, lt__law_parts_0, fb__law_height_0, fb__law_path_0, le__law_is_term_0, lt__law_is_term_0, fb__law_is_term_0, fb__law_is_term_1, fb__law_asked_0, fb__law_at_0]
/-- a roll with what is known of it -/
theorem roll_ex (m : Int) (h : 1 ≤ m) (hs : m.natAbs < 2 ^ 2000) (cu : Cu) : ∃ (v : Int) (c : Cu), 0 ≤ v ∧ v < m ∧ G__law_roll [.cup, .dat (.int m)] cu = .ok (.int v) c := ⟨_, _, roll_lo h, roll_hi h, e_roll h hs⟩
theorem e_some {xs : List PyData} (h0 : 0 < xs.length) (h1 : xs.length ≤ 1000) : ∃ d ∈ xs, G__law_some [.cup, .dat (.list xs)] cu = .ok d (rollC cu xs.length) := by
  have hm : (1 : Int) ≤ xs.length := by omega
  have e := e_roll (cu := cu) hm (Sm.of (B := 1000) (by omega))
  have r0 := roll_lo (cu := cu) hm
  have r1 := roll_hi (cu := cu) hm
  obtain ⟨n, hn⟩ := Int.eq_ofNat_of_zero_le r0
  have hn' : n < xs.length := by omega
  refine ⟨xs[n], List.getElem_mem _, ?_⟩
  have e2 : atI xs (rollV cu xs.length) = some xs[n] := by rw [hn]; exact atI_nat (List.getElem?_eq_getElem hn')
  simp only [G__law_some, g__law_some, e, e2, gFn, gSeq, gIf, gSet, gSetO, gfCat, gfDisp, gBin, gCall, gApp, gaNil, gaCons, gaCup, gC_eq, gVar_un, gDisp, gSlice, gPart, gNoPart, gTru, gBool, gChain, gAnd, gOr, gNot, gAndV, gOrV, gNotV, gIfE, gUn, gCupF_un, gCupT_un, gCupSet, gRet, gAsg, gPar, gPar3, gDrop, gRaise, gSkip, gIsi, gFor, giTup, giLst, giArg, gLc, gL, gFrz, gApd, gYes, gAll, ggName, ggTup, ggCons, ggNil, wipeE, dLst, dTup, gForL_nil, gForL_cons, gLcL_nil, gLcL_cons, dZip_tup, dZip_lst, zipD_cc, zipD_nil, cutD_1, dCut_tup, dCut_lst, dAbs_ab, dAdd_tup, dAdd_lst, Rs.bind_ok, Rs.bind_exc, Rs.bind_stuck, Rs.ofO_some, Rs.nox_ok, List.getElem?_cons_zero, List.getElem?_cons_succ, List.set_cons_zero, List.set_cons_succ, List.length_cons, List.length_nil, List.length_append, List.length_map, List.replicate_succ, List.replicate_zero, List.cons_append, List.nil_append, List.append_nil, Nat.reduceAdd, Nat.reduceSub, Nat.reduceLT, Nat.reduceLeDiff, Nat.reduceEqDiff, Nat.zero_add, dAdd_int, dMul_int, fI0_int, fB0_int, fI_int, dEq_int, dNe_int, dEq_str, dNe_str, dEq_bl, dBool_bl, dTru_bl, dNeg_int, dToInt_int, dToInt_bl, dLen_tup, dLen_lst, dMin2_int, dMulT_int, dToTup_lst, dToTup_tup, dToLst_lst, dToLst_tup, dats_nil, dats_cons, dIx_tup, dIx_lst, atI0, atI1, atI2, atI3, atI4, atI5, dInt_int, Option.map_some, Option.map_none, Option.bind_some, if_true, if_false, ite_true, ite_false, Bool.false_eq_true, Bool.true_eq_false, reduceIte, Bool.not_true, Bool.not_false, isi_int_int, isi_int_bool, isi_int_str, isi_int_tuple, isi_bool_int, isi_bool_bool, isi_bool_str, isi_bool_tuple, isi_str_int, isi_str_bool, isi_str_str, isi_str_tuple, isi_tup_int, isi_tup_bool, isi_tup_str, isi_tup_tuple, isi_lst_int, isi_lst_bool, isi_lst_str, isi_lst_tuple, isi_none_int, isi_none_bool, isi_none_str, isi_none_tuple, Int.cast_ofNat_Int, decide_true, decide_false, decide_eq_true_eq, not_true_eq_false, not_false_eq_true, Int.reduceEq, Int.reduceNe, Int.reduceLE, Int.reduceLT, Int.reduceAdd, Int.reduceSub, Int.reduceMul, Int.reduceNeg, ite_self, dMax2_int, dInR_int, gInR, gAug, gBits, dBits, giRev, dRevL, gParO, le_is_built_within_0, fb_part_at_0, le__law_parts_0, lt__law_parts_0, fb__law_height_0, fb__law_path_0, le__law_is_term_0, lt__law_is_term_0, fb__law_is_term_0, fb__law_is_term_1, fb__law_asked_0, fb__law_at_0]
theorem some_in (xs : List PyData) (h0 : 0 < xs.length) (h1 : xs.length ≤ 1000) (cu : Cu) : ∃ d ∈ xs, ∃ c : Cu, G__law_some [.cup, .dat (.list xs)] cu = .ok d c := let ⟨d, hd, e⟩ := e_some (cu := cu) h0 h1; ⟨d, hd, _, e⟩
end
end Prog

set_option Elab.async false
set_option linter.all false
set_option maxRecDepth 100000
set_option maxHeartbeats 800000
set_option autoImplicit false
/-! terms as data -/
namespace TM
open PySem
inductive US | neg | log | exp
inductive BS | plus | minus | times | over
def US.str : US → Str
  | .neg => "negative" | .log => "log" | .exp => "exp"
def BS.str : BS → Str
  | .plus => "plus" | .minus => "minus" | .times => "times" | .over => "over"
inductive Tm
  | whole (n : Int) | x | un (s : US) (t : Tm) | pow (t : Tm) (e : Int) | bi (s : BS) (a b : Tm) | bad (d : PyData)
open Tm
def enc : Tm → PyData
  | whole n => .tuple [.str "whole", .int n]
  | x => .tuple [.str "x"]
  | un s t => .tuple [.str s.str, enc t]
  | pow t e => .tuple [.str "power", enc t, .int e]
  | bi s a b => .tuple [.str s.str, enc a, enc b]
  | bad d => d
/-- a term: no bad part -/
def Ok : Tm → Prop
  | whole n => 0 ≤ n ∧ n ≤ 1000000
  | x => True
  | un _ t => Ok t
  | pow t e => Ok t ∧ 0 ≤ e ∧ e ≤ 12
  | bi _ a b => Ok a ∧ Ok b
  | bad _ => False
/-- .. with one bad part or more, of which B holds -/
def OkB (B : PyData → Prop) : Tm → Prop
  | whole n => 0 ≤ n ∧ n ≤ 1000000
  | x => True
  | un _ t => OkB B t
  | pow t e => OkB B t ∧ 0 ≤ e ∧ e ≤ 12
  | bi _ a b => OkB B a ∧ OkB B b
  | bad d => B d
theorem Ok.okB {B : PyData → Prop} : ∀ {t : Tm}, Ok t → OkB B t
  | whole _, h => h
  | x, _ => trivial
  | un _ t, h => Ok.okB (t := t) h
  | pow t _, h => ⟨Ok.okB (t := t) h.1, h.2⟩
  | bi _ a b, h => ⟨Ok.okB (t := a) h.1, Ok.okB (t := b) h.2⟩
  | bad _, h => h.elim
def clean : Tm → Bool
  | whole _ => true
  | x => true
  | un _ t => clean t
  | pow t _ => clean t
  | bi _ a b => clean a && clean b
  | bad _ => false
theorem Ok.clean : ∀ {t : Tm}, Ok t → clean t = true
  | whole _, _ => rfl
  | x, _ => rfl
  | un _ t, h => Ok.clean (t := t) h
  | pow t _, h => Ok.clean (t := t) h.1
  | bi _ a b, h => by show (TM.clean a && TM.clean b) = true; rw [Ok.clean h.1, Ok.clean h.2]; rfl
  | bad _, h => h.elim
def dep : Tm → Nat
  | whole _ => 1
  | x => 1
  | un _ t => dep t + 1
  | pow t _ => dep t + 1
  | bi _ a b => max (dep a) (dep b) + 1
  | bad _ => 1
def siz : Tm → Nat
  | whole _ => 1
  | x => 1
  | un _ t => siz t + 1
  | pow t _ => siz t + 1
  | bi _ a b => siz a + siz b + 1
  | bad _ => 1
def parts : Tm → List Tm
  | whole _ => []
  | x => []
  | un _ t => [t]
  | pow t _ => [t]
  | bi _ a b => [a, b]
  | bad _ => []
theorem dep_pos (t : Tm) : 1 ≤ dep t := by cases t <;> simp [dep]
theorem siz_pos (t : Tm) : 1 ≤ siz t := by cases t <;> simp [siz]
/-- the derivative -/
def D : Tm → Tm
  | whole _ => whole 0
  | x => whole 1
  | un .neg t => un .neg (D t)
  | un .log t => bi .over (D t) t
  | un .exp t => bi .times (D t) (un .exp t)
  | pow t e => if e = 0 then whole 0 else bi .times (bi .times (whole e) (pow t (e - 1))) (D t)
  | bi .plus a b => bi .plus (D a) (D b)
  | bi .minus a b => bi .minus (D a) (D b)
  | bi .times a b => bi .plus (bi .times (D a) b) (bi .times a (D b))
  | bi .over a b => bi .over (bi .minus (bi .times (D a) b) (bi .times a (D b))) (pow b 2)
  | bad d => bad d
end TM

set_option Elab.async false
set_option linter.all false
set_option maxRecDepth 100000
set_option maxHeartbeats 800000
set_option autoImplicit false
namespace Prog
open PySem L2 DL TM
/-- no term -/
def Bad (d : PyData) : Prop := ∀ cu, G_has_sort [.dat d] cu = .ok (.bool false) cu
theorem hs_un (s : US) (a : PyData) (cu : Cu) : G_has_sort [.dat (.tuple [.str s.str, a])] cu = .ok (.bool true) cu := by cases s <;> kernel_rfl
theorem hs_bi (s : BS) (a b : PyData) (cu : Cu) : G_has_sort [.dat (.tuple [.str s.str, a, b])] cu = .ok (.bool true) cu := by cases s <;> kernel_rfl
theorem hs_x (cu : Cu) : G_has_sort [.dat (.tuple [.str "x"])] cu = .ok (.bool true) cu := by kernel_rfl
theorem hs_whole0 (k : Nat) (cu : Cu) : G_has_sort [.dat (.tuple [.str "whole", .int (Int.ofNat k)])] cu = .ok (.bool (decide (Int.ofNat k ≤ 1000000))) cu := by kernel_rfl
theorem hs_pow0 (a : PyData) (k : Nat) (cu : Cu) : G_has_sort [.dat (.tuple [.str "power", a, .int (Int.ofNat k)])] cu = .ok (.bool (decide (Int.ofNat k ≤ 12))) cu := by kernel_rfl
theorem hs_enc {B : PyData → Prop} : ∀ {t : TM.Tm}, OkB B t → (∀ d, t ≠ .bad d) → ∀ cu, G_has_sort [.dat (enc t)] cu = .ok (.bool true) cu
  | .whole n, h, _, cu => by
    obtain ⟨k, rfl⟩ := Int.eq_ofNat_of_zero_le h.1
    show G_has_sort [.dat (.tuple [.str "whole", .int (Int.ofNat k)])] cu = _
    rw [hs_whole0]
    have e : decide (Int.ofNat k ≤ 1000000) = true := decide_eq_true h.2
    rw [e]
  | .x, _, _, cu => hs_x cu
  | .un s t, _, _, cu => hs_un s _ cu
  | .pow t e, h, _, cu => by
    obtain ⟨k, rfl⟩ := Int.eq_ofNat_of_zero_le h.2.1
    show G_has_sort [.dat (.tuple [.str "power", enc t, .int (Int.ofNat k)])] cu = _
    rw [hs_pow0]
    have e : decide (Int.ofNat k ≤ 12) = true := decide_eq_true h.2.2
    rw [e]
  | .bi s a b, _, _, cu => hs_bi s _ _ cu
  | .bad d, _, n, _ => absurd rfl (n d)
theorem pw_un (s : US) (a : PyData) (cu : Cu) : G_parts_within [.dat (.tuple [.str s.str, a])] cu = .ok (.tuple [a]) cu := by cases s <;> kernel_rfl
theorem pw_bi (s : BS) (a b : PyData) (cu : Cu) : G_parts_within [.dat (.tuple [.str s.str, a, b])] cu = .ok (.tuple [a, b]) cu := by cases s <;> kernel_rfl
theorem pw_pow (a : PyData) (e : Int) (cu : Cu) : G_parts_within [.dat (.tuple [.str "power", a, .int e])] cu = .ok (.tuple [a]) cu := by kernel_rfl
theorem pw_whole (e : Int) (cu : Cu) : G_parts_within [.dat (.tuple [.str "whole", .int e])] cu = .ok (.tuple []) cu := by kernel_rfl
theorem pw_x (cu : Cu) : G_parts_within [.dat (.tuple [.str "x"])] cu = .ok (.tuple []) cu := by kernel_rfl
theorem pw_enc : ∀ {t : TM.Tm}, (∀ d, t ≠ .bad d) → ∀ cu, G_parts_within [.dat (enc t)] cu = .ok (.tuple ((parts t).map enc)) cu
  | .whole n, _, cu => pw_whole n cu
  | .x, _, cu => pw_x cu
  | .un s t, _, cu => pw_un s _ cu
  | .pow t e, _, cu => pw_pow _ e cu
  | .bi s a b, _, cu => pw_bi s _ _ cu
  | .bad d, n, _ => absurd rfl (n d)
/-! the search for what is no term -/
def pr (q : TM.Tm × Nat) : PyData := .tuple [enc q.1, .int (q.2 : Int)]
theorem rPopG {i : Nat} {gg : GG} {ρ ρ1 : En} {xs : List PyData} {d : PyData} {cu : Cu} (hv : ρ[i]? = some (.own (xs ++ [d]))) (hg : gg d (ρ.set i (.own xs)) = some ρ1) : gPopG i gg ρ cu = .ok (.nx ρ1) cu := by
  unfold gPopG
  rw [hv]
  dsimp only
  rw [List.getLast?_append, List.getLast?_singleton, List.dropLast_concat, Option.some_or, Rs.ofO_some, Rs.bind_ok, hg, Rs.ofO_some, Rs.bind_ok]
theorem rExt {i : Nat} {g : GE} {ρ : En} {xs ys : List PyData} {d : PyData} {cu cu1 : Cu} (hv : ρ[i]? = some (.own xs)) (ha : g ρ cu = .ok d cu1) (hd : dItems d = some ys) (hl : xs.length + ys.length ≤ 16777216) : gExt i g ρ cu = .ok (.nx (ρ.set i (.own (xs ++ ys)))) cu1 := by
  unfold gExt
  rw [hv]
  dsimp only
  rw [ha, Rs.bind_ok, hd, Rs.ofO_some, Rs.bind_ok, if_pos hl]
/-- the state of the search -/
abbrev bS (v h p q r : Sl) (m : Int) (ws : List PyData) : En := [v, h, .dat (.int m), .own ws, p, q, r]
theorem wb_eq (v h p q r : Sl) (m : Int) (ws : List PyData) (a : PyData) (l : Int) (cu : Cu) :
    wb_is_built_within_0 (bS v h p q r m (ws ++ [.tuple [a, .int l]])) cu = (gSeq (gAug 2 (fI0 fun i j => i - j) (gC (.int 1)))
    (gSeq (gIf (gOr (gBool (gBin (fB0 fun i j => decide (i < j)) (gVar 2) (gC (.int 0)))) (gOr (gBool (gBin dEq (gVar 5) (gC (.int 0)))) (gNot (gTru (gApp 1 G_has_sort (gaCons (gVar 4) gaNil)))))) (gRet (gC (.bool false))) gSkip)
    (gExt 3 (gL (gLc (giSeq (gApp 1 G_parts_within (gaCons (gVar 4) gaNil))) [6] (ggName 6) gYes le_is_built_within_0))))) (bS v h (.dat a) (.dat (.int l)) r m ws) cu := by
  have e : gPopG 3 (ggTup 2 (ggCons (ggName 4) (ggCons (ggName 5) ggNil))) (bS v h p q r m (ws ++ [.tuple [a, .int l]])) cu = .ok (.nx (bS v h (.dat a) (.dat (.int l)) r m ws)) cu := rPopG rfl rfl
  unfold wb_is_built_within_0
  exact (show (Rs.bind _ _) = _ by rw [e]; rfl)
theorem aug_eq (v h p q r : Sl) (m : Int) (ws : List PyData) (cu : Cu) : gAug 2 (fI0 fun i j => i - j) (gC (.int 1)) (bS v h p q r m ws) cu = .ok (.nx (bS v h p q r (m - 1) ws)) cu := rfl
theorem dEqI (l : Int) : dEq (.int l) (.int 0) = some (.bool (decide (l = 0))) := by
  rw [dEq_int]
theorem lc_pairs (v h q r : Sl) (m l : Int) (ws : List PyData) (a : PyData) (cu : Cu) : ∀ (ps : List PyData), gLcL (ggName 6) gYes le_is_built_within_0 ps (bS v h (.dat a) (.dat (.int l)) r m ws) cu = .ok (ps.map fun p => .tuple [p, .int (l - 1)]) cu := by
  intro ps
  exact gLcL_map (fun p => .tuple [p, .int (l - 1)]) fun d _ => ⟨_, rfl, rfl⟩
end Prog

set_option Elab.async false
set_option linter.all false
set_option maxRecDepth 100000
set_option maxHeartbeats 800000
set_option autoImplicit false
namespace Prog
open PySem L2 DL TM
def goodL (S : List (TM.Tm × Nat)) : Bool := S.all fun s => clean s.1 && decide (dep s.1 ≤ s.2)
def tot (S : List (TM.Tm × Nat)) : Nat := (S.map fun s => siz s.1).sum
def subs (t : TM.Tm) (l : Nat) : List (TM.Tm × Nat) := (parts t).map fun p => (p, l - 1)
theorem goodL_step {t : TM.Tm} {l : Nat} (hl : 1 ≤ l) (hn : ∀ d, t ≠ .bad d) : goodL [(t, l)] = goodL (subs t l) := by
  cases t with
  | whole n => simp [goodL, subs, parts, clean, dep, hl]
  | x => simp [goodL, subs, parts, clean, dep, hl]
  | un s t => simp only [goodL, subs, parts, clean, dep, List.all_cons, List.all_nil, List.map_cons, List.map_nil, Bool.and_true]; congr 1; exact decide_eq_decide.mpr (by omega)
  | pow t e => simp only [goodL, subs, parts, clean, dep, List.all_cons, List.all_nil, List.map_cons, List.map_nil, Bool.and_true]; congr 1; exact decide_eq_decide.mpr (by omega)
  | bi s a b =>
    rw [Bool.eq_iff_iff]
    simp only [goodL, subs, parts, clean, dep, List.all_cons, List.all_nil, List.map_cons, List.map_nil, Bool.and_true, Bool.and_eq_true, decide_eq_true_eq]
    constructor
    · rintro ⟨⟨h1, h2⟩, h3⟩
      have h3 : max (dep a) (dep b) + 1 ≤ l := of_decide_eq_true h3
      exact ⟨⟨h1, show dep a ≤ l - 1 by omega⟩, h2, show dep b ≤ l - 1 by omega⟩
    · rintro ⟨⟨h1, h2⟩, h3, h4⟩
      have h2 : dep a ≤ l - 1 := h2
      have h4 : dep b ≤ l - 1 := h4
      exact ⟨⟨h1, h3⟩, decide_eq_true (show max (dep a) (dep b) + 1 ≤ l by omega)⟩
  | bad d => exact absurd rfl (hn d)
theorem tot_step {t : TM.Tm} {l : Nat} (hn : ∀ d, t ≠ .bad d) : siz t = tot (subs t l) + 1 := by
  cases t with
  | bad d => exact absurd rfl (hn d)
  | bi s a b => simp [tot, subs, parts, siz]
  | _ => simp [tot, subs, parts, siz]
theorem goodL_app (S T : List (TM.Tm × Nat)) : goodL (S ++ T) = (goodL S && goodL T) := List.all_append
theorem tot_app (S T : List (TM.Tm × Nat)) : tot (S ++ T) = tot S + tot T := by simp [tot]
theorem parts_ok {B : PyData → Prop} : ∀ {t : TM.Tm}, OkB B t → ∀ p ∈ parts t, OkB B p
  | .whole _, _, p, hp => by cases hp
  | .x, _, p, hp => by cases hp
  | .un _ t, h, p, hp => by cases List.mem_singleton.mp hp; exact h
  | .pow t _, h, p, hp => by cases List.mem_singleton.mp hp; exact h.1
  | .bi _ a b, h, p, hp => by
    rcases List.mem_cons.mp hp with rfl | hp
    · exact h.1
    · cases List.mem_singleton.mp hp; exact h.2
  | .bad _, _, p, hp => by cases hp
theorem parts_len (t : TM.Tm) : (parts t).length ≤ 2 := by cases t <;> simp [parts]
theorem whRet {gt : GT} {s : GS} {ρ : En} {cu cu1 cu2 : Cu} {d : PyData} {n : Nat} (ht : gt ρ cu = .ok true cu1) (hb : s ρ cu1 = .ok (.ret d) cu2) : gWhileF gt s (n + 1) ρ cu = .ok (.ret d) cu2 := by
  show ((gt ρ cu).bind _) = _
  rw [ht, Rs.bind_ok, if_pos rfl, hb, Rs.bind_ok]
theorem whNx {gt : GT} {s : GS} {ρ ρ1 : En} {cu cu1 cu2 : Cu} {n : Nat} (ht : gt ρ cu = .ok true cu1) (hb : s ρ cu1 = .ok (.nx ρ1) cu2) : gWhileF gt s (n + 1) ρ cu = gWhileF gt s n ρ1 cu2 := by
  show ((gt ρ cu).bind _) = _
  rw [ht, Rs.bind_ok, if_pos rfl, hb, Rs.bind_ok]
def Good (S : List (TM.Tm × Nat)) (m : Int) : Prop := goodL S = true ∧ (tot S : Int) ≤ m
theorem built_loop {B : PyData → Prop} (hB : ∀ d, B d → Bad d) (v h : Sl) (cu : Cu) : ∀ (n : Nat) (m : Nat) (S : List (TM.Tm × Nat)) (p q r : Sl), (∀ s ∈ S, OkB B s.1) → m < n → S.length + m ≤ 1000000 →
    (Good S m ∧ ∃ ρ', gWhileF wt_is_built_within_0 wb_is_built_within_0 n (bS v h p q r (m : Int) (S.map pr)) cu = .ok (.nx ρ') cu) ∨
    (¬ Good S m ∧ gWhileF wt_is_built_within_0 wb_is_built_within_0 n (bS v h p q r (m : Int) (S.map pr)) cu = .ok (.ret (.bool false)) cu)
  | 0, _, _, _, _, _, _, hn, _ => absurd hn (Nat.not_lt_zero _)
  | n + 1, m, S, p, q, r, hS, hn, hl => by
    rcases List.eq_nil_or_concat S with rfl | ⟨S0, ⟨t, l⟩, rfl⟩
    · refine .inl ⟨⟨rfl, by simp [tot]⟩, _, rWhileF rfl⟩
    · have hm : (S0 ++ [(t, l)]).map pr = S0.map pr ++ [.tuple [enc t, .int (l : Int)]] := by rw [List.map_append]; rfl
      have et : wt_is_built_within_0 (bS v h p q r (m : Int) ((S0.concat (t, l)).map pr)) cu = .ok true cu := by
        rw [List.concat_eq_append, hm]
        unfold wt_is_built_within_0 gTruO
        show Rs.ok (!(S0.map pr ++ [_]).isEmpty) cu = _
        cases S0.map pr <;> rfl
      have ht : OkB B t := hS (t, l) (by rw [List.concat_eq_append]; simp)
      have e1 := wb_eq v h p q r (m : Int) (S0.map pr) (enc t) (l : Int) cu
      rw [← hm, ← List.concat_eq_append] at e1
      have stop : ∀ c, (gOr (gBool (gBin (fB0 fun i j => decide (i < j)) (gVar 2) (gC (.int 0)))) (gOr (gBool (gBin dEq (gVar 5) (gC (.int 0)))) (gNot (gTru (gApp 1 G_has_sort (gaCons (gVar 4) gaNil)))))) (bS v h (.dat (enc t)) (.dat (.int (l : Int))) r ((m : Int) - 1) (S0.map pr)) cu = .ok c cu → c = true →
          gWhileF wt_is_built_within_0 wb_is_built_within_0 (n + 1) (bS v h p q r (m : Int) ((S0.concat (t, l)).map pr)) cu = .ok (.ret (.bool false)) cu := by
        intro c hc ec
        subst ec
        exact whRet et (e1.trans (rSeq (aug_eq _ _ _ _ _ _ _ cu) (rSeqR (rIfT hc (rRet kC)))))
      have k1 : gBin (fB0 fun i j => decide (i < j)) (gVar 2) (gC (.int 0)) (bS v h (.dat (enc t)) (.dat (.int (l : Int))) r ((m : Int) - 1) (S0.map pr)) cu = .ok (.bool (decide ((m : Int) - 1 < 0))) cu := rfl
      have k2 : gBin dEq (gVar 5) (gC (.int 0)) (bS v h (.dat (enc t)) (.dat (.int (l : Int))) r ((m : Int) - 1) (S0.map pr)) cu = .ok (.bool (decide ((l : Int) = 0))) cu := kBin (kVar rfl) kC (dEqI _)
      by_cases c1 : m = 0
      · subst c1
        refine .inr ⟨fun g => ?_, stop true (tOrT (tBool (by rw [k1]; rfl))) rfl⟩
        have z := g.2
        rw [List.concat_eq_append, tot_app] at z
        have := siz_pos t
        have e : tot [(t, l)] = siz t := by simp [tot]
        omega
      have f1 : decide ((m : Int) - 1 < 0) = false := decide_eq_false (by omega)
      by_cases c2 : l = 0
      · subst c2
        refine .inr ⟨fun g => ?_, stop true (tOrF (k := true) (tBool (by rw [k1, f1])) (tOrT (tBool (by rw [k2]; rfl)))) rfl⟩
        have z := g.1
        rw [List.concat_eq_append, goodL_app, Bool.and_eq_true] at z
        have z2 := z.2
        have := dep_pos t
        simp [goodL] at z2
        omega
      have f2 : decide ((l : Int) = 0) = false := decide_eq_false (by omega)
      by_cases c3 : ∃ d, t = .bad d
      · obtain ⟨d, rfl⟩ := c3
        have hs : G_has_sort [.dat (enc (.bad d))] cu = .ok (.bool false) cu := hB d ht cu
        refine .inr ⟨fun g => ?_, stop true (tOrF (k := true) (tBool (by rw [k1, f1])) (tOrF (k := true) (tBool (by rw [k2, f2])) (tNot (k := false) (tTru (kApp (aC (kVar rfl) aN) hs) rfl)))) rfl⟩
        have z := g.1
        rw [List.concat_eq_append, goodL_app, Bool.and_eq_true] at z
        have z2 := z.2
        simp [goodL, clean] at z2
      have hn3 : ∀ d, t ≠ .bad d := fun d e => c3 ⟨d, e⟩
      have hs := hs_enc ht hn3 cu
      have hp := pw_enc hn3 cu
      have cond : (gOr (gBool (gBin (fB0 fun i j => decide (i < j)) (gVar 2) (gC (.int 0)))) (gOr (gBool (gBin dEq (gVar 5) (gC (.int 0)))) (gNot (gTru (gApp 1 G_has_sort (gaCons (gVar 4) gaNil)))))) (bS v h (.dat (enc t)) (.dat (.int (l : Int))) r ((m : Int) - 1) (S0.map pr)) cu = .ok false cu :=
        tOrF (tBool (by rw [k1, f1])) (tOrF (tBool (by rw [k2, f2])) (tNot (k := true) (tTru (kApp (aC (kVar rfl) aN) hs) rfl)))
      obtain ⟨m', rfl⟩ : ∃ m', m = m' + 1 := ⟨m - 1, by omega⟩
      have em : ((m' + 1 : Nat) : Int) - 1 = (m' : Int) := by omega
      rw [em] at cond
      have hl0 : S0.length + 1 + (m' + 1) ≤ 1000000 := by rw [List.concat_eq_append, List.length_append] at hl; simpa using hl
      have e2 : (subs t l).map pr = ((parts t).map enc).map fun p => .tuple [p, .int ((l : Int) - 1)] := by
        unfold subs pr
        rw [List.map_map, List.map_map]
        refine List.map_congr_left fun p _ => ?_
        show PyData.tuple [enc p, .int ((l - 1 : Nat) : Int)] = .tuple [enc p, .int ((l : Int) - 1)]
        rw [show ((l - 1 : Nat) : Int) = (l : Int) - 1 by omega]
      have body : wb_is_built_within_0 (bS v h p q r ((m' + 1 : Nat) : Int) ((S0.concat (t, l)).map pr)) cu = .ok (.nx (bS v h (.dat (enc t)) (.dat (.int (l : Int))) r (m' : Int) ((S0 ++ subs t l).map pr))) cu := by
        rw [e1]
        refine rSeq (aug_eq _ _ _ _ _ _ _ cu) ?_
        rw [em]
        refine rSeq (rIfF cond rSkip) ?_
        rw [List.map_append, e2]
        refine rExt rfl (kLst (kLc (items := (parts t).map enc) ?_ ?_ (lc_pairs _ _ .un _ _ _ _ _ _ _))) rfl ?_
        · show ((gApp 1 G_parts_within (gaCons (gVar 4) gaNil)) _ cu).bind _ = _
          rw [kApp (aC (kVar rfl) aN) hp, Rs.bind_ok]
          rfl
        · rw [List.length_map]; have := parts_len t; omega
        · simp only [List.length_map]; have := parts_len t; omega
      have ih := built_loop hB v h cu n m' (S0 ++ subs t l) (.dat (enc t)) (.dat (.int (l : Int))) r (fun s hs' => by
        rcases List.mem_append.mp hs' with z | z
        · exact hS s (by rw [List.concat_eq_append]; exact List.mem_append_left _ z)
        · obtain ⟨p, hp, rfl⟩ := List.mem_map.mp z
          exact parts_ok ht p hp) (by omega) (by rw [List.length_append]; unfold subs; rw [List.length_map]; have := parts_len t; omega)
      have run : gWhileF wt_is_built_within_0 wb_is_built_within_0 (n + 1) (bS v h p q r ((m' + 1 : Nat) : Int) ((S0.concat (t, l)).map pr)) cu =
          gWhileF wt_is_built_within_0 wb_is_built_within_0 n (bS v h (.dat (enc t)) (.dat (.int (l : Int))) r (m' : Int) ((S0 ++ subs t l).map pr)) cu := by
        exact whNx et body
      have gg : Good (S0.concat (t, l)) ((m' + 1 : Nat) : Int) ↔ Good (S0 ++ subs t l) (m' : Int) := by
        unfold Good
        rw [List.concat_eq_append, goodL_app, goodL_app, goodL_step (by omega) hn3, tot_app, tot_app]
        have e : tot [(t, l)] = siz t := by simp [tot]
        have := tot_step (l := l) hn3
        constructor <;> (rintro ⟨a, b⟩; exact ⟨a, by omega⟩)
      rw [run, gg]
      exact ih
/-- is_built_within tells of terms -/
theorem built_eq {B : PyData → Prop} (hB : ∀ d, B d → Bad d) {t : TM.Tm} (ht : OkB B t) (h m : Nat) (hm : m < 100000) (cu : Cu) :
    G_is_built_within [.dat (enc t), .dat (.int (h : Int)), .dat (.int (m : Int))] cu = .ok (.bool (clean t && decide (dep t ≤ h) && decide (siz t ≤ m))) cu := by
  have hl := built_loop hB (.dat (enc t)) (.dat (.int (h : Int))) cu 100000 m [(t, h)] .un .un .un (fun s hs => by cases List.mem_singleton.mp hs; exact ht) hm (by simp; omega)
  have st : g_is_built_within [.dat (enc t), .dat (.int (h : Int)), .dat (.int (m : Int)), .un, .un, .un, .un] cu = (gSeq (gWhile (fun _ _ => 100000) wt_is_built_within_0 wb_is_built_within_0) (gRet (gC (.bool true)))) (bS (.dat (enc t)) (.dat (.int (h : Int))) .un .un .un (m : Int) [.tuple [enc t, .int (h : Int)]]) cu := rfl
  have g1 : goodL [(t, h)] = (clean t && decide (dep t ≤ h)) := by simp [goodL]
  have g2 : tot [(t, h)] = siz t := by simp [tot]
  unfold G_is_built_within
  rcases hl with ⟨g, ρ', e⟩ | ⟨g, e⟩
  · have z : (clean t && decide (dep t ≤ h) && decide (siz t ≤ m)) = true := by
      rw [← g1, g.1, Bool.true_and]; exact decide_eq_true (by have := g.2; rw [g2] at this; omega)
    rw [z]
    exact kFn (by show g_is_built_within _ cu = _; exact st.trans (rSeq (show gWhile _ _ _ _ cu = _ from e) (rRet kC)))
  · have z : (clean t && decide (dep t ≤ h) && decide (siz t ≤ m)) = false := by
      rw [← g1]
      cases q : goodL [(t, h)] with
      | false => rfl
      | true =>
        rw [Bool.true_and]
        exact decide_eq_false fun y => g ⟨q, by rw [g2]; omega⟩
    rw [z]
    exact kFn (by show g_is_built_within _ cu = _; exact st.trans (rSeqR (show gWhile _ _ _ _ cu = _ from e)))
end Prog

set_option Elab.async false
set_option linter.all false
set_option maxRecDepth 100000
set_option maxHeartbeats 800000
set_option autoImplicit false
namespace TM
open PySem
theorem log_lt {n : Nat} (h : n < 2 ^ 20) : (if n = 0 then 0 else n.log2 + 1) ≤ 20 := by
  split
  · omega
  · rename_i c
    have := (Nat.log2_lt c).mpr h
    omega
theorem w_int {i : Int} (h0 : 0 ≤ i) (h : i ≤ 1000000) : PyData.weight (.int i) ≤ 20 := by
  have z : PyData.weight (.int i) = if i == 0 then 0 else i.natAbs.log2 + 1 := by simp only [PyData.weight]
  rw [z]
  have := log_lt (n := i.natAbs) (by omega)
  split
  · omega
  · rename_i c
    rw [if_neg (by simpa using c)] at this
    exact this
theorem enc_weight : ∀ {t : Tm}, Ok t → PyData.weight (enc t) ≤ 28 * siz t
  | .whole n, h => by
    have := w_int h.1 h.2
    have e : PyData.weight (.str "whole") = 5 := by decide +kernel
    simp only [enc, siz, PyData.weight, PyData.weightAll] at this e ⊢
    omega
  | .x, _ => by decide +kernel
  | .un s t, h => by
    have := enc_weight (t := t) h
    have e : PyData.weight (.str s.str) ≤ 8 := by cases s <;> decide +kernel
    simp only [enc, siz, PyData.weight, PyData.weightAll] at this e ⊢
    omega
  | .pow t k, h => by
    have := enc_weight h.1
    have w := w_int h.2.1 (by have := h.2.2; omega)
    have e : PyData.weight (.str "power") = 5 := by decide +kernel
    simp only [enc, siz, PyData.weight, PyData.weightAll] at this e w ⊢
    omega
  | .bi s a b, h => by
    have := enc_weight h.1
    have := enc_weight h.2
    have e : PyData.weight (.str s.str) ≤ 8 := by cases s <;> decide +kernel
    simp only [enc, siz, PyData.weight, PyData.weightAll] at *
    omega
  | .bad _, h => h.elim
theorem enc_depth : ∀ {t : Tm}, Ok t → PyData.depth (enc t) = dep t
  | .whole n, h => by simp [enc, dep, PyData.depth, PyData.depthAll]
  | .x, _ => by decide +kernel
  | .un s t, h => by have := enc_depth (t := t) h; simp [enc, dep, PyData.depth, PyData.depthAll, this]
  | .pow t k, h => by have := enc_depth h.1; simp [enc, dep, PyData.depth, PyData.depthAll, this]
  | .bi s a b, h => by have := enc_depth h.1; have := enc_depth h.2; simp [enc, dep, PyData.depth, PyData.depthAll, *]
  | .bad _, h => h.elim
theorem s_int {i : Int} (h0 : 0 ≤ i) (h : i ≤ 1000000) : PyData.showable (.int i) = true ∧ PyData.leavesShort 13 (.int i) = true := by
  constructor
  · have z : PyData.showable (.int i) = decide (i.natAbs.log2 < 1920) := by simp only [PyData.showable]
    rw [z]
    refine decide_eq_true ?_
    by_cases c : i.natAbs = 0
    · rw [c]; decide
    · have := (Nat.log2_lt c (k := 20)).mpr (by omega)
      omega
  · have z : PyData.leavesShort 13 (.int i) = decide ((PyData.shown (.int i)).length ≤ 13) := by simp only [PyData.leavesShort]
    rw [z]
    exact decide_eq_true (PyData.shown_int_le (by omega))
theorem enc_show : ∀ {t : Tm}, Ok t → PyData.showable (enc t) = true ∧ PyData.leavesShort 13 (enc t) = true ∧ PyData.hasDict (enc t) = false
  | .whole n, h => by
    obtain ⟨a, b⟩ := s_int h.1 h.2
    have e : PyData.leavesShort 13 (.str "whole") = true := by decide +kernel
    simp only [enc, PyData.showable, PyData.showableAll, PyData.leavesShort, PyData.leavesShortAll, PyData.hasDict, PyData.hasDictAll] at a b e ⊢
    simp [a, b, e]
  | .x, _ => by
    have e : PyData.leavesShort 13 (.str "x") = true := by decide +kernel
    simp only [enc, PyData.showable, PyData.showableAll, PyData.leavesShort, PyData.leavesShortAll, PyData.hasDict, PyData.hasDictAll] at e ⊢
    simp [e]
  | .un s t, h => by
    obtain ⟨a, b, c⟩ := enc_show (t := t) h
    have e : PyData.leavesShort 13 (.str s.str) = true := by cases s <;> decide +kernel
    simp only [enc, PyData.showable, PyData.showableAll, PyData.leavesShort, PyData.leavesShortAll, PyData.hasDict, PyData.hasDictAll] at a b c e ⊢
    simp [a, b, c, e]
  | .pow t k, h => by
    obtain ⟨a, b, c⟩ := enc_show h.1
    obtain ⟨a2, b2⟩ := s_int h.2.1 (by have := h.2.2; omega)
    have e : PyData.leavesShort 13 (.str "power") = true := by decide +kernel
    simp only [enc, PyData.showable, PyData.showableAll, PyData.leavesShort, PyData.leavesShortAll, PyData.hasDict, PyData.hasDictAll] at a b c e a2 b2 ⊢
    simp [a, b, c, e, a2, b2]
  | .bi s t u, h => by
    obtain ⟨a, b, c⟩ := enc_show h.1
    obtain ⟨a2, b2, c2⟩ := enc_show h.2
    have e : PyData.leavesShort 13 (.str s.str) = true := by cases s <;> decide +kernel
    simp only [enc, PyData.showable, PyData.showableAll, PyData.leavesShort, PyData.leavesShortAll, PyData.hasDict, PyData.hasDictAll] at a b c e a2 b2 c2 ⊢
    simp [a, b, c, e, a2, b2, c2]
  | .bad _, h => h.elim
end TM

set_option Elab.async false
set_option linter.all false
set_option maxRecDepth 100000
set_option maxHeartbeats 1600000
set_option autoImplicit false
set_option exponentiation.threshold 4000
namespace Prog
open PySem L2 DL TM
/-- a term and its word can be told by repr -/
theorem rep_term {t : TM.Tm} (h : Ok t) (hd : dep t ≤ 59) (hw : siz t ≤ 30000) : repB (.tuple [.str "term", enc t]) = true := by
  obtain ⟨a, b, c⟩ := enc_show h
  have d := enc_depth h
  have w := enc_weight h
  have e : PyData.leavesShort 13 (.str "term") = true := by decide +kernel
  have e2 : PyData.weight (.str "term") = 4 := by decide +kernel
  have f : PyData.leavesShort 13 (.tuple [.str "term", enc t]) = true := by
    simp only [PyData.leavesShort, PyData.leavesShortAll] at e b ⊢
    simp [e, b]
  have g : PyData.weight (.tuple [.str "term", enc t]) ≤ 2 ^ 20 := by
    simp only [PyData.weight, PyData.weightAll] at e2 ⊢
    omega
  have k := PyData.shown_fits (B := 13) (by decide) (by decide) f g
  unfold repB
  rw [decide_eq_true k]
  have s : PyData.showable (.tuple [.str "term", enc t]) = true := by simp [PyData.showable, PyData.showableAll, a]
  have n : PyData.hasDict (.tuple [.str "term", enc t]) = false := by simp [PyData.hasDict, PyData.hasDictAll, c]
  have p : PyData.depth (.tuple [.str "term", enc t]) ≤ 63 := by simp only [PyData.depth, PyData.depthAll, d]; omega
  rw [s, n, decide_eq_true p]
  rfl
theorem same_eq {ds : List PyData} (h : repB (.tuple ds) = true) (cu : Cu) : G__law_same [.dat (.tuple ds), .dat (.tuple ds)] cu = .ok (.bool true) cu := by
  have e : dRep [.tuple ds] = some (.str (PyData.tuple ds).shown) := if_pos h
  have q : dEq (.str (PyData.tuple ds).shown) (.str (PyData.tuple ds).shown) = some (.bool true) := by rw [dEq_str, decide_eq_true rfl]
  exact kFn (rRet (kBin (kCall (aC (kVar rfl) aN) e) (kCall (aC (kVar rfl) aN) e) q))
theorem gFn_exc {n k : Nat} {g : GS} {as : List Sl} {cu c : Cu} (h : g (as ++ List.replicate (n - as.length) .un) cu = .exc k c) : gFn n g as cu = .exc k c := by
  unfold gFn
  rw [h, Rs.bind_exc]
theorem aX1 {k : Nat} {ga : GE} {ra : GA} {ρ : En} {cu c : Cu} (ha : ga ρ cu = .exc k c) : gaCons ga ra ρ cu = .exc k c := by unfold gaCons; rw [ha, Rs.bind_exc]
theorem aX2 {k : Nat} {ga : GE} {ra : GA} {a : PyData} {ρ : En} {cu c c1 : Cu} (ha : ga ρ cu = .ok a c1) (hr : ra ρ c1 = .exc k c) : gaCons ga ra ρ cu = .exc k c := by unfold gaCons; rw [ha, Rs.bind_ok, hr, Rs.bind_exc]
/-! the derivative asked -/
section
variable {B : PyData → Prop} {t : TM.Tm} {cu : Cu}
theorem plain_eq (hB : ∀ d, B d → Bad d) (ht : OkB B t) : G_is_plain_term [.dat (enc t)] cu = .ok (.bool (clean t && decide (dep t ≤ 60) && decide (siz t ≤ 20000))) cu :=
  kFn (rRet (kApp (aC (kVar rfl) (aC kC (aC kC aN))) (built_eq hB ht 60 20000 (by decide) cu)))
theorem need_no (hB : ∀ d, B d → Bad d) (ht : OkB B t) (h : (clean t && decide (dep t ≤ 60) && decide (siz t ≤ 20000)) = false) : G_need_term [.dat (enc t)] cu = .exc 0 cu := by
  have e := plain_eq (cu := cu) hB ht
  rw [h] at e
  have q : g_need_term [.dat (enc t)] cu = .exc 0 cu := by
    show ((gNot (gTru (gApp 1 G_is_plain_term (gaCons (gVar 0) gaNil)))) _ cu).bind _ = _
    rw [tNot (k := false) (tTru (kApp (aC (kVar rfl) aN) e) rfl), Rs.bind_ok]
    rfl
  exact gFn_exc q
theorem need_yes (hB : ∀ d, B d → Bad d) (ht : OkB B t) (h : (clean t && decide (dep t ≤ 60) && decide (siz t ≤ 20000)) = true) : G_need_term [.dat (enc t)] cu = .ok .none cu := by
  have e := plain_eq (cu := cu) hB ht
  rw [h] at e
  exact kFnN (rIfF (tNot (k := true) (tTru (kApp (aC (kVar rfl) aN) e) rfl)) rSkip)
end
end Prog

set_option Elab.async false
set_option linter.all false
set_option maxRecDepth 100000
set_option maxHeartbeats 1600000
set_option autoImplicit false
set_option exponentiation.threshold 4000
namespace Prog
open PySem L2 DL TM
abbrev POW : PyData := .list [.int 0, .int 1, .int 2, .int 3, .int 12]
abbrev FUN : PyData := .list [.str "log", .str "exp"]
abbrev dS (z : Int) (i : Int) : En := [.cup, .dat (.int z), .dat POW, .dat FUN, .dat (.int i), .un, .un]
abbrev dT (z : Int) (i : Int) (a : PyData) : En := [.cup, .dat (.int z), .dat POW, .dat FUN, .dat (.int i), .dat a, .un]
section
variable {self : GF} {z : Int} {cu : Cu}
/-- a number or x -/
theorem dr_leaf (i : Nat) (hi : i < 3) : ∃ t c, Ok t ∧ dep t = 1 ∧ siz t = 1 ∧ ta__law_drawn_5 self (dS z (i : Int)) cu = .ok (.ret (enc t)) c := by
  match i, hi with
  | 0, _ =>
    obtain ⟨d, hd, c, e⟩ := some_in [.int 0, .int 1, .int 1, .int 2, .int 3, .int 4, .int 12, .int 1000000] (by decide) (by decide) cu
    have key : ∀ n : Int, 0 ≤ n → n ≤ 1000000 → d = .int n → ∃ t c, Ok t ∧ dep t = 1 ∧ siz t = 1 ∧ ta__law_drawn_5 self (dS z 0) cu = .ok (.ret (enc t)) c := fun n h0 h1 q => by
      subst q
      refine ⟨.whole n, c, ⟨h0, h1⟩, rfl, rfl, ?_⟩
      unfold ta__law_drawn_5
      exact rSeqR (rIfT (cu1 := cu) (by kernel_rfl) (rRet (kDisp (aC kC (aC (kApp (aCup rfl (aC (by kernel_rfl) aN)) e) aN)) rfl (by show 2 ≤ 16777216; decide))))
    simp only [List.mem_cons, List.not_mem_nil, or_false] at hd
    rcases hd with q | q | q | q | q | q | q | q
    · exact key 0 (by decide) (by decide) q
    · exact key 1 (by decide) (by decide) q
    · exact key 1 (by decide) (by decide) q
    · exact key 2 (by decide) (by decide) q
    · exact key 3 (by decide) (by decide) q
    · exact key 4 (by decide) (by decide) q
    · exact key 12 (by decide) (by decide) q
    · exact key 1000000 (by decide) (by decide) q
  | 1, _ => exact ⟨.x, cu, trivial, rfl, rfl, by kernel_rfl⟩
  | 2, _ => exact ⟨.x, cu, trivial, rfl, rfl, by kernel_rfl⟩
/-- .. or more -/
theorem dr_skip (i : Nat) (h3 : 3 ≤ i) (hi : i < 14) : ta__law_drawn_5 self (dS z (i : Int)) cu = ta__law_drawn_4 self (dS z (i : Int)) cu := by
  match i, h3, hi with
  | 3, _, _ => kernel_rfl
  | 4, _, _ => kernel_rfl
  | 5, _, _ => kernel_rfl
  | 6, _, _ => kernel_rfl
  | 7, _, _ => kernel_rfl
  | 8, _, _ => kernel_rfl
  | 9, _, _ => kernel_rfl
  | 10, _, _ => kernel_rfl
  | 11, _, _ => kernel_rfl
  | 12, _, _ => kernel_rfl
  | 13, _, _ => kernel_rfl
/-- what is made of the inner term(s) -/
theorem dr_node {k : Nat} (IH : ∀ cu, ∃ t c, Ok t ∧ dep t ≤ k + 1 ∧ siz t + 1 ≤ 2 ^ (k + 1) ∧ self [.cup, .dat (.int (k : Int)), .dat POW, .dat FUN] cu = .ok (enc t) c) (hz : z - 1 = (k : Int)) (i : Nat) (h3 : 3 ≤ i) (hi : i < 14) {t : TM.Tm} (ht : Ok t) (hd : dep t ≤ k + 1) (hs : siz t + 1 ≤ 2 ^ (k + 1)) :
    ∃ u c, Ok u ∧ dep u ≤ k + 2 ∧ siz u + 1 ≤ 2 ^ (k + 2) ∧ ta__law_drawn_3 self (dT z (i : Int) (enc t)) cu = .ok (.ret (enc u)) c := by
  have p2 : 2 ^ (k + 2) = 2 * 2 ^ (k + 1) := by rw [Nat.pow_succ 2 (k + 1), Nat.mul_comm]
  have p1 : 2 ≤ 2 ^ (k + 1) := by have := Nat.one_le_two_pow (n := k); rw [Nat.pow_succ]; omega
  have un : ∀ s : US, Ok (.un s t) ∧ dep (.un s t) ≤ k + 2 ∧ siz (.un s t) + 1 ≤ 2 ^ (k + 2) := fun s => ⟨ht, by simp only [dep]; omega, by simp only [siz]; omega⟩
  have powr : ∀ i : Nat, (i = 4 ∨ i = 5) → ∃ u c, Ok u ∧ dep u ≤ k + 2 ∧ siz u + 1 ≤ 2 ^ (k + 2) ∧ ta__law_drawn_3 self (dT z (i : Int) (enc t)) cu = .ok (.ret (enc u)) c := by
    intro i hi
    obtain ⟨d, hd', c, e⟩ := some_in [.int 0, .int 1, .int 2, .int 3, .int 12] (by decide) (by decide) cu
    have key : ∀ n : Int, 0 ≤ n → n ≤ 12 → d = .int n → ∃ u c, Ok u ∧ dep u ≤ k + 2 ∧ siz u + 1 ≤ 2 ^ (k + 2) ∧ ta__law_drawn_3 self (dT z (i : Int) (enc t)) cu = .ok (.ret (enc u)) c := fun n h0 h1 q => by
      subst q
      refine ⟨.pow t n, c, ⟨ht, h0, h1⟩, by simp only [dep]; omega, by simp only [siz]; omega, ?_⟩
      have r : ta__law_drawn_2 self (dT z (i : Int) (enc t)) cu = .ok (.ret (enc (.pow t n))) c := by
        unfold ta__law_drawn_2
        exact rSeqR (rIfT (by rcases hi with rfl | rfl <;> kernel_rfl) (rRet (kDisp (aC kC (aC (kVar rfl) (aC (kApp (aCup rfl (aC (kVar rfl) aN)) e) aN))) rfl (by show 3 ≤ 16777216; decide))))
      exact (show _ = ta__law_drawn_2 self (dT z (i : Int) (enc t)) cu by rcases hi with rfl | rfl <;> kernel_rfl).trans r
    simp only [List.mem_cons, List.not_mem_nil, or_false] at hd'
    rcases hd' with q | q | q | q | q
    · exact key 0 (by decide) (by decide) q
    · exact key 1 (by decide) (by decide) q
    · exact key 2 (by decide) (by decide) q
    · exact key 3 (by decide) (by decide) q
    · exact key 12 (by decide) (by decide) q
  have funr : ∀ i : Nat, (i = 6 ∨ i = 7) → ∃ u c, Ok u ∧ dep u ≤ k + 2 ∧ siz u + 1 ≤ 2 ^ (k + 2) ∧ ta__law_drawn_3 self (dT z (i : Int) (enc t)) cu = .ok (.ret (enc u)) c := by
    intro i hi
    obtain ⟨d, hd', c, e⟩ := some_in [.str "log", .str "exp"] (by decide) (by decide) cu
    have key : ∀ s : US, d = .str s.str → ∃ u c, Ok u ∧ dep u ≤ k + 2 ∧ siz u + 1 ≤ 2 ^ (k + 2) ∧ ta__law_drawn_3 self (dT z (i : Int) (enc t)) cu = .ok (.ret (enc u)) c := fun s q => by
      subst q
      refine ⟨.un s t, c, (un s).1, (un s).2.1, (un s).2.2, ?_⟩
      have r : ta__law_drawn_1 self (dT z (i : Int) (enc t)) cu = .ok (.ret (enc (.un s t))) c := by
        unfold ta__law_drawn_1
        exact rSeqR (rIfT (by rcases hi with rfl | rfl <;> kernel_rfl) (rRet (kDisp (aC (kApp (aCup rfl (aC (kVar rfl) aN)) e) (aC (kVar rfl) aN)) rfl (by show 2 ≤ 16777216; decide))))
      exact (show _ = ta__law_drawn_1 self (dT z (i : Int) (enc t)) cu by rcases hi with rfl | rfl <;> kernel_rfl).trans r
    simp only [List.mem_cons, List.not_mem_nil, or_false] at hd'
    rcases hd' with q | q
    · exact key .log q
    · exact key .exp q
  have twor : ∀ (i : Nat) (s : BS), ta__law_drawn_3 self (dT z (i : Int) (enc t)) cu = ta__law_drawn_0 self (dT z (i : Int) (enc t)) cu →
      (gSet 6 (gBin dIx (gDisp .list (gaCons (gC (.str (PySem.Str.ofString "plus"))) (gaCons (gC (.str (PySem.Str.ofString "minus"))) (gaCons (gC (.str (PySem.Str.ofString "times"))) (gaCons (gC (.str (PySem.Str.ofString "over"))) (gaCons (gC (.str (PySem.Str.ofString "plus"))) (gaCons (gC (.str (PySem.Str.ofString "times"))) gaNil))))))) (gBin (fI0 fun i j => i - j) (gVar 4) (gC (.int 8))))) (dT z (i : Int) (enc t)) cu = .ok (.nx [.cup, .dat (.int z), .dat POW, .dat FUN, .dat (.int (i : Int)), .dat (enc t), .dat (.str s.str)]) cu →
      ∃ u c, Ok u ∧ dep u ≤ k + 2 ∧ siz u + 1 ≤ 2 ^ (k + 2) ∧ ta__law_drawn_3 self (dT z (i : Int) (enc t)) cu = .ok (.ret (enc u)) c := by
    intro i s h1 h2
    obtain ⟨u, c, hu, du, su, e⟩ := IH cu
    refine ⟨.bi s t u, c, ⟨ht, hu⟩, by simp only [dep]; omega, by simp only [siz]; omega, h1.trans ?_⟩
    unfold ta__law_drawn_0
    refine rSeq h2 (rRet (kDisp (aC (kVar rfl) (aC (kVar rfl) (aC (kApp (aCup rfl (aC (kBin (kVar rfl) kC ?_) (aC (kVar rfl) (aC (kVar rfl) aN)))) e) aN))) rfl (by show 3 ≤ 16777216; decide)))
    show some (PyData.int (z - 1)) = some (PyData.int (k : Int))
    rw [hz]
  match i, h3, hi with
  | 3, _, _ => exact ⟨.un .neg t, cu, (un .neg).1, (un .neg).2.1, (un .neg).2.2, by show _ = Rs.ok (Ou.ret (.tuple [.str "negative", enc t])) cu; generalize enc t = a; kernel_rfl⟩
  | 4, _, _ => exact powr 4 (.inl rfl)
  | 5, _, _ => exact powr 5 (.inr rfl)
  | 6, _, _ => exact funr 6 (.inl rfl)
  | 7, _, _ => exact funr 7 (.inr rfl)
  | 8, _, _ => exact twor 8 .plus (by generalize enc t = a; kernel_rfl) (by generalize enc t = a; kernel_rfl)
  | 9, _, _ => exact twor 9 .minus (by generalize enc t = a; kernel_rfl) (by generalize enc t = a; kernel_rfl)
  | 10, _, _ => exact twor 10 .times (by generalize enc t = a; kernel_rfl) (by generalize enc t = a; kernel_rfl)
  | 11, _, _ => exact twor 11 .over (by generalize enc t = a; kernel_rfl) (by generalize enc t = a; kernel_rfl)
  | 12, _, _ => exact twor 12 .plus (by generalize enc t = a; kernel_rfl) (by generalize enc t = a; kernel_rfl)
  | 13, _, _ => exact twor 13 .times (by generalize enc t = a; kernel_rfl) (by generalize enc t = a; kernel_rfl)
end
theorem drawn_ex : ∀ (n k : Nat), k < n → ∀ cu, ∃ t c, Ok t ∧ dep t ≤ k + 1 ∧ siz t + 1 ≤ 2 ^ (k + 1) ∧ G__law_drawn n [.cup, .dat (.int (k : Int)), .dat POW, .dat FUN] cu = .ok (enc t) c
  | 0, k, h, _ => absurd h (Nat.not_lt_zero _)
  | n + 1, 0, _, cu => by
    obtain ⟨v, c, v0, v1, e⟩ := roll_ex 3 (by decide) (by decide) cu
    obtain ⟨i, rfl⟩ := Int.eq_ofNat_of_zero_le v0
    obtain ⟨t, c2, h1, h2, h3, h4⟩ := dr_leaf (self := G__law_drawn n) (z := 0) (cu := c) i (by omega)
    refine ⟨t, c2, h1, by omega, by omega, kFn (rSeq (rSet (kApp (aCup rfl (aC ?_ aN)) e)) h4)⟩
    kernel_rfl
  | n + 1, k + 1, h, cu => by
    obtain ⟨v, c, v0, v1, e⟩ := roll_ex 14 (by decide) (by decide) cu
    obtain ⟨i, rfl⟩ := Int.eq_ofNat_of_zero_le v0
    have row : (gSet 4 (gApp 2 G__law_roll (gaCup 0 (gaCons (gIfE (gBool (gBin (fB0 fun i j => decide (j < i)) (gVar 1) (gC (.int 0)))) (gC (.int 14)) (gC (.int 3))) gaNil)))) [.cup, .dat (.int ((k + 1 : Nat) : Int)), .dat POW, .dat FUN, .un, .un, .un] cu = .ok (.nx (dS ((k + 1 : Nat) : Int) (i : Int))) c := by
      refine rSet (kApp (aCup rfl (aC (kIfT (tBool (kBin (kVar rfl) kC ?_)) kC) aN)) e)
      show some (PyData.bool (decide (0 < ((k + 1 : Nat) : Int)))) = some (.bool true)
      rw [decide_eq_true (by omega)]
    by_cases hi : i < 3
    · obtain ⟨t, c2, h1, h2, h3, h4⟩ := dr_leaf (self := G__law_drawn n) (z := ((k + 1 : Nat) : Int)) (cu := c) i hi
      have p1 : 2 ≤ 2 ^ (k + 1 + 1) := by have := Nat.one_le_two_pow (n := k + 1); rw [Nat.pow_succ]; omega
      exact ⟨t, c2, h1, by omega, by omega, kFn (rSeq row h4)⟩
    · obtain ⟨t, c2, h1, h2, h3, h4⟩ := drawn_ex n k (by omega) c
      obtain ⟨u, c3, q1, q2, q3, q4⟩ := dr_node (self := G__law_drawn n) (z := ((k + 1 : Nat) : Int)) (cu := c2) (k := k) (fun cu => drawn_ex n k (by omega) cu) (by omega) i (by omega) (by omega) h1 h2 h3
      refine ⟨u, c3, q1, by omega, q3, kFn (rSeq row ((dr_skip i (by omega) (by omega)).trans ?_))⟩
      unfold ta__law_drawn_4
      refine rSeq (rSet (kApp (aCup rfl (aC (kBin (kVar rfl) kC ?_) (aC (kVar rfl) (aC (kVar rfl) aN)))) h4)) q4
      show some (PyData.int (((k + 1 : Nat) : Int) - 1)) = some (PyData.int (k : Int))
      rw [show ((k + 1 : Nat) : Int) - 1 = (k : Int) by omega]
end Prog

set_option Elab.async false
set_option linter.all false
set_option maxRecDepth 100000
set_option maxHeartbeats 1600000
set_option autoImplicit false
set_option exponentiation.threshold 4000
namespace Prog
open PySem L2 DL TM
/-! the law's parts, height, count -/
theorem lp_un (s : US) (xs : List PyData) (cu : Cu) : G__law_parts [.dat (.tuple [.str s.str, .tuple xs])] cu = .ok (.tuple [.tuple xs]) cu := by cases s <;> kernel_rfl
theorem lp_pow (xs : List PyData) (e : Int) (cu : Cu) : G__law_parts [.dat (.tuple [.str "power", .tuple xs, .int e])] cu = .ok (.tuple [.tuple xs]) cu := by kernel_rfl
theorem lp_bi (s : BS) (xs ys : List PyData) (cu : Cu) : G__law_parts [.dat (.tuple [.str s.str, .tuple xs, .tuple ys])] cu = .ok (.tuple [.tuple xs, .tuple ys]) cu := by cases s <;> kernel_rfl
theorem lp_whole (e : Int) (cu : Cu) : G__law_parts [.dat (.tuple [.str "whole", .int e])] cu = .ok (.tuple []) cu := by kernel_rfl
theorem lp_x (cu : Cu) : G__law_parts [.dat (.tuple [.str "x"])] cu = .ok (.tuple []) cu := by kernel_rfl
theorem enc_tup : ∀ {t : TM.Tm}, Ok t → ∃ xs, enc t = .tuple xs
  | .whole _, _ => ⟨_, rfl⟩
  | .x, _ => ⟨_, rfl⟩
  | .un _ _, _ => ⟨_, rfl⟩
  | .pow _ _, _ => ⟨_, rfl⟩
  | .bi _ _ _, _ => ⟨_, rfl⟩
  | .bad _, h => h.elim
theorem lp_enc : ∀ {t : TM.Tm}, Ok t → ∀ cu, G__law_parts [.dat (enc t)] cu = .ok (.tuple ((parts t).map enc)) cu
  | .whole n, _, cu => lp_whole n cu
  | .x, _, cu => lp_x cu
  | .un s t, h, cu => by
    obtain ⟨xs, e⟩ := enc_tup (t := t) h
    show G__law_parts [.dat (.tuple [.str s.str, enc t])] cu = .ok (.tuple [enc t]) cu
    rw [e]; exact lp_un s xs cu
  | .pow t k, h, cu => by
    obtain ⟨xs, e⟩ := enc_tup h.1
    show G__law_parts [.dat (.tuple [.str "power", enc t, .int k])] cu = .ok (.tuple [enc t]) cu
    rw [e]; exact lp_pow xs k cu
  | .bi s a b, h, cu => by
    obtain ⟨xs, e⟩ := enc_tup h.1
    obtain ⟨ys, e2⟩ := enc_tup h.2
    show G__law_parts [.dat (.tuple [.str s.str, enc a, enc b])] cu = .ok (.tuple [enc a, enc b]) cu
    rw [e, e2]; exact lp_bi s xs ys cu
  | .bad _, h, _ => h.elim
theorem parts_Ok : ∀ {t : TM.Tm}, Ok t → ∀ p ∈ parts t, Ok p
  | .whole _, _, p, hp => by cases hp
  | .x, _, p, hp => by cases hp
  | .un _ t, h, p, hp => by cases List.mem_singleton.mp hp; exact h
  | .pow t _, h, p, hp => by cases List.mem_singleton.mp hp; exact h.1
  | .bi _ a b, h, p, hp => by
    rcases List.mem_cons.mp hp with rfl | hp
    · exact h.1
    · cases List.mem_singleton.mp hp; exact h.2
  | .bad _, h, _, _ => h.elim
theorem parts_dep {t p : TM.Tm} (hp : p ∈ parts t) : dep p < dep t := by
  cases t with
  | whole _ => cases hp
  | x => cases hp
  | un s t => cases List.mem_singleton.mp hp; simp [dep]
  | pow t e => cases List.mem_singleton.mp hp; simp [dep]
  | bi s a b =>
    rcases List.mem_cons.mp hp with rfl | hp
    · simp only [dep]; omega
    · cases List.mem_singleton.mp hp; simp only [dep]; omega
  | bad _ => cases hp
theorem siz_parts {t : TM.Tm} (h : Ok t) : siz t = 1 + ((parts t).map siz).sum := by
  cases t with
  | bad _ => exact h.elim
  | bi s a b => simp [siz, parts]; omega
  | _ => simp [siz, parts] <;> omega
/-! count -/
def nI (n : Nat) : PyData := .int (n : Int)
end Prog

set_option Elab.async false
set_option linter.all false
set_option maxRecDepth 100000
set_option maxHeartbeats 1600000
set_option autoImplicit false
set_option exponentiation.threshold 4000
namespace Prog
open PySem L2 DL TM
def hL (L : List TM.Tm) : Nat := (L.map dep).foldr max 0
def sL (L : List TM.Tm) : Nat := (L.map siz).sum
theorem hL_cons (t : TM.Tm) (L : List TM.Tm) : hL (t :: L) = max (dep t) (hL L) := rfl
theorem hL_app (L M : List TM.Tm) : hL (L ++ M) = max (hL L) (hL M) := by
  induction L with
  | nil => show hL M = max 0 (hL M); omega
  | cons t r ih => rw [List.cons_append, hL_cons, hL_cons, ih]; omega
theorem sL_cons (t : TM.Tm) (L : List TM.Tm) : sL (t :: L) = siz t + sL L := rfl
theorem sL_app (L M : List TM.Tm) : sL (L ++ M) = sL L + sL M := by simp [sL]
theorem dep_parts {t : TM.Tm} (h : Ok t) : dep t = hL (parts t) + 1 := by
  cases t with
  | bad _ => exact h.elim
  | bi s a b => simp [dep, parts, hL]
  | _ => simp [dep, parts, hL]
abbrev nxt (L : List TM.Tm) : List TM.Tm := L.flatMap parts
theorem hL_nxt : ∀ {L : List TM.Tm}, (∀ p ∈ L, Ok p) → hL L ≤ hL (nxt L) + 1 ∧ (L ≠ [] → hL (nxt L) + 1 ≤ hL L)
  | [], _ => ⟨Nat.zero_le _, fun h => absurd rfl h⟩
  | t :: r, h => by
    obtain ⟨i1, i2⟩ := hL_nxt (L := r) fun p hp => h p (.tail _ hp)
    have d := dep_parts (h t (.head _))
    show hL (t :: r) ≤ hL (parts t ++ nxt r) + 1 ∧ (_ → hL (parts t ++ nxt r) + 1 ≤ hL (t :: r))
    rw [hL_app, hL_cons]
    refine ⟨by omega, fun _ => ?_⟩
    cases r with
    | nil => show max (hL (parts t)) 0 + 1 ≤ max (dep t) 0; omega
    | cons u s => have := i2 (by simp); omega
theorem sL_nxt : ∀ {L : List TM.Tm}, (∀ p ∈ L, Ok p) → sL (nxt L) ≤ sL L ∧ L.length ≤ sL L
  | [], _ => ⟨Nat.le_refl _, Nat.le_refl _⟩
  | t :: r, h => by
    obtain ⟨i1, i2⟩ := sL_nxt (L := r) fun p hp => h p (.tail _ hp)
    have d := siz_parts (h t (.head _))
    have p := siz_pos t
    show sL (parts t ++ nxt r) ≤ sL (t :: r) ∧ r.length + 1 ≤ sL (t :: r)
    rw [sL_app, sL_cons]
    have e : sL (parts t) = ((parts t).map siz).sum := rfl
    omega
abbrev hS (a b f s3 s4 : Sl) : En := [a, b, f, s3, s4]
theorem for_level (a b f : Sl) (cu : Cu) : ∀ (ps : List TM.Tm) (acc : List PyData) (s4 : Sl), (∀ p ∈ ps, Ok p) → acc.length + 2 * ps.length ≤ 16777216 →
    ∃ s4', gForL (ggName 4) fb__law_height_0 (ps.map enc) (hS a b f (.own acc) s4) cu = .ok (.nx (hS a b f (.own (acc ++ (nxt ps).map enc)) s4')) cu
  | [], acc, s4, _, _ => ⟨s4, by show Rs.ok (Ou.nx _) cu = _; rw [show (nxt []).map enc = [] from rfl, List.append_nil]⟩
  | p :: r, acc, s4, h, hl => by
    have hp := h p (.head _)
    have l2 := parts_len p
    obtain ⟨s4', e⟩ := for_level a b f cu r (acc ++ (parts p).map enc) (.dat (enc p)) (fun q hq => h q (.tail _ hq)) (by rw [List.length_append, List.length_map]; rw [List.length_cons] at hl; omega)
    refine ⟨s4', rForC (ρ1 := hS a b f (.own acc) (.dat (enc p))) rfl (ρ2 := hS a b f (.own (acc ++ (parts p).map enc)) (.dat (enc p))) (rExt rfl (kCall (aC (kApp (aC (kVar rfl) aN) (lp_enc hp cu)) aN) (dToLst_tup ..)) rfl ?_) ?_⟩
    · rw [List.length_map]; rw [List.length_cons] at hl; omega
    · rw [e, List.append_assoc, ← List.map_append]
      rfl
theorem h_loop (a : Sl) (cu : Cu) : ∀ (n : Nat) (L : List TM.Tm) (f : Nat) (s3 s4 : Sl), (∀ p ∈ L, Ok p) → hL L < n → sL L ≤ 1000000 →
    ∃ L' s3' s4', gWhileF wt__law_height_0 wb__law_height_0 n (hS a (.dat (.list (L.map enc))) (.dat (.int (f : Int))) s3 s4) cu = .ok (.nx (hS a L' (.dat (.int ((f + hL L : Nat) : Int))) s3' s4')) cu
  | 0, _, _, _, _, _, h, _ => absurd h (Nat.not_lt_zero _)
  | n + 1, [], f, s3, s4, _, _, _ => ⟨_, s3, s4, rWhileF (by kernel_rfl)⟩
  | n + 1, t :: r, f, s3, s4, h, hn, hs => by
    have et : wt__law_height_0 (hS a (.dat (.list ((t :: r).map enc))) (.dat (.int (f : Int))) s3 s4) cu = .ok true cu := by
      refine tBool (kBin (a := .int (((t :: r).map enc).length : Int)) (kCall (aC (kVar rfl) aN) (dLen_lst ..)) kC ?_)
      show some (PyData.bool (decide (0 < (((t :: r).map enc).length : Int)))) = _
      rw [decide_eq_true (by rw [List.map_cons, List.length_cons]; omega)]
    obtain ⟨k1, k2⟩ := sL_nxt h
    obtain ⟨m1, m2⟩ := hL_nxt h
    have m3 := m2 (by simp)
    obtain ⟨s4', e⟩ := for_level a (.dat (.list ((t :: r).map enc))) (.dat (.int (f : Int))) cu (t :: r) [] s4 h (by rw [List.length_nil]; omega)
    rw [List.nil_append] at e
    have body : wb__law_height_0 (hS a (.dat (.list ((t :: r).map enc))) (.dat (.int (f : Int))) s3 s4) cu = .ok (.nx (hS a (.dat (.list ((nxt (t :: r)).map enc))) (.dat (.int ((f + 1 : Nat) : Int))) (.dat (.list ((nxt (t :: r)).map enc))) s4')) cu := by
      refine rSeq (cu1 := cu) (rSetO (ds := []) (by kernel_rfl)) (rSeq (rFor (items := (t :: r).map enc) ?_ e) (rFrz rfl (rPar (aC (kVar rfl) (aC (kBin (kVar rfl) kC ?_) aN)))))
      · kernel_rfl
      · show dAdd (.int (f : Int)) (.int 1) = some (.int ((f + 1 : Nat) : Int))
        rw [dAdd_int]
        rfl
    obtain ⟨L', s3', s4'', e2⟩ := h_loop a cu n (nxt (t :: r)) (f + 1) (.dat (.list ((nxt (t :: r)).map enc))) s4' (fun p hp => by
      obtain ⟨q, hq, hp⟩ := List.mem_flatMap.mp hp
      exact parts_Ok (h q hq) p hp) (by omega) (by omega)
    refine ⟨L', s3', s4'', (whNx et body).trans (e2.trans ?_)⟩
    rw [show f + 1 + hL (nxt (t :: r)) = f + hL (t :: r) by omega]
theorem height_eq {t : TM.Tm} (h : Ok t) (hd : dep t < 99999) (hs : siz t ≤ 1000000) (cu : Cu) : G__law_height [.dat (enc t)] cu = .ok (.int (dep t : Int)) cu := by
  have e1 : hL [t] = dep t := by simp [hL]
  have e2 : sL [t] = siz t := by simp [sL]
  obtain ⟨L', s3', s4', e⟩ := h_loop (.dat (enc t)) cu 100000 [t] 0 .un .un (fun p hp => by cases List.mem_singleton.mp hp; exact h) (by omega) (by omega)
  rw [e1, Nat.zero_add] at e
  refine kFn (rSeq (ρ1 := hS (.dat (enc t)) (.dat (.list [enc t])) (.dat (.int 0)) .un .un) (cu1 := cu) ?_ (rSeq (show gWhile _ _ _ _ cu = _ from e) (rRet (kVar rfl))))
  show gPar 1 2 _ [.dat (enc t), .un, .un, .un, .un] cu = _
  generalize enc t = a
  kernel_rfl
end Prog

set_option Elab.async false
set_option linter.all false
set_option maxRecDepth 100000
set_option maxHeartbeats 1600000
set_option autoImplicit false
set_option exponentiation.threshold 4000
namespace Prog
open PySem L2 DL TM
/-- the tuple of a path -/
abbrev pT (P : List Nat) : PyData := .tuple (P.map nI)
theorem dEqT_nil (P : List Nat) : dEq (pT P) (.tuple []) = some (.bool P.isEmpty) := by
  have h : ∀ d ∈ P.map nI, ∃ i, d = PyData.int i := fun d hd => by
    obtain ⟨n, _, rfl⟩ := List.mem_map.mp hd
    exact ⟨_, rfl⟩
  obtain ⟨h1, h2⟩ := lay_ints h
  cases P with
  | nil => rfl
  | cons n r =>
    have s1 : SeqAt.shaped (pT (n :: r)) = true := by
      unfold SeqAt.shaped
      rw [show (pT (n :: r)).canLay0 = PyData.canLayAll0 ((n :: r).map nI) from by simp only [PyData.canLay0], h1, show (pT (n :: r)).depth = PyData.depthAll ((n :: r).map nI) + 1 from by simp only [PyData.depth], h2]
      rfl
    have s2 : SeqAt.shaped (.tuple []) = true := by decide +kernel
    simp [dEq, eqD, s1, s2, PyData.eqv, PyData.eqvAll]
/-- the part at a path -/
def at_ : TM.Tm → List Nat → Option TM.Tm
  | t, [] => some t
  | t, i :: p => ((parts t)[i]?).bind fun u => at_ u p
theorem at_app {u v : TM.Tm} : ∀ {P : List Nat} {i : Nat} {t : TM.Tm}, at_ t P = some u → (parts u)[i]? = some v → at_ t (P ++ [i]) = some v
  | [], i, t, h, hv => by
    cases h
    show ((parts u)[i]?).bind (fun w => at_ w []) = some v
    rw [hv]; rfl
  | j :: p, i, t, h, hv => by
    have h : ((parts t)[j]?).bind (fun u => at_ u p) = some u := h
    show ((parts t)[j]?).bind (fun u => at_ u (p ++ [i])) = some v
    obtain ⟨w, e1, e2⟩ := Option.bind_eq_some_iff.mp h
    rw [e1, Option.bind_some]
    exact at_app (t := w) e2 hv
def put : TM.Tm → List Nat → PyData → TM.Tm
  | _, [], d => .bad d
  | .un s t, _ :: p, d => .un s (put t p d)
  | .pow t e, _ :: p, d => .pow (put t p d) e
  | .bi s a b, i :: p, d => if i = 0 then .bi s (put a p d) b else .bi s a (put b p d)
  | t, _, d => .bad d
theorem put_ok {B : PyData → Prop} {d : PyData} (hd : B d) : ∀ {P : List Nat} {t u : TM.Tm}, Ok t → at_ t P = some u → OkB B (put t P d) ∧ clean (put t P d) = false
  | [], t, u, _, _ => by cases t <;> exact ⟨hd, rfl⟩
  | i :: p, .whole _, u, h, e => by simp [at_, parts] at e
  | i :: p, .x, u, h, e => by simp [at_, parts] at e
  | i :: p, .un s t, u, h, e => by
    cases i with
    | zero => exact put_ok hd (P := p) (t := t) h e
    | succ i => simp [at_, parts] at e
  | i :: p, .pow t k, u, h, e => by
    cases i with
    | zero => have z := put_ok hd (P := p) h.1 e; exact ⟨⟨z.1, h.2⟩, z.2⟩
    | succ i => simp [at_, parts] at e
  | i :: p, .bi s a b, u, h, e => by
    cases i with
    | zero =>
      have z := put_ok hd (P := p) h.1 e
      refine ⟨⟨z.1, h.2.okB⟩, ?_⟩
      show (clean (put a p d) && clean b) = false
      rw [z.2]; rfl
    | succ i => cases i with
      | zero =>
        have z := put_ok hd (P := p) h.2 e
        refine ⟨⟨h.1.okB, z.1⟩, ?_⟩
        show (clean a && clean (put b p d)) = false
        rw [z.2, Bool.and_false]
      | succ i => simp [at_, parts] at e
  | _ :: _, .bad _, _, h, _ => h.elim
/-! the odd values -/
abbrev ODDS : List PyData := [.none, .int 3, .bool true, .tuple [], .str "x", .list [.str "x"], .tuple [.str "x", .int 1], .tuple [.str "y"], .tuple [.str "whole", .int (-1)], .tuple [.str "whole", .int 1000001], .tuple [.str "whole", .bool true], .tuple [.str "whole"],
  .tuple [.str "negative"], .tuple [.str "plus", .tuple [.str "x"]], .tuple [.str "power", .tuple [.str "x"], .int 13], .tuple [.str "power", .tuple [.str "x"], .int (-1)], .tuple [.str "power", .tuple [.str "x"], .bool true],
  .tuple [.str "power", .tuple [.str "x"]], .tuple [.str "log", .tuple [.str "x"], .int 1], .tuple [.str "x", .tuple [.str "x"]], .tuple [.str "times", .tuple [.str "x"], .tuple [.str "x"], .tuple [.str "x"]], .tuple [.tuple [.str "x"]]]
theorem odds_bad : ∀ d ∈ ODDS, Bad d := by
  intro d hd
  simp only [ODDS, List.mem_cons, List.not_mem_nil, or_false] at hd
  rcases hd with q | q | q | q | q | q | q | q | q | q | q | q | q | q | q | q | q | q | q | q | q | q <;> (subst q; intro cu; kernel_rfl)
theorem odd_ex (cu : Cu) : ∃ d c, Bad d ∧ G__law_odd [.cup] cu = .ok d c := by
  obtain ⟨d, hd, c, e⟩ := some_in ODDS (by decide) (by decide) cu
  refine ⟨d, c, odds_bad d hd, kFn ?_⟩
  have q : g__law_odd [.cup, .un] cu = ta__law_odd_0 [.cup, .dat (.list ODDS)] cu := by kernel_rfl
  exact q.trans (rRet (kApp (aCup rfl (aC (kVar rfl) aN)) e))
end Prog

set_option Elab.async false
set_option linter.all false
set_option maxRecDepth 100000
set_option maxHeartbeats 1600000
set_option autoImplicit false
set_option exponentiation.threshold 4000
namespace Prog
open PySem L2 DL TM
theorem rng1_nat {i : Nat} (h : i < 1000000) : dRng1 [.int (i : Int)] = some (rngD 0 i) := by
  rw [dRng1, if_pos ⟨by omega, by omega⟩, Int.toNat_natCast]
/-! a path drawn -/
abbrev pS (a p s3 s4 s5 : Sl) : En := [.cup, a, p, s3, s4, s5]
theorem path_add {P : List Nat} {i : Nat} (h : P.length ≤ 1000) : dAdd (pT P) (.tuple [nI i]) = some (pT (P ++ [i])) := by
  show (if _ then some _ else none) = _
  rw [if_pos (by rw [List.length_map, List.length_singleton]; omega)]
  show some (PyData.tuple _) = some (PyData.tuple _)
  rw [List.map_append]
  rfl
theorem path_turn {t cur : TM.Tm} {P : List Nat} (hP : at_ t P = some cur) (hc : Ok cur) (hl : P.length ≤ 1000) (s3 s4 s5 : Sl) (cu : Cu) :
    ∃ P' cur' s4' s5' c, at_ t P' = some cur' ∧ Ok cur' ∧ P'.length ≤ P.length + 1 ∧ fb__law_path_0 (pS (.dat (enc cur)) (.dat (pT P)) s3 s4 s5) cu = .ok (.nx (pS (.dat (enc cur')) (.dat (pT P')) s3 s4' s5')) c := by
  have e1 : gSet 4 (gApp 1 G__law_parts (gaCons (gVar 1) gaNil)) (pS (.dat (enc cur)) (.dat (pT P)) s3 s4 s5) cu = .ok (.nx (pS (.dat (enc cur)) (.dat (pT P)) s3 (.dat (.tuple ((parts cur).map enc))) s5)) cu := rSet (kApp (aC (kVar rfl) aN) (lp_enc hc cu))
  have e2 : gBin (fB0 fun i j => decide (j < i)) (gCall dLen (gaCons (gVar 4) gaNil)) (gC (.int 0)) (pS (.dat (enc cur)) (.dat (pT P)) s3 (.dat (.tuple ((parts cur).map enc))) s5) cu = .ok (.bool (decide (0 < (((parts cur).map enc).length : Int)))) cu :=
    kBin (a := .int (((parts cur).map enc).length : Int)) (kCall (aC (kVar rfl) aN) (dLen_tup ..)) kC rfl
  by_cases h0 : parts cur = []
  · refine ⟨P, cur, _, s5, cu, hP, hc, by omega, rSeq e1 (rIfF (tBool ?_) rSkip)⟩
    rw [e2, h0]
    rfl
  · have hp : 0 < (parts cur).length := List.length_pos_iff.mpr h0
    obtain ⟨v, c, v0, v1, e⟩ := roll_ex (((parts cur).map enc).length : Int) (by rw [List.length_map]; omega) (by rw [List.length_map]; have := parts_len cur; exact Nat.lt_of_le_of_lt (m := 2) (by omega) (by decide)) cu
    obtain ⟨i, rfl⟩ := Int.eq_ofNat_of_zero_le v0
    rw [List.length_map] at v1
    have hi : i < (parts cur).length := by omega
    refine ⟨P ++ [i], (parts cur)[i], _, _, c, at_app hP (List.getElem?_eq_getElem hi), parts_Ok hc _ (List.getElem_mem hi), by rw [List.length_append, List.length_singleton]; omega, rSeq e1 (rIfT (tBool ?_) (rSeq (rSet (kApp (aCup rfl (aC (kCall (aC (kVar rfl) aN) (dLen_tup ..)) aN)) e)) (rPar (aC (kBin (kVar rfl) (kDisp (aC (kVar rfl) aN) rfl (by show 1 ≤ 16777216; decide)) (path_add hl)) (aC (kBin (kVar rfl) (kVar rfl) ?_) aN)))))⟩
    · rw [e2, decide_eq_true (by rw [List.length_map]; omega)]
    · rw [dIx_tup]
      exact atI_nat (by rw [List.getElem?_map, List.getElem?_eq_getElem hi]; rfl)
theorem path_loop {t : TM.Tm} : ∀ (items : List PyData) {cur : TM.Tm} {P : List Nat}, at_ t P = some cur → Ok cur → P.length + items.length ≤ 1000 → ∀ (s3 s4 s5 : Sl) (cu : Cu),
    ∃ P' cur' s3' s4' s5' c, at_ t P' = some cur' ∧ P'.length ≤ P.length + items.length ∧ gForL (ggName 3) fb__law_path_0 items (pS (.dat (enc cur)) (.dat (pT P)) s3 s4 s5) cu = .ok (.nx (pS (.dat (enc cur')) (.dat (pT P')) s3' s4' s5')) c
  | [], cur, P, hP, _, _, s3, s4, s5, cu => ⟨P, cur, s3, s4, s5, cu, hP, by simp, rfl⟩
  | d :: r, cur, P, hP, hc, hl, s3, s4, s5, cu => by
    rw [List.length_cons] at hl
    obtain ⟨P1, cur1, s41, s51, c1, a1, a2, a3, a4⟩ := path_turn hP hc (by omega) (.dat d) s4 s5 cu
    obtain ⟨P2, cur2, s32, s42, s52, c2, b1, b2, b3⟩ := path_loop r a1 a2 (by omega) (.dat d) s41 s51 c1
    exact ⟨P2, cur2, s32, s42, s52, c2, b1, by rw [List.length_cons]; omega, rForC (ρ1 := pS (.dat (enc cur)) (.dat (pT P)) (.dat d) s4 s5) rfl a4 b3⟩
theorem path_ex {t : TM.Tm} (h : Ok t) (cu : Cu) : ∃ P u c, at_ t P = some u ∧ P.length ≤ 4 ∧ G__law_path [.cup, .dat (enc t)] cu = .ok (pT P) c := by
  obtain ⟨v, c, v0, v1, e⟩ := roll_ex 5 (by decide) (by decide) cu
  obtain ⟨i, rfl⟩ := Int.eq_ofNat_of_zero_le v0
  obtain ⟨P, u, s3, s4, s5, c2, a1, a2, a3⟩ := path_loop (t := t) (rngD 0 i) (cur := t) (P := []) rfl h (by rw [rng_len]; simp; omega) .un .un .un c
  rw [rng_len, List.length_nil] at a2
  refine ⟨P, u, c2, a1, by omega, kFn (rSeq (ρ1 := pS (.dat (enc t)) (.dat (pT [])) .un .un .un) (cu1 := cu) (rSet (kDisp aN)) (rSeq (rFor (iArg (aC (kApp (aCup rfl (aC kC aN)) e) aN) ?_) a3) (rRet (kVar rfl))))⟩
  exact rng1_nat (by omega)
/-! a value put -/
section
variable {self : GF} {x d a a' b : PyData} {i : Nat} {p : List Nat} {cu : Cu} {s3 : Sl}
theorem ix0 (i : Nat) (p : List Nat) : dIx (pT (i :: p)) (.int 0) = some (nI i) := by
  rw [dIx_tup]
  exact atI_nat (j := 0) rfl
abbrev qS (x : PyData) (P : List Nat) (d : PyData) (s3 s4 s5 : Sl) : En := [.dat x, .dat (pT P), .dat d, s3, s4, s5]
theorem le_hit (h : self [.dat a, .dat (pT p), .dat d] cu = .ok a' cu) : le__law_put_0 self (qS x (i :: p) d s3 (.dat (.int (i : Int))) (.dat a)) cu = .ok a' cu := by
  have hc : dCut (pT (i :: p)) (some 1) none = some (pT p) := by rw [dCut_tup]; show some (PyData.tuple (cutD (nI i :: p.map nI) (some 1) none)) = _; rw [cutD_1]
  have he : dEq (.int (i : Int)) (nI i) = some (.bool true) := by show some (PyData.bool (decide ((i : Int) = (i : Int)))) = _; rw [decide_eq_true rfl]
  exact kIfT (tBool (kBin (kVar rfl) (kBin (z := nI i) (kVar rfl) kC (ix0 i p)) he)) (kApp (aC (kVar rfl) (aC (kSlice (kVar rfl) (oI kC) oN hc) (aC (kVar rfl) aN))) h)
theorem le_miss {j : Nat} (hj : j ≠ i) : le__law_put_0 self (qS x (i :: p) d s3 (.dat (.int (j : Int))) (.dat a)) cu = .ok a cu := by
  have he : dEq (.int (j : Int)) (nI i) = some (.bool false) := by show some (PyData.bool (decide ((j : Int) = (i : Int)))) = _; rw [decide_eq_false (by omega)]
  exact kIfF (tBool (kBin (kVar rfl) (kBin (z := nI i) (kVar rfl) kC (ix0 i p)) he)) (kVar rfl)
theorem lc1 {y : PyData} (h : le__law_put_0 self (qS x (i :: p) d .un (.dat (.int 0)) (.dat a)) cu = .ok y cu) : gLcL (ggTup 2 (ggCons (ggName 4) (ggCons (ggName 5) ggNil))) gYes (le__law_put_0 self) (enumF 0 [a]) (qS x (i :: p) d .un .un .un) cu = .ok [y] cu := by
  show gLcL _ _ _ [.tuple [.int 0, a]] _ cu = _
  rw [gLcL_cons, show (ggTup 2 (ggCons (ggName 4) (ggCons (ggName 5) ggNil))) (.tuple [.int 0, a]) (qS x (i :: p) d .un .un .un) = some (qS x (i :: p) d .un (.dat (.int 0)) (.dat a)) from rfl, Rs.ofO_some, Rs.bind_ok,
    show gYes (qS x (i :: p) d .un (.dat (.int 0)) (.dat a)) cu = .ok true cu from rfl, Rs.nox_ok, Rs.bind_ok, if_pos rfl, h, Rs.nox_ok, Rs.bind_ok, gLcL_nil, Rs.bind_ok]
theorem lc2 {y z : PyData} (h : le__law_put_0 self (qS x (i :: p) d .un (.dat (.int 0)) (.dat a)) cu = .ok y cu) (h2 : le__law_put_0 self (qS x (i :: p) d .un (.dat (.int 1)) (.dat b)) cu = .ok z cu) :
    gLcL (ggTup 2 (ggCons (ggName 4) (ggCons (ggName 5) ggNil))) gYes (le__law_put_0 self) (enumF 0 [a, b]) (qS x (i :: p) d .un .un .un) cu = .ok [y, z] cu := by
  show gLcL _ _ _ [.tuple [.int 0, a], .tuple [.int 1, b]] _ cu = _
  rw [gLcL_cons, show (ggTup 2 (ggCons (ggName 4) (ggCons (ggName 5) ggNil))) (.tuple [.int 0, a]) (qS x (i :: p) d .un .un .un) = some (qS x (i :: p) d .un (.dat (.int 0)) (.dat a)) from rfl, Rs.ofO_some, Rs.bind_ok,
    show gYes (qS x (i :: p) d .un (.dat (.int 0)) (.dat a)) cu = .ok true cu from rfl, Rs.nox_ok, Rs.bind_ok, if_pos rfl, h, Rs.nox_ok, Rs.bind_ok,
    gLcL_cons, show (ggTup 2 (ggCons (ggName 4) (ggCons (ggName 5) ggNil))) (.tuple [.int 1, b]) (qS x (i :: p) d .un .un .un) = some (qS x (i :: p) d .un (.dat (.int 1)) (.dat b)) from rfl, Rs.ofO_some, Rs.bind_ok,
    show gYes (qS x (i :: p) d .un (.dat (.int 1)) (.dat b)) cu = .ok true cu from rfl, Rs.nox_ok, Rs.bind_ok, if_pos rfl, h2, Rs.nox_ok, Rs.bind_ok, gLcL_nil, Rs.bind_ok, Rs.bind_ok]
/-- the rows of a put below the top -/
theorem put_rows {ps ys : List PyData} {r : PyData} (hl : G__law_parts [.dat x] cu = .ok (.tuple ps) cu) (hn : ps.length ≤ 2) (hc : gLcL (ggTup 2 (ggCons (ggName 4) (ggCons (ggName 5) ggNil))) gYes (le__law_put_0 self) (enumF 0 ps) (qS x (i :: p) d .un .un .un) cu = .ok ys cu)
    (hr : ta__law_put_0 self (qS x (i :: p) d (.dat (.list ys)) .un .un) cu = .ok (.ret r) cu) : gFn 6 (g__law_put self) [.dat x, .dat (pT (i :: p)), .dat d] cu = .ok r cu := by
  refine kFn (rSeq (rIfF (tBool (kBin (kVar rfl) (kDisp aN) (dEqT_nil (i :: p)))) rSkip) ?_)
  unfold ta__law_put_1
  refine rSeq (rSet (kLst (kLc (items := enumF 0 ps) (iArg (aC (kApp (aC (kVar rfl) aN) hl) aN) rfl) ?_ hc))) hr
  rw [enumF_len]
  omega
end
theorem pz_un (self : GF) (s : US) (a y q d : PyData) (cu : Cu) : ta__law_put_0 self [.dat (.tuple [.str s.str, a]), .dat q, .dat d, .dat (.list [y]), .un, .un] cu = .ok (.ret (.tuple [.str s.str, y])) cu := by cases s <;> kernel_rfl
theorem pz_pow (self : GF) (a y q d : PyData) (e : Int) (cu : Cu) : ta__law_put_0 self [.dat (.tuple [.str "power", a, .int e]), .dat q, .dat d, .dat (.list [y]), .un, .un] cu = .ok (.ret (.tuple [.str "power", y, .int e])) cu := by kernel_rfl
theorem pz_bi (self : GF) (s : BS) (a b y z q d : PyData) (cu : Cu) : ta__law_put_0 self [.dat (.tuple [.str s.str, a, b]), .dat q, .dat d, .dat (.list [y, z]), .un, .un] cu = .ok (.ret (.tuple [.str s.str, y, z])) cu := by cases s <;> kernel_rfl
theorem put_eq (d : PyData) (cu : Cu) : ∀ (P : List Nat) (n : Nat) {t u : TM.Tm}, P.length < n → Ok t → at_ t P = some u → G__law_put n [.dat (enc t), .dat (pT P), .dat d] cu = .ok (enc (put t P d)) cu
  | _, 0, _, _, h, _, _ => absurd h (Nat.not_lt_zero _)
  | [], n + 1, t, u, _, _, _ => by
    have e : enc (put t [] d) = d := by cases t <;> rfl
    rw [e]
    exact kFn (rSeqR (rIfT (tBool (kBin (kVar rfl) (kDisp aN) (dEqT_nil []))) (rRet (kVar rfl))))
  | i :: p, n + 1, .whole _, u, _, _, e => by simp [at_, parts] at e
  | i :: p, n + 1, .x, u, _, _, e => by simp [at_, parts] at e
  | i :: p, n + 1, .un s t, u, hn, h, e => by
    cases i with
    | succ i => simp [at_, parts] at e
    | zero => exact put_rows (lp_enc (t := .un s t) h cu) (parts_len (.un s t)) (lc1 (le_hit (put_eq d cu p n (by rw [List.length_cons] at hn; omega) h e))) (pz_un _ s _ _ _ _ cu)
  | i :: p, n + 1, .pow t k, u, hn, h, e => by
    cases i with
    | succ i => simp [at_, parts] at e
    | zero => exact put_rows (lp_enc (t := .pow t k) h cu) (parts_len (.pow t k)) (lc1 (le_hit (put_eq d cu p n (by rw [List.length_cons] at hn; omega) h.1 e))) (pz_pow _ _ _ _ _ k cu)
  | i :: p, n + 1, .bi s a b, u, hn, h, e => by
    cases i with
    | zero => exact put_rows (lp_enc (t := .bi s a b) h cu) (parts_len (.bi s a b)) (lc2 (le_hit (put_eq d cu p n (by rw [List.length_cons] at hn; omega) h.1 e)) (le_miss (j := 1) (by omega))) (pz_bi _ s _ _ _ _ _ _ cu)
    | succ i => cases i with
      | succ i => simp [at_, parts] at e
      | zero => exact put_rows (lp_enc (t := .bi s a b) h cu) (parts_len (.bi s a b)) (lc2 (le_miss (j := 0) (by omega)) (le_hit (i := 1) (put_eq d cu p n (by rw [List.length_cons] at hn; omega) h.2 e))) (pz_bi _ s _ _ _ _ _ _ cu)
  | _ :: _, _ + 1, .bad _, _, _, h, _ => h.elim
end Prog

set_option Elab.async false
set_option linter.all false
set_option maxRecDepth 100000
set_option maxHeartbeats 1600000
set_option autoImplicit false
set_option exponentiation.threshold 4000
namespace Prog
open PySem L2 DL TM PySem.W
/-! the size of a term -/
def mx (i j : Int) : Int := if j > i then j else i
def szP : TM.Tm → Int × Int
  | .whole _ => (0, 0)
  | .x => (1, 0)
  | .un .neg t => szP t
  | .un .exp _ => (1, 0)
  | .un .log _ => (1, 0)
  | .pow t e => ((szP t).1 * e, (szP t).2 * e)
  | .bi .times a b => ((szP a).1 + (szP b).1, (szP a).2 + (szP b).2)
  | .bi .over a b => ((szP a).1 + (szP b).2, (szP a).2 + (szP b).1)
  | .bi .plus a b => (mx ((szP a).1 + (szP b).2) ((szP a).2 + (szP b).1), (szP a).2 + (szP b).2)
  | .bi .minus a b => (mx ((szP a).1 + (szP b).2) ((szP a).2 + (szP b).1), (szP a).2 + (szP b).2)
  | .bad _ => (0, 0)
abbrev pD (p : Int × Int) : PyData := .tuple [.int p.1, .int p.2]
section
variable (cu : Cu)
theorem sfp_whole (e : Int) (l : List PyData) : G_size_from_parts [.dat (.tuple [.str "whole", .int e]), .dat (.list l)] cu = .ok (pD (0, 0)) cu := by kernel_rfl
theorem sfp_x (l : List PyData) : G_size_from_parts [.dat (.tuple [.str "x"]), .dat (.list l)] cu = .ok (pD (1, 0)) cu := by kernel_rfl
theorem sfp_neg (a : PyData) (i j : Int) : G_size_from_parts [.dat (.tuple [.str "negative", a]), .dat (.list [.tuple [.int i, .int j]])] cu = .ok (pD (i, j)) cu := by kernel_rfl
theorem sfp_exp (a : PyData) (l : List PyData) : G_size_from_parts [.dat (.tuple [.str "exp", a]), .dat (.list l)] cu = .ok (pD (1, 0)) cu := by kernel_rfl
theorem sfp_log (a : PyData) (l : List PyData) : G_size_from_parts [.dat (.tuple [.str "log", a]), .dat (.list l)] cu = .ok (pD (1, 0)) cu := by kernel_rfl
theorem sfp_pow (a : PyData) (e i j : Int) (h1 : mulOk e i = true) (h2 : mulOk e j = true) : G_size_from_parts [.dat (.tuple [.str "power", a, .int e]), .dat (.list [.tuple [.int i, .int j]])] cu = .ok (pD (e * i, e * j)) cu := by
  have m1 : dMul (.int e) (.int i) = some (.int (e * i)) := if_pos h1
  have m2 : dMul (.int e) (.int j) = some (.int (e * j)) := if_pos h2
  have s1 : g_size_from_parts [.dat (.tuple [.str "power", a, .int e]), .dat (.list [.tuple [.int i, .int j]]), .un, .un, .un, .un, .un] cu = ta_size_from_parts_0 [.dat (.tuple [.str "power", a, .int e]), .dat (.list [.tuple [.int i, .int j]]), .dat (.str "power"), .dat (.int i), .dat (.int j), .un, .un] cu := by kernel_rfl
  have s2 : ta_size_from_parts_0 [.dat (.tuple [.str "power", a, .int e]), .dat (.list [.tuple [.int i, .int j]]), .dat (.str "power"), .dat (.int i), .dat (.int j), .un, .un] cu = .ok (.ret (pD (e * i, e * j))) cu :=
    rSeqR (rIfT (cu1 := cu) (by kernel_rfl) (rRet (kDisp (aC (kBin (a := .int e) (cu1 := cu) (by kernel_rfl) (kVar rfl) m1) (aC (kBin (a := .int e) (cu1 := cu) (by kernel_rfl) (kVar rfl) m2) aN)) rfl (by show 2 ≤ 16777216; decide))))
  exact kFn (s1.trans s2)
theorem sfp_times (a b : PyData) (i j k m : Int) : G_size_from_parts [.dat (.tuple [.str "times", a, b]), .dat (.list [.tuple [.int i, .int j], .tuple [.int k, .int m]])] cu = .ok (pD (i + k, j + m)) cu := by kernel_rfl
theorem sfp_over (a b : PyData) (i j k m : Int) : G_size_from_parts [.dat (.tuple [.str "over", a, b]), .dat (.list [.tuple [.int i, .int j], .tuple [.int k, .int m]])] cu = .ok (pD (i + m, j + k)) cu := by kernel_rfl
theorem sfp_plus (a b : PyData) (i j k m : Int) : G_size_from_parts [.dat (.tuple [.str "plus", a, b]), .dat (.list [.tuple [.int i, .int j], .tuple [.int k, .int m]])] cu = .ok (pD (mx (i + m) (k + j), j + m)) cu := by kernel_rfl
theorem sfp_minus (a b : PyData) (i j k m : Int) : G_size_from_parts [.dat (.tuple [.str "minus", a, b]), .dat (.list [.tuple [.int i, .int j], .tuple [.int k, .int m]])] cu = .ok (pD (mx (i + m) (k + j), j + m)) cu := by kernel_rfl
end
theorem iSeqT {ga : GE} {ρ : En} {cu cu1 : Cu} {ds : List PyData} (ha : ga ρ cu = .ok (.tuple ds) cu1) : giSeq ga ρ cu = .ok ds cu1 := by
  unfold giSeq
  rw [ha, Rs.bind_ok]
  rfl
/-- what is multiplied in a size -/
def Mo : TM.Tm → Prop
  | .un _ t => Mo t
  | .pow t e => Mo t ∧ mulOk e (szP t).1 = true ∧ mulOk e (szP t).2 = true
  | .bi _ a b => Mo a ∧ Mo b
  | _ => True
theorem sfp_enc : ∀ {t : TM.Tm}, Ok t → Mo t → ∀ cu, G_size_from_parts [.dat (enc t), .dat (.list ((parts t).map fun p => pD (szP p)))] cu = .ok (pD (szP t)) cu
  | .whole e, _, _, cu => sfp_whole cu e _
  | .x, _, _, cu => sfp_x cu _
  | .un .neg t, _, _, cu => sfp_neg cu (enc t) _ _
  | .un .exp t, _, _, cu => sfp_exp cu (enc t) _
  | .un .log t, _, _, cu => sfp_log cu (enc t) _
  | .pow t e, _, m, cu => by
    have h := sfp_pow cu (enc t) e (szP t).1 (szP t).2 m.2.1 m.2.2
    rw [Int.mul_comm e, Int.mul_comm e] at h
    exact h
  | .bi .times a b, _, _, cu => sfp_times cu (enc a) (enc b) _ _ _ _
  | .bi .over a b, _, _, cu => sfp_over cu (enc a) (enc b) _ _ _ _
  | .bi .plus a b, _, _, cu => by
    have h := sfp_plus cu (enc a) (enc b) (szP a).1 (szP a).2 (szP b).1 (szP b).2
    rw [Int.add_comm (szP b).1] at h
    exact h
  | .bi .minus a b, _, _, cu => by
    have h := sfp_minus cu (enc a) (enc b) (szP a).1 (szP a).2 (szP b).1 (szP b).2
    rw [Int.add_comm (szP b).1] at h
    exact h
  | .bad _, h, _, _ => h.elim
theorem notbad {t : TM.Tm} (h : Ok t) : ∀ d, t ≠ .bad d := fun d e => by rw [e] at h; exact h
/-- a comprehension over the parts of a term -/
theorem lc_parts {f : TM.Tm → PyData} {le : GE} {a : Sl} {cu : Cu} : ∀ ps : List TM.Tm, (∀ p ∈ ps, le [a, .dat (enc p)] cu = .ok (f p) cu) → gLcL (ggName 1) gYes le (ps.map enc) [a, .un] cu = .ok (ps.map f) cu
  | [], _ => rfl
  | p :: r, h => by
    show gLcL _ _ _ (enc p :: r.map enc) _ cu = _
    rw [gLcL_cons, show ggName 1 (enc p) [a, .un] = some [a, .dat (enc p)] from rfl, Rs.ofO_some, Rs.bind_ok, show gYes [a, .dat (enc p)] cu = .ok true cu from rfl, Rs.nox_ok, Rs.bind_ok, if_pos rfl, h p (.head _), Rs.nox_ok, Rs.bind_ok, lc_parts r (fun x hx => h x (.tail _ hx)), Rs.bind_ok]
    rfl
theorem parts_Mo {t : TM.Tm} (h : Mo t) : ∀ p ∈ parts t, Mo p := by
  intro p hp
  cases t with
  | un s t => cases List.mem_singleton.mp hp; exact h
  | pow t e => cases List.mem_singleton.mp hp; exact h.1
  | bi s a b =>
    rcases List.mem_cons.mp hp with rfl | hp
    · exact h.1
    · cases List.mem_singleton.mp hp; exact h.2
  | _ => cases hp
theorem size_eq : ∀ (n : Nat) (t : TM.Tm), dep t ≤ n → Ok t → Mo t → ∀ cu, G_size_within n [.dat (enc t)] cu = .ok (pD (szP t)) cu
  | 0, t, h, _, _, _ => absurd (dep_pos t) (by omega)
  | n + 1, t, h, ht, hm, cu => by
    have l := lc_parts (f := fun p => pD (szP p)) (le := le_size_within_0 (G_size_within n)) (a := .dat (enc t)) (cu := cu) (parts t) fun p hp => kApp (aC (kVar rfl) aN) (size_eq n p (by have := parts_dep hp; omega) (parts_Ok ht p hp) (parts_Mo hm p hp) cu)
    exact kFn (rRet (kApp (aC (kVar rfl) (aC (kLst (kLc (items := (parts t).map enc) (iSeqT (kApp (aC (kVar rfl) aN) (pw_enc (notbad ht) cu))) (by rw [List.length_map]; have := parts_len t; omega) l)) aN)) (sfp_enc ht hm cu)))
theorem hfold : ∀ (r : List TM.Tm) (k : Nat), (r.map fun p => (dep p : Int)).foldl (fun a y => if DatumOrd.lt a y = true then y else a) (k : Int) = ((max k (hL r) : Nat) : Int)
  | [], k => by show (k : Int) = ((max k 0 : Nat) : Int); rw [Nat.max_zero]
  | p :: r, k => by
    have e : (if DatumOrd.lt (k : Int) (dep p : Int) = true then (dep p : Int) else (k : Int)) = ((max k (dep p) : Nat) : Int) := by
      show (if decide ((k : Int) < (dep p : Int)) = true then (dep p : Int) else (k : Int)) = _
      split
      · rename_i h; have := of_decide_eq_true h; congr 1; omega
      · rename_i h; have := of_decide_eq_false (Bool.eq_false_iff.mpr h); congr 1; omega
    rw [List.map_cons, List.foldl_cons, e, hfold r, hL_cons]
    congr 1
    omega
theorem hmax (ps : List TM.Tm) : maxDef 0 (ps.map fun p => (dep p : Int)) = ((hL ps : Nat) : Int) := by
  cases ps with
  | nil => rfl
  | cons p r => exact hfold r (dep p)
theorem intsD_map (f : TM.Tm → Int) : ∀ ps : List TM.Tm, intsD (ps.map fun p => PyData.int (f p)) = some (ps.map f)
  | [] => rfl
  | p :: r => by
    show (intsD (r.map fun p => PyData.int (f p))).map (fun ns => f p :: ns) = _
    rw [intsD_map f r]
    rfl
theorem high_eq : ∀ (n : Nat) (t : TM.Tm), dep t ≤ n → Ok t → ∀ cu, G_height_within n [.dat (enc t)] cu = .ok (.int (dep t : Int)) cu
  | 0, t, h, _, _ => absurd (dep_pos t) (by omega)
  | n + 1, t, h, ht, cu => by
    have l := lc_parts (f := fun p => .int (dep p : Int)) (le := le_height_within_0 (G_height_within n)) (a := .dat (enc t)) (cu := cu) (parts t) fun p hp => kApp (aC (kVar rfl) aN) (high_eq n p (by have := parts_dep hp; omega) (parts_Ok ht p hp) cu)
    have e : gMaxDef (gL (gLc (giSeq (gApp 1 G_parts_within (gaCons (gVar 0) gaNil))) [1] (ggName 1) gYes (le_height_within_0 (G_height_within n)))) (gC (.int 0)) [.dat (enc t), .un] cu = .ok (.int ((hL (parts t) : Nat) : Int)) cu := by
      unfold gMaxDef
      rw [kLst (kLc (items := (parts t).map enc) (iSeqT (kApp (aC (kVar rfl) aN) (pw_enc (notbad ht) cu))) (by rw [List.length_map]; have := parts_len t; omega) l), Rs.bind_ok, show gC (.int 0) [.dat (enc t), .un] cu = .ok (.int 0) cu from rfl, Rs.bind_ok]
      dsimp only
      rw [intsD_map, Option.map_some, hmax]
      rfl
    refine kFn (rRet (kBin kC e ?_))
    rw [dAdd_int, dep_parts ht]
    congr 2
    omega
end Prog

set_option Elab.async false
set_option linter.all false
set_option maxRecDepth 100000
set_option maxHeartbeats 1600000
set_option autoImplicit false
set_option exponentiation.threshold 4000
namespace Prog
open PySem L2 DL TM
/-! the law's own size -/
abbrev zS (t : PyData) (a b c d : Sl) : En := [.dat t, a, b, c, d]
/-- a term made again of one, or of two parts of what is behind the name -/
inductive Cns where
  | neg | pow (e : Int) | two (s : BS)
def Cns.row (s : Str) (xs : List PyData) : PyData := .tuple (.str s :: xs)
section
variable (self : GF) (cu : Cu)
theorem z_whole (e : Int) : g__law_size self (zS (.tuple [.str "whole", .int e]) .un .un .un .un) cu = .ok (.ret (pD (0, 0))) cu := by kernel_rfl
theorem z_x : g__law_size self (zS (.tuple [.str "x"]) .un .un .un .un) cu = .ok (.ret (pD (1, 0))) cu := by kernel_rfl
theorem z_exp (a : PyData) : g__law_size self (zS (.tuple [.str "exp", a]) .un .un .un .un) cu = .ok (.ret (pD (1, 0))) cu := by kernel_rfl
theorem z_log (a : PyData) : g__law_size self (zS (.tuple [.str "log", a]) .un .un .un .un) cu = .ok (.ret (pD (1, 0))) cu := by kernel_rfl
theorem z_neg (a : PyData) : g__law_size self (zS (.tuple [.str "negative", a]) .un .un .un .un) cu = ta__law_size_4 self (zS (.tuple [.str "negative", a]) .un .un .un .un) cu := by kernel_rfl
theorem z_pow (a : PyData) (e : Int) : g__law_size self (zS (.tuple [.str "power", a, .int e]) .un .un .un .un) cu = ta__law_size_4 self (zS (.tuple [.str "power", a, .int e]) .un .un .un .un) cu := by kernel_rfl
theorem z_two (s : BS) (a b : PyData) : g__law_size self (zS (.tuple [.str s.str, a, b]) .un .un .un .un) cu = ta__law_size_4 self (zS (.tuple [.str s.str, a, b]) .un .un .un .un) cu := by cases s <;> kernel_rfl
theorem z_negE (a : PyData) (i j : Int) : ta__law_size_3 self (zS (.tuple [.str "negative", a]) (.dat (.int i)) (.dat (.int j)) .un .un) cu = .ok (.ret (pD (i, j))) cu := by kernel_rfl
theorem z_pow3 (a : PyData) (e i j : Int) : ta__law_size_3 self (zS (.tuple [.str "power", a, .int e]) (.dat (.int i)) (.dat (.int j)) .un .un) cu = ta__law_size_2 self (zS (.tuple [.str "power", a, .int e]) (.dat (.int i)) (.dat (.int j)) .un .un) cu := by kernel_rfl
theorem z_powE (a : PyData) (e i j : Int) (h1 : mulOk i e = true) (h2 : mulOk j e = true) : ta__law_size_3 self (zS (.tuple [.str "power", a, .int e]) (.dat (.int i)) (.dat (.int j)) .un .un) cu = .ok (.ret (pD (i * e, j * e))) cu := by
  have m1 : dMul (.int i) (.int e) = some (.int (i * e)) := if_pos h1
  have m2 : dMul (.int j) (.int e) = some (.int (j * e)) := if_pos h2
  refine (z_pow3 self cu a e i j).trans ?_
  unfold ta__law_size_2
  exact rSeqR (rIfT (cu1 := cu) (by kernel_rfl) (rRet (kDisp (aC (kBin (b := .int e) (cu1 := cu) (cu2 := cu) (kVar rfl) (by kernel_rfl) m1) (aC (kBin (b := .int e) (cu1 := cu) (cu2 := cu) (kVar rfl) (by kernel_rfl) m2) aN)) rfl (by show 2 ≤ 16777216; decide))))
theorem z_two1 (s : BS) (a b : PyData) (i j : Int) : ta__law_size_3 self (zS (.tuple [.str s.str, a, b]) (.dat (.int i)) (.dat (.int j)) .un .un) cu = ta__law_size_1 self (zS (.tuple [.str s.str, a, b]) (.dat (.int i)) (.dat (.int j)) .un .un) cu := by cases s <;> kernel_rfl
theorem z_timesE (a b : PyData) (i j k m : Int) : ta__law_size_0 self (zS (.tuple [.str "times", a, b]) (.dat (.int i)) (.dat (.int j)) (.dat (.int k)) (.dat (.int m))) cu = .ok (.ret (pD (i + k, j + m))) cu := by kernel_rfl
theorem z_overE (a b : PyData) (i j k m : Int) : ta__law_size_0 self (zS (.tuple [.str "over", a, b]) (.dat (.int i)) (.dat (.int j)) (.dat (.int k)) (.dat (.int m))) cu = .ok (.ret (pD (i + m, j + k))) cu := by kernel_rfl
theorem z_plusE (a b : PyData) (i j k m : Int) : ta__law_size_0 self (zS (.tuple [.str "plus", a, b]) (.dat (.int i)) (.dat (.int j)) (.dat (.int k)) (.dat (.int m))) cu = .ok (.ret (pD (mx (i + m) (j + k), j + m))) cu := by kernel_rfl
theorem z_minusE (a b : PyData) (i j k m : Int) : ta__law_size_0 self (zS (.tuple [.str "minus", a, b]) (.dat (.int i)) (.dat (.int j)) (.dat (.int k)) (.dat (.int m))) cu = .ok (.ret (pD (mx (i + m) (j + k), j + m))) cu := by kernel_rfl
variable {self : GF} {cu : Cu}
/-- the first part's size -/
theorem z_one {t a : PyData} {p : Int × Int} {o : Ou} (h : self [.dat a] cu = .ok (pD p) cu) (hx : gBin dIx (gVar 0) (gC (.int 1)) (zS t .un .un .un .un) cu = .ok a cu)
    (e : ta__law_size_3 self (zS t (.dat (.int p.1)) (.dat (.int p.2)) .un .un) cu = .ok o cu) : ta__law_size_4 self (zS t .un .un .un .un) cu = .ok o cu := by
  unfold ta__law_size_4
  exact (show gSeq _ _ _ _ = _ from by unfold gSeq; rw [rAsg (kApp (aC hx aN) h) (by rfl), Rs.bind_ok]; exact e)
theorem z_sec {t b : PyData} {i j : Sl} {p : Int × Int} {o : Ou} (h : self [.dat b] cu = .ok (pD p) cu) (hx : gBin dIx (gVar 0) (gC (.int 2)) (zS t i j .un .un) cu = .ok b cu)
    (e : ta__law_size_0 self (zS t i j (.dat (.int p.1)) (.dat (.int p.2))) cu = .ok o cu) : ta__law_size_1 self (zS t i j .un .un) cu = .ok o cu := by
  unfold ta__law_size_1
  exact (show gSeq _ _ _ _ = _ from by unfold gSeq; rw [rAsg (kApp (aC hx aN) h) (by rfl), Rs.bind_ok]; exact e)
end
end Prog

set_option Elab.async false
set_option linter.all false
set_option maxRecDepth 100000
set_option maxHeartbeats 1600000
set_option autoImplicit false
set_option exponentiation.threshold 4000
namespace Prog
open PySem L2 DL TM
def Mo2 : TM.Tm → Prop
  | .un _ t => Mo2 t
  | .pow t e => Mo2 t ∧ mulOk (szP t).1 e = true ∧ mulOk (szP t).2 e = true
  | .bi _ a b => Mo2 a ∧ Mo2 b
  | _ => True
theorem lsize_eq : ∀ (n : Nat) (t : TM.Tm), dep t ≤ n → Ok t → Mo2 t → ∀ cu, G__law_size n [.dat (enc t)] cu = .ok (pD (szP t)) cu
  | 0, t, h, _, _, _ => absurd (dep_pos t) (by omega)
  | n + 1, .whole e, _, _, _, cu => kFn (z_whole _ cu e)
  | n + 1, .x, _, _, _, cu => kFn (z_x _ cu)
  | n + 1, .un .exp t, _, _, _, cu => kFn (z_exp _ cu (enc t))
  | n + 1, .un .log t, _, _, _, cu => kFn (z_log _ cu (enc t))
  | n + 1, .un .neg t, h, ht, hm, cu => by
    simp only [dep] at h
    have e := lsize_eq n t (by omega) ht hm cu
    exact kFn ((z_neg _ cu (enc t)).trans (z_one e (by generalize enc t = a; kernel_rfl) (z_negE _ cu (enc t) _ _)))
  | n + 1, .pow t k, h, ht, hm, cu => by
    simp only [dep] at h
    have e := lsize_eq n t (by omega) ht.1 hm.1 cu
    exact kFn ((z_pow _ cu (enc t) k).trans (z_one e (by generalize enc t = a; kernel_rfl) (z_powE _ cu (enc t) k _ _ hm.2.1 hm.2.2)))
  | n + 1, .bi s a b, h, ht, hm, cu => by
    simp only [dep] at h
    have e1 := lsize_eq n a (by omega) ht.1 hm.1 cu
    have e2 := lsize_eq n b (by omega) ht.2 hm.2 cu
    refine kFn ((z_two _ cu s (enc a) (enc b)).trans (z_one e1 (by generalize enc a = x; generalize enc b = y; cases s <;> kernel_rfl) ((z_two1 _ cu s (enc a) (enc b) _ _).trans (z_sec e2 (by generalize enc a = x; generalize enc b = y; cases s <;> kernel_rfl) ?_))))
    cases s with
    | times => exact z_timesE _ cu (enc a) (enc b) _ _ _ _
    | over => exact z_overE _ cu (enc a) (enc b) _ _ _ _
    | plus => exact z_plusE _ cu (enc a) (enc b) _ _ _ _
    | minus => exact z_minusE _ cu (enc a) (enc b) _ _ _ _
  | _ + 1, .bad _, _, h, _, _ => h.elim
theorem Mo_of : ∀ {t : TM.Tm}, Ok t → Mo t ∧ Mo2 t
  | .whole _, _ => ⟨trivial, trivial⟩
  | .x, _ => ⟨trivial, trivial⟩
  | .un _ t, h => Mo_of (t := t) h
  | .pow t e, h => by
    have i := Mo_of h.1
    have k : e.natAbs < 2 ^ 64 := by have := h.2; omega
    exact ⟨⟨i.1, mulOk_l k, mulOk_l k⟩, i.2, mulOk_r k, mulOk_r k⟩
  | .bi _ a b, h => ⟨⟨(Mo_of h.1).1, (Mo_of h.2).1⟩, (Mo_of h.1).2, (Mo_of h.2).2⟩
  | .bad _, h => h.elim
end Prog

set_option Elab.async false
set_option linter.all false
set_option maxRecDepth 100000
set_option maxHeartbeats 1600000
set_option autoImplicit false
set_option exponentiation.threshold 4000
namespace Prog
open PySem L2 DL TM
/-! what is built like a term, told by the law -/
section
variable (cu : Cu)
theorem lg_un (s : US) (a : PyData) : G__law_good [.dat (.tuple [.str s.str, a])] cu = .ok (.bool true) cu := by cases s <;> kernel_rfl
theorem lg_bi (s : BS) (a b : PyData) : G__law_good [.dat (.tuple [.str s.str, a, b])] cu = .ok (.bool true) cu := by cases s <;> kernel_rfl
theorem lg_x : G__law_good [.dat (.tuple [.str "x"])] cu = .ok (.bool true) cu := by kernel_rfl
theorem lg_whole0 (k : Nat) : G__law_good [.dat (.tuple [.str "whole", .int (Int.ofNat k)])] cu = .ok (.bool (decide (Int.ofNat k ≤ 1000000))) cu := by kernel_rfl
theorem lg_pow0 (a : PyData) (k : Nat) : G__law_good [.dat (.tuple [.str "power", a, .int (Int.ofNat k)])] cu = .ok (.bool (decide (Int.ofNat k ≤ 12))) cu := by kernel_rfl
theorem lw_un (s : US) (a : PyData) : G__law_within [.dat (.tuple [.str s.str, a])] cu = .ok (.list [a]) cu := by cases s <;> kernel_rfl
theorem lw_bi (s : BS) (a b : PyData) : G__law_within [.dat (.tuple [.str s.str, a, b])] cu = .ok (.list [a, b]) cu := by cases s <;> kernel_rfl
theorem lw_pow (a : PyData) (e : Int) : G__law_within [.dat (.tuple [.str "power", a, .int e])] cu = .ok (.list [a]) cu := by kernel_rfl
theorem lw_whole (e : Int) : G__law_within [.dat (.tuple [.str "whole", .int e])] cu = .ok (.list []) cu := by kernel_rfl
theorem lw_x : G__law_within [.dat (.tuple [.str "x"])] cu = .ok (.list []) cu := by kernel_rfl
end
/-- no term, told by the law -/
def Bad2 (d : PyData) : Prop := Bad d ∧ ∀ cu, G__law_good [.dat d] cu = .ok (.bool false) cu
theorem odds_bad2 : ∀ d ∈ ODDS, Bad2 d := by
  intro d hd
  refine ⟨odds_bad d hd, ?_⟩
  simp only [ODDS, List.mem_cons, List.not_mem_nil, or_false] at hd
  rcases hd with rfl | rfl | rfl | rfl | rfl | rfl | rfl | rfl | rfl | rfl | rfl | rfl | rfl | rfl | rfl | rfl | rfl | rfl | rfl | rfl | rfl | rfl <;> intro cu <;> kernel_rfl
theorem lg_enc {B : PyData → Prop} : ∀ {t : TM.Tm}, OkB B t → (∀ d, t ≠ .bad d) → ∀ cu, G__law_good [.dat (enc t)] cu = .ok (.bool true) cu
  | .whole n, h, _, cu => by
    obtain ⟨k, rfl⟩ := Int.eq_ofNat_of_zero_le h.1
    have e := lg_whole0 cu k
    rw [decide_eq_true (by exact h.2)] at e
    exact e
  | .x, _, _, cu => lg_x cu
  | .un s t, _, _, cu => lg_un cu s _
  | .pow t e, h, _, cu => by
    obtain ⟨k, rfl⟩ := Int.eq_ofNat_of_zero_le h.2.1
    have e := lg_pow0 cu (enc t) k
    rw [decide_eq_true (by exact h.2.2)] at e
    exact e
  | .bi s a b, _, _, cu => lg_bi cu s _ _
  | .bad d, _, h, _ => absurd rfl (h d)
theorem lw_enc : ∀ {t : TM.Tm}, (∀ d, t ≠ .bad d) → ∀ cu, G__law_within [.dat (enc t)] cu = .ok (.list ((parts t).map enc)) cu
  | .whole n, _, cu => lw_whole cu n
  | .x, _, cu => lw_x cu
  | .un s t, _, cu => lw_un cu s _
  | .pow t e, _, cu => lw_pow cu _ e
  | .bi s a b, _, cu => lw_bi cu s _ _
  | .bad d, h, _ => absurd rfl (h d)
end Prog

set_option Elab.async false
set_option linter.all false
set_option maxRecDepth 100000
set_option maxHeartbeats 1600000
set_option autoImplicit false
set_option exponentiation.threshold 4000
namespace Prog
open PySem L2 DL TM
/-! a level of a value, told by the law -/
def bd : TM.Tm → Bool
  | .bad _ => true
  | _ => false
theorem bd_no {t : TM.Tm} (h : bd t = false) : ∀ d, t ≠ .bad d := fun d e => by rw [e] at h; cases h
abbrev iS (t l n b : PyData) (h o : Sl) (w : Sl) : En := [.dat t, h, .dat l, .dat n, w, o]
theorem good_bd {t : TM.Tm} (h : OkB Bad2 t) (cu : Cu) : G__law_good [.dat (enc t)] cu = .ok (.bool (!bd t)) cu := by
  cases t with
  | bad d => exact h.2 cu
  | _ => exact lg_enc h (fun d e => nomatch e) cu
theorem lc_bad (s0 s1 s2 s3 s4 : Sl) (cu : Cu) : ∀ L : List TM.Tm, (∀ p ∈ L, OkB Bad2 p) → gLcL (ggName 5) lt__law_is_term_0 le__law_is_term_0 (L.map enc) [s0, s1, s2, s3, s4, .un] cu = .ok ((L.filter bd).map fun _ => .int 1) cu
  | [], _ => rfl
  | p :: r, h => by
    have g : lt__law_is_term_0 [s0, s1, s2, s3, s4, .dat (enc p)] cu = .ok (bd p) cu := by
      have e := tNot (k := !bd p) (tTru (ga := gApp 1 G__law_good (gaCons (gVar 5) gaNil)) (ρ := [s0, s1, s2, s3, s4, .dat (enc p)]) (kApp (aC (kVar rfl) aN) (good_bd (h p (.head _)) cu)) (k := !bd p) (by cases bd p <;> rfl))
      rw [Bool.not_not] at e
      exact e
    show gLcL _ _ _ (enc p :: r.map enc) _ cu = _
    rw [gLcL_cons, show ggName 5 (enc p) [s0, s1, s2, s3, s4, .un] = some [s0, s1, s2, s3, s4, .dat (enc p)] from rfl, Rs.ofO_some, Rs.bind_ok, g, Rs.nox_ok, Rs.bind_ok]
    have i := lc_bad s0 s1 s2 s3 s4 cu r fun x hx => h x (.tail _ hx)
    cases hb : bd p with
    | false =>
      rw [if_neg Bool.false_ne_true, i, List.filter_cons_of_neg (by rw [hb]; exact Bool.false_ne_true)]
    | true =>
      rw [if_pos rfl, show le__law_is_term_0 [s0, s1, s2, s3, s4, .dat (enc p)] cu = .ok (.int 1) cu from rfl, Rs.nox_ok, Rs.bind_ok, i, Rs.bind_ok, List.filter_cons_of_pos hb]
      rfl
end Prog

set_option Elab.async false
set_option linter.all false
set_option maxRecDepth 100000
set_option maxHeartbeats 1600000
set_option autoImplicit false
set_option exponentiation.threshold 4000
namespace Prog
open PySem L2 DL TM
theorem dNe_nil {ds : List PyData} (h : ∀ d ∈ ds, ∃ i, d = PyData.int i) : dNe (.list ds) (.list []) = some (.bool (!ds.isEmpty)) := by
  obtain ⟨h1, h2⟩ := lay_ints h
  cases ds with
  | nil => rfl
  | cons n r =>
    have s1 : SeqAt.shaped (.list (n :: r)) = true := by
      unfold SeqAt.shaped
      rw [show (PyData.list (n :: r)).canLay0 = PyData.canLayAll0 (n :: r) from by simp only [PyData.canLay0], h1, show (PyData.list (n :: r)).depth = PyData.depthAll (n :: r) + 1 from by simp only [PyData.depth], h2]
      rfl
    have s2 : SeqAt.shaped (.list []) = true := by decide +kernel
    simp [dNe, eqD, s1, s2, PyData.eqv, PyData.eqvAll]
theorem for_below (s0 s1 s2 s3 : Sl) (cu : Cu) : ∀ (ps : List TM.Tm) (acc : List PyData) (s5 : Sl), (∀ p ∈ ps, bd p = false) → acc.length + 2 * ps.length ≤ 16777216 →
    ∃ s5', gForL (ggName 5) fb__law_is_term_0 (ps.map enc) [s0, s1, s2, s3, .own acc, s5] cu = .ok (.nx [s0, s1, s2, s3, .own (acc ++ (nxt ps).map enc), s5']) cu
  | [], acc, s5, _, _ => ⟨s5, by show Rs.ok (Ou.nx _) cu = _; rw [show (nxt []).map enc = [] from rfl, List.append_nil]⟩
  | p :: r, acc, s5, h, hl => by
    have l2 := parts_len p
    obtain ⟨s5', e⟩ := for_below s0 s1 s2 s3 cu r (acc ++ (parts p).map enc) (.dat (enc p)) (fun q hq => h q (.tail _ hq)) (by rw [List.length_append, List.length_map]; rw [List.length_cons] at hl; omega)
    refine ⟨s5', rForC (ρ1 := [s0, s1, s2, s3, .own acc, .dat (enc p)]) rfl (ρ2 := [s0, s1, s2, s3, .own (acc ++ (parts p).map enc), .dat (enc p)]) (rExt rfl (kApp (aC (kVar rfl) aN) (lw_enc (bd_no (h p (.head _))) cu)) rfl ?_) ?_⟩
    · rw [List.length_map]; rw [List.length_cons] at hl; omega
    · rw [e, List.append_assoc, ← List.map_append]
      rfl
theorem filt_ints (L : List TM.Tm) : ∀ d ∈ (L.filter bd).map (fun _ => PyData.int 1), ∃ i, d = PyData.int i := fun d hd => by
  obtain ⟨_, _, rfl⟩ := List.mem_map.mp hd
  exact ⟨1, rfl⟩
theorem any_filt : ∀ L : List TM.Tm, (!((L.filter bd).map fun _ => PyData.int 1).isEmpty) = L.any bd
  | [] => rfl
  | p :: r => by
    cases hb : bd p with
    | true => rw [List.filter_cons_of_pos hb, List.any_cons, hb]; rfl
    | false => rw [List.filter_cons_of_neg (by rw [hb]; exact Bool.false_ne_true), List.any_cons, hb, Bool.false_or]; exact any_filt r
/-- the test of a level -/
theorem lvl_test {t : TM.Tm} {L : List TM.Tm} (hL : ∀ p ∈ L, OkB Bad2 p) (h : Sl) (n : Nat) (s4 s5 : Sl) (cu : Cu) (hl : L.length < 16777216) :
    (gOr (gBool (gBin (fB0 fun i j => decide (j < i)) (gVar 3) (gC (.int 20000)))) (gBool (gBin dNe (gL (gLc (giSeq (gVar 2)) [5] (ggName 5) lt__law_is_term_0 le__law_is_term_0)) (gDisp .list gaNil)))) [.dat (enc t), h, .dat (.list (L.map enc)), .dat (.int (n : Int)), s4, s5] cu = .ok (decide (20000 < n) || L.any bd) cu := by
  have e1 : gBool (gBin (fB0 fun i j => decide (j < i)) (gVar 3) (gC (.int 20000))) [.dat (enc t), h, .dat (.list (L.map enc)), .dat (.int (n : Int)), s4, s5] cu = .ok (decide ((20000 : Int) < (n : Int))) cu := tBool (kBin (kVar rfl) kC rfl)
  have e2 : gBool (gBin dNe (gL (gLc (giSeq (gVar 2)) [5] (ggName 5) lt__law_is_term_0 le__law_is_term_0)) (gDisp .list gaNil)) [.dat (enc t), h, .dat (.list (L.map enc)), .dat (.int (n : Int)), s4, s5] cu = .ok (!((L.filter bd).map fun _ => PyData.int 1).isEmpty) cu :=
    tBool (kBin (kLst (kLc (items := L.map enc) (by kernel_rfl) (by rw [List.length_map]; exact hl) (lc_bad _ _ _ _ _ cu L hL))) (kDisp aN) (dNe_nil (filt_ints L)))
  rw [any_filt] at e2
  unfold gOr
  rw [e1, Rs.bind_ok]
  by_cases q : 20000 < n
  · rw [decide_eq_true (by omega), decide_eq_true q]; rfl
  · rw [decide_eq_false (by omega), decide_eq_false q, Bool.false_or]; exact e2
end Prog

set_option Elab.async false
set_option linter.all false
set_option maxRecDepth 100000
set_option maxHeartbeats 1600000
set_option autoImplicit false
set_option exponentiation.threshold 4000
namespace Prog
open PySem L2 DL TM
abbrev jS (t : TM.Tm) (L : List TM.Tm) (n : Nat) (h s4 s5 : Sl) : En := [.dat (enc t), h, .dat (.list (L.map enc)), .dat (.int (n : Int)), s4, s5]
theorem cnt_row (t : TM.Tm) (L : List TM.Tm) (n : Nat) (h s4 s5 : Sl) (cu : Cu) : gSet 3 (gBin dAdd (gVar 3) (gCall dLen (gaCons (gVar 2) gaNil))) (jS t L n h s4 s5) cu = .ok (.nx (jS t L (n + L.length) h s4 s5)) cu := by
  refine rSet (kBin (kVar rfl) (kCall (aC (kVar rfl) aN) (dLen_lst ..)) ?_)
  rw [dAdd_int, List.length_map]
  rfl
theorem turn_no {t : TM.Tm} {L : List TM.Tm} (hL : ∀ p ∈ L, OkB Bad2 p) (n : Nat) (h s4 s5 : Sl) (cu : Cu) (hl : L.length < 16777216) (q : (decide (20000 < n + L.length) || L.any bd) = true) :
    fb__law_is_term_1 (jS t L n h s4 s5) cu = .ok (.ret (.bool false)) cu := by
  have e := lvl_test (t := t) hL h (n + L.length) s4 s5 cu hl
  rw [q] at e
  exact rSeq (cnt_row t L n h s4 s5 cu) (rSeqR (rIfT e (rRet kC)))
theorem turn_yes {t : TM.Tm} {L : List TM.Tm} (hL : ∀ p ∈ L, OkB Bad2 p) (n : Nat) (h s4 s5 : Sl) (cu : Cu) (hl : L.length < 1000000) (q : (decide (20000 < n + L.length) || L.any bd) = false) :
    ∃ s4' s5', fb__law_is_term_1 (jS t L n h s4 s5) cu = .ok (if nxt L = [] then .ret (.bool true) else .nx (jS t (nxt L) (n + L.length) h s4' s5')) cu := by
  have e := lvl_test (t := t) hL h (n + L.length) s4 s5 cu (by omega)
  rw [q] at e
  have nb : ∀ p ∈ L, bd p = false := fun p hp => by
    have a := (Bool.or_eq_false_iff.mp q).2
    exact List.any_eq_false.mp a p hp |> fun z => by simpa using z
  obtain ⟨s5', f⟩ := for_below (.dat (enc t)) h (.dat (.list (L.map enc))) (.dat (.int ((n + L.length : Nat) : Int))) cu L [] s5 nb (by rw [List.length_nil]; omega)
  rw [List.nil_append] at f
  have ln : gBool (gBin dEq (gCall dLen (gaCons (gVar 4) gaNil)) (gC (.int 0))) (jS t L (n + L.length) h (.dat (.list ((nxt L).map enc))) s5') cu = .ok (decide ((((nxt L).map enc).length : Int) = 0)) cu :=
    tBool (kBin (a := .int (((nxt L).map enc).length : Int)) (kCall (aC (kVar rfl) aN) (dLen_lst ..)) kC (dEqI _))
  refine ⟨.dat (.list ((nxt L).map enc)), s5', rSeq (cnt_row t L n h s4 s5 cu) (rSeq (rIfF e rSkip) (rSeq (ρ1 := [.dat (enc t), h, .dat (.list (L.map enc)), .dat (.int ((n + L.length : Nat) : Int)), .own [], s5]) (cu1 := cu) (rSetO (ds := []) (by kernel_rfl)) (rSeq (rFor (items := L.map enc) (by kernel_rfl) f) (rFrz rfl ?_))))⟩
  by_cases z : nxt L = []
  · rw [if_pos z]
    rw [z] at ln ⊢
    exact rSeqR (rIfT ln (rRet kC))
  · rw [if_neg z]
    rw [decide_eq_false (by rw [List.length_map]; have := List.length_pos_iff.mpr z; omega)] at ln
    exact rSeq (rIfF ln rSkip) (rSet (kVar rfl))
end Prog

set_option Elab.async false
set_option linter.all false
set_option maxRecDepth 100000
set_option maxHeartbeats 1600000
set_option autoImplicit false
set_option exponentiation.threshold 4000
namespace Prog
open PySem L2 DL TM
/-- so many levels at most, so many terms counted -/
def lv : Nat → Nat → List TM.Tm → Bool
  | 0, _, _ => false
  | m + 1, n, L => if (decide (20000 < n + L.length) || L.any bd) = true then false else if nxt L = [] then true else lv m (n + L.length) (nxt L)
theorem parts_OkB {B : PyData → Prop} : ∀ {t : TM.Tm}, OkB B t → ∀ p ∈ parts t, OkB B p
  | .whole _, _, p, hp => by cases hp
  | .x, _, p, hp => by cases hp
  | .un _ t, h, p, hp => by cases List.mem_singleton.mp hp; exact h
  | .pow t _, h, p, hp => by cases List.mem_singleton.mp hp; exact h.1
  | .bi _ a b, h, p, hp => by
    rcases List.mem_cons.mp hp with rfl | hp
    · exact h.1
    · cases List.mem_singleton.mp hp; exact h.2
  | .bad _, h, p, hp => by cases hp
theorem siz_part (t : TM.Tm) : 1 + sL (parts t) ≤ siz t := by
  cases t with
  | bi s a b => simp [siz, parts, sL]; omega
  | _ => simp [siz, parts, sL] <;> omega
theorem sL_next : ∀ L : List TM.Tm, sL (nxt L) + L.length ≤ sL L
  | [] => Nat.le_refl _
  | t :: r => by
    have i := sL_next r
    have d := siz_part t
    show sL (parts t ++ nxt r) + (r.length + 1) ≤ sL (t :: r)
    rw [sL_app, sL_cons]
    omega
theorem rForR {gg : GG} {s : GS} {d : PyData} {items : List PyData} {ρ ρ1 : En} {cu cu1 : Cu} {x : PyData} (hg : gg d ρ = some ρ1) (hb : s ρ1 cu = .ok (.ret x) cu1) : gForL gg s (d :: items) ρ cu = .ok (.ret x) cu1 := by
  rw [gForL_cons, hg, Rs.ofO_some, Rs.bind_ok, hb, Rs.bind_ok]
theorem lv_loop {t : TM.Tm} (cu : Cu) : ∀ (items : List PyData) (L : List TM.Tm) (n : Nat) (h s4 s5 : Sl), (∀ p ∈ L, OkB Bad2 p) → sL L < 1000000 →
    ∃ o, gForL (ggName 1) fb__law_is_term_1 items (jS t L n h s4 s5) cu = .ok o cu ∧ (o = .ret (.bool (lv items.length n L)) ∨ ((∃ ρ, o = .nx ρ) ∧ lv items.length n L = false))
  | [], L, n, h, s4, s5, _, _ => ⟨_, rfl, .inr ⟨⟨_, rfl⟩, rfl⟩⟩
  | d :: r, L, n, h, s4, s5, hL, hs => by
    have b := sL_next L
    cases q : (decide (20000 < n + L.length) || L.any bd) with
    | true =>
      refine ⟨.ret (.bool false), rForR (ρ1 := jS t L n (.dat d) s4 s5) rfl (turn_no hL n (.dat d) s4 s5 cu (by omega) q), .inl ?_⟩
      rw [List.length_cons, lv, if_pos q]
    | false =>
      obtain ⟨s4', s5', e⟩ := turn_yes (t := t) hL n (.dat d) s4 s5 cu (by omega) q
      by_cases z : nxt L = []
      · rw [if_pos z] at e
        refine ⟨.ret (.bool true), rForR (ρ1 := jS t L n (.dat d) s4 s5) rfl e, .inl ?_⟩
        rw [List.length_cons, lv, if_neg (by rw [q]; exact Bool.false_ne_true), if_pos z]
      · rw [if_neg z] at e
        obtain ⟨o, e2, e3⟩ := lv_loop cu r (nxt L) (n + L.length) (.dat d) s4' s5' (fun p hp => by
          obtain ⟨u, hu, hp⟩ := List.mem_flatMap.mp hp
          exact parts_OkB (hL u hu) p hp) (by omega)
        refine ⟨o, rForC (ρ1 := jS t L n (.dat d) s4 s5) rfl e e2, ?_⟩
        rw [List.length_cons, lv, if_neg (by rw [q]; exact Bool.false_ne_true), if_neg z]
        exact e3
theorem lawterm_eq {t : TM.Tm} (h : OkB Bad2 t) (hs : siz t < 1000000) (cu : Cu) : G__law_is_term [.dat (enc t)] cu = .ok (.bool (lv 60 0 [t])) cu := by
  obtain ⟨o, e, q⟩ := lv_loop (t := t) cu (rngD 0 60) [t] 0 .un .un .un (fun p hp => by cases List.mem_singleton.mp hp; exact h) (by simpa [sL] using hs)
  rw [rng_len] at q
  refine kFn (rSeq (ρ1 := jS t [t] 0 .un .un .un) (cu1 := cu) ?_ ?_)
  · show gPar 2 3 _ [.dat (enc t), .un, .un, .un, .un, .un] cu = _
    generalize enc t = a
    kernel_rfl
  · rcases q with rfl | ⟨⟨ρ, rfl⟩, q⟩
    · exact rSeqR (rFor (items := rngD 0 60) (iArg (aC kC aN) (by kernel_rfl)) e)
    · rw [q]
      exact rSeq (rFor (items := rngD 0 60) (iArg (aC kC aN) (by kernel_rfl)) e) (rRet kC)
end Prog

set_option Elab.async false
set_option linter.all false
set_option maxRecDepth 100000
set_option maxHeartbeats 1600000
set_option autoImplicit false
set_option exponentiation.threshold 4000
namespace Prog
open PySem L2 DL TM
theorem one_lvl {t : TM.Tm} (h : bd t = false) : clean t = (parts t).all clean ∧ dep t = hL (parts t) + 1 ∧ siz t = 1 + sL (parts t) := by
  cases t with
  | bad d => cases h
  | bi s a b => exact ⟨by simp [clean, parts], by simp [dep, parts, hL], by simp [siz, parts, sL]; omega⟩
  | un s t => exact ⟨by simp [clean, parts], by simp [dep, parts, hL], by simp [siz, parts, sL] <;> omega⟩
  | pow t e => exact ⟨by simp [clean, parts], by simp [dep, parts, hL], by simp [siz, parts, sL] <;> omega⟩
  | whole n => exact ⟨rfl, rfl, rfl⟩
  | x => exact ⟨rfl, rfl, rfl⟩
theorem all_lvl : ∀ L : List TM.Tm, (∀ p ∈ L, bd p = false) → L.all clean = (nxt L).all clean ∧ (L ≠ [] → hL L = hL (nxt L) + 1) ∧ sL L = L.length + sL (nxt L)
  | [], _ => ⟨rfl, fun h => absurd rfl h, rfl⟩
  | t :: r, h => by
    obtain ⟨a1, a2, a3⟩ := one_lvl (h t (.head _))
    obtain ⟨b1, b2, b3⟩ := all_lvl r fun p hp => h p (.tail _ hp)
    show (clean t && r.all clean) = (parts t ++ nxt r).all clean ∧ (_ → hL (t :: r) = hL (parts t ++ nxt r) + 1) ∧ sL (t :: r) = (r.length + 1) + sL (parts t ++ nxt r)
    rw [List.all_append, hL_app, sL_app, hL_cons, sL_cons, a1, b1]
    refine ⟨rfl, fun _ => ?_, by omega⟩
    cases r with
    | nil => show max (dep t) 0 = max (hL (parts t)) 0 + 1; omega
    | cons u s => have := b2 (by simp); omega
theorem hL_pos {L : List TM.Tm} (h : L ≠ []) : 1 ≤ hL L := by
  cases L with
  | nil => exact absurd rfl h
  | cons t r => rw [hL_cons]; have := dep_pos t; omega
theorem len_sL : ∀ L : List TM.Tm, L.length ≤ sL L
  | [] => Nat.le_refl _
  | t :: r => by have := len_sL r; have := siz_pos t; rw [sL_cons, List.length_cons]; omega
theorem bd_clean {L : List TM.Tm} (h : L.any bd = true) : L.all clean = false := by
  obtain ⟨p, hp, e⟩ := List.any_eq_true.mp h
  have c : clean p = false := by cases p <;> first | rfl | cases e
  exact List.all_eq_false.mpr ⟨p, hp, by rw [c]; exact Bool.false_ne_true⟩
theorem lv_is : ∀ (m n : Nat) (L : List TM.Tm), L ≠ [] → lv m n L = (L.all clean && decide (hL L ≤ m) && decide (n + sL L ≤ 20000))
  | 0, n, L, h => by
    rw [lv, decide_eq_false (by have := hL_pos h; omega), Bool.and_false, Bool.false_and]
  | m + 1, n, L, h => by
    have l := len_sL L
    rw [lv]
    cases q : (decide (20000 < n + L.length) || L.any bd) with
    | true =>
      rw [if_pos rfl]
      rcases Bool.or_eq_true_iff.mp q with q | q
      · have := of_decide_eq_true q
        rw [decide_eq_false (p := n + sL L ≤ 20000) (by omega), Bool.and_false]
      · rw [bd_clean q, Bool.false_and, Bool.false_and]
    | false =>
      obtain ⟨q1, q2⟩ := Bool.or_eq_false_iff.mp q
      have q1 := of_decide_eq_false q1
      obtain ⟨a1, a2, a3⟩ := all_lvl L fun p hp => by have := List.any_eq_false.mp q2 p hp; simpa using this
      have a2 := a2 h
      rw [if_neg Bool.false_ne_true, a1, a2, a3]
      by_cases z : nxt L = []
      · rw [if_pos z, z, decide_eq_true (p := hL [] + 1 ≤ m + 1) (by show 0 + 1 ≤ m + 1; omega), decide_eq_true (p := n + (L.length + sL []) ≤ 20000) (by show n + (L.length + 0) ≤ 20000; omega)]
        rfl
      · rw [if_neg z, lv_is m _ _ z]
        congr 1
        · congr 1
          exact decide_eq_decide.mpr ⟨fun h => by omega, fun h => by omega⟩
        · exact decide_eq_decide.mpr ⟨fun h => by omega, fun h => by omega⟩
/-- the law's answer is the program's -/
theorem lawterm_is {t : TM.Tm} (h : OkB Bad2 t) (hs : siz t < 1000000) (cu : Cu) : G__law_is_term [.dat (enc t)] cu = .ok (.bool (clean t && decide (dep t ≤ 60) && decide (siz t ≤ 20000))) cu := by
  rw [lawterm_eq h hs cu, lv_is 60 0 [t] (by simp)]
  have e1 : hL [t] = dep t := by simp [hL]
  have e2 : sL [t] = siz t := by simp [sL]
  rw [e1, e2, Nat.zero_add, List.all_cons, List.all_nil, Bool.and_true]
end Prog

set_option Elab.async false
set_option linter.all false
set_option maxRecDepth 100000
set_option maxHeartbeats 1600000
set_option autoImplicit false
set_option exponentiation.threshold 4000
namespace Prog
open PySem L2 DL TM
theorem rSeqX {k : Nat} {s s' : GS} {ρ : En} {cu c : Cu} (h : s ρ cu = .exc k c) : gSeq s s' ρ cu = .exc k c := by unfold gSeq; rw [h, Rs.bind_exc]
theorem rSeqX2 {k : Nat} {s s' : GS} {ρ ρ1 : En} {cu c c1 : Cu} (ha : s ρ cu = .ok (.nx ρ1) c1) (h : s' ρ1 c1 = .exc k c) : gSeq s s' ρ cu = .exc k c := by unfold gSeq; rw [ha, Rs.bind_ok]; exact h
theorem rIfX {k : Nat} {gt : GT} {s s' : GS} {ρ : En} {cu c c1 : Cu} (ht : gt ρ cu = .ok true c1) (h : s ρ c1 = .exc k c) : gIf gt s s' ρ cu = .exc k c := by unfold gIf; rw [ht, Rs.bind_ok, if_pos rfl, h]
theorem kAppX {n k : Nat} {F : GF} {ra : GA} {as : List Sl} {ρ : En} {cu c c1 : Cu} (ha : ra ρ cu = .ok as c1) (h : F as c1 = .exc k c) (hn : as.length = n := by rfl) : gApp n F ra ρ cu = .exc k c := by unfold gApp; rw [ha, Rs.bind_ok, if_pos hn, h]
theorem rDropX {k : Nat} {g : GE} {ρ : En} {cu c : Cu} (h : g ρ cu = .exc k c) : gDrop g ρ cu = .exc k c := by unfold gDrop; rw [h, Rs.bind_exc]
/-! what is asked of a value: a term or none -/
section
variable {B : PyData → Prop} {t : TM.Tm} {cu : Cu}
theorem isterm_eq (hB : ∀ d, B d → Bad d) (ht : OkB B t) : G_is_term [.dat (enc t)] cu = .ok (.bool (clean t && decide (dep t ≤ 60) && decide (siz t ≤ 20000))) cu :=
  kFn (rRet (kApp (aC (kVar rfl) aN) (plain_eq hB ht)))
theorem parts_no (hB : ∀ d, B d → Bad d) (ht : OkB B t) (h : (clean t && decide (dep t ≤ 60) && decide (siz t ≤ 20000)) = false) : G_parts_of [.dat (enc t)] cu = .exc 0 cu :=
  gFn_exc (rSeqX (rDropX (kAppX (aC (kVar rfl) aN) (need_no hB ht h))))
theorem height_no (hB : ∀ d, B d → Bad d) (ht : OkB B t) (h : (clean t && decide (dep t ≤ 60) && decide (siz t ≤ 20000)) = false) : G_height_of [.dat (enc t)] cu = .exc 0 cu :=
  gFn_exc (rSeqX (rDropX (kAppX (aC (kVar rfl) aN) (need_no hB ht h))))
theorem size_no (hB : ∀ d, B d → Bad d) (ht : OkB B t) (h : (clean t && decide (dep t ≤ 60) && decide (siz t ≤ 20000)) = false) : G_size_of [.dat (enc t)] cu = .exc 0 cu :=
  gFn_exc (rSeqX (rDropX (kAppX (aC (kVar rfl) aN) (need_no hB ht h))))
theorem at_no (hB : ∀ d, B d → Bad d) (ht : OkB B t) (h : (clean t && decide (dep t ≤ 60) && decide (siz t ≤ 20000)) = false) (q : PyData) : G_part_at [.dat (enc t), .dat q] cu = .exc 0 cu :=
  gFn_exc (rSeqX (rDropX (kAppX (aC (kVar rfl) aN) (need_no hB ht h))))
end
section
variable {t : TM.Tm} {cu : Cu}
theorem need_ok (ht : Ok t) (hd : dep t ≤ 60) (hs : siz t ≤ 20000) : G_need_term [.dat (enc t)] cu = .ok .none cu :=
  need_yes (B := fun _ => False) (fun _ z => z.elim) ht.okB (by rw [ht.clean, decide_eq_true hd, decide_eq_true hs]; rfl)
theorem parts_yes (ht : Ok t) (hd : dep t ≤ 60) (hs : siz t ≤ 20000) : G_parts_of [.dat (enc t)] cu = .ok (.tuple ((parts t).map enc)) cu :=
  kFn (rSeq (rDrop (kApp (aC (kVar rfl) aN) (need_ok ht hd hs))) (rRet (kApp (aC (kVar rfl) aN) (pw_enc (notbad ht) cu))))
theorem height_yes (ht : Ok t) (hd : dep t ≤ 60) (hs : siz t ≤ 20000) : G_height_of [.dat (enc t)] cu = .ok (.int (dep t : Int)) cu :=
  kFn (rSeq (rDrop (kApp (aC (kVar rfl) aN) (need_ok ht hd hs))) (rRet (kApp (aC (kVar rfl) aN) (high_eq 62 t (by omega) ht cu))))
theorem size_yes (ht : Ok t) (hd : dep t ≤ 60) (hs : siz t ≤ 20000) : G_size_of [.dat (enc t)] cu = .ok (pD (szP t)) cu :=
  kFn (rSeq (rDrop (kApp (aC (kVar rfl) aN) (need_ok ht hd hs))) (rRet (kApp (aC (kVar rfl) aN) (size_eq 62 t (by omega) ht (Mo_of ht).1 cu))))
end
/-! a part at a path of any values -/
def idx (d : PyData) (n : Nat) : Option Nat := match d with
  | .int i => if 0 ≤ i ∧ i < (n : Int) then some i.toNat else none
  | _ => none
def IxOk (d : PyData) : Prop := (∃ i, d = .int i) ∨ d = .bool true ∨ d = .str "x"
def step (t : TM.Tm) (d : PyData) : Option TM.Tm := (idx d (parts t).length).bind fun i => (parts t)[i]?
def atD : TM.Tm → List PyData → Option TM.Tm
  | t, [] => some t
  | t, d :: r => (step t d).bind fun u => atD u r
theorem step_mem {t u : TM.Tm} {d : PyData} (h : step t d = some u) : u ∈ parts t := by
  obtain ⟨i, _, e⟩ := Option.bind_eq_some_iff.mp h
  exact List.mem_of_getElem? e
section
variable (cu : Cu)
theorem ii_nat (k : Nat) (b : Int) : G_is_integer_in [.dat (.int (Int.ofNat k)), .dat (.int 0), .dat (.int b)] cu = .ok (.bool (decide (Int.ofNat k ≤ b))) cu := by kernel_rfl
theorem ii_neg (k : Nat) (b : Int) : G_is_integer_in [.dat (.int (Int.negSucc k)), .dat (.int 0), .dat (.int b)] cu = .ok (.bool false) cu := by kernel_rfl
theorem ii_true (b : Int) : G_is_integer_in [.dat (.bool true), .dat (.int 0), .dat (.int b)] cu = .ok (.bool false) cu := by kernel_rfl
theorem ii_str (b : Int) : G_is_integer_in [.dat (.str "x"), .dat (.int 0), .dat (.int b)] cu = .ok (.bool false) cu := by kernel_rfl
end
theorem idx_neg (k n : Nat) : idx (.int (Int.negSucc k)) n = none := by
  show (if 0 ≤ Int.negSucc k ∧ Int.negSucc k < (n : Int) then some (Int.negSucc k).toNat else none) = none
  exact if_neg fun z => by have := z.1; have := Int.negSucc_lt_zero k; omega
/-- an index that is one -/
theorem ii_eq {d : PyData} (hd : IxOk d) (n : Nat) (cu : Cu) : G_is_integer_in [.dat d, .dat (.int 0), .dat (.int ((n : Int) - 1))] cu = .ok (.bool (idx d n).isSome) cu := by
  rcases hd with ⟨i, rfl⟩ | rfl | rfl
  · cases i with
    | ofNat k =>
      rw [ii_nat]
      congr 2
      have e : idx (.int (Int.ofNat k)) n = if 0 ≤ Int.ofNat k ∧ Int.ofNat k < (n : Int) then some (Int.ofNat k).toNat else none := rfl
      rw [e]
      by_cases h : Int.ofNat k < (n : Int)
      · rw [if_pos ⟨Int.natCast_nonneg k, h⟩, decide_eq_true (by omega)]; rfl
      · rw [if_neg (fun z => h z.2), decide_eq_false (by omega)]; rfl
    | negSucc k =>
      rw [ii_neg]
      have e := idx_neg k n
      rw [e]; rfl
  · exact ii_true cu _
  · exact ii_str cu _
theorem idx_ix {d : PyData} {n i : Nat} (h : idx d n = some i) : d = .int (i : Int) ∧ i < n := by
  unfold idx at h
  split at h
  · rename_i j
    split at h
    · rename_i q
      cases h
      exact ⟨by congr 1; omega, by omega⟩
    · cases h
  · cases h
abbrev aS (t q : PyData) (s2 s3 : Sl) : En := [.dat t, .dat q, s2, s3]
theorem gIfX {k : Nat} {gt : GT} {s s' : GS} {ρ : En} {cu c c1 : Cu} (ht : gt ρ cu = .ok false c1) (h : s' ρ c1 = .exc k c) : gIf gt s s' ρ cu = .exc k c := by
  unfold gIf; rw [ht, Rs.bind_ok, if_neg Bool.false_ne_true, h]
theorem pa_test {t : TM.Tm} {d : PyData} (hd : IxOk d) (q : PyData) (cu : Cu) : gNot (gTru (gApp 3 G_is_integer_in (gaCons (gVar 2) (gaCons (gC (.int 0)) (gaCons (gBin (fI0 fun i j => i - j) (gCall dLen (gaCons (gVar 3) gaNil)) (gC (.int 1))) gaNil))))) (aS (enc t) q (.dat d) (.dat (.tuple ((parts t).map enc)))) cu = .ok (!(idx d (parts t).length).isSome) cu := by
  refine tNot (tTru (a := .bool (idx d (parts t).length).isSome) (kApp (aC (kVar rfl) (aC kC (aC (kBin (a := .int (((parts t).map enc).length : Int)) (kCall (aC (kVar rfl) aN) (dLen_tup ..)) kC rfl) aN))) ?_) ?_)
  · rw [List.length_map]; exact ii_eq hd _ cu
  · cases (idx d (parts t).length).isSome <;> rfl
theorem pa_row (t : TM.Tm) (h : Ok t) (q : PyData) (d : PyData) (s3 : Sl) (cu : Cu) : gSet 3 (gApp 1 G_parts_within (gaCons (gVar 0) gaNil)) (aS (enc t) q (.dat d) s3) cu = .ok (.nx (aS (enc t) q (.dat d) (.dat (.tuple ((parts t).map enc))))) cu :=
  rSet (kApp (aC (kVar rfl) aN) (pw_enc (notbad h) cu))
theorem ix_at {t u : TM.Tm} {d : PyData} (h : step t d = some u) : dIx (.tuple ((parts t).map enc)) d = some (enc u) ∧ (idx d (parts t).length).isSome = true := by
  obtain ⟨i, e, e2⟩ := Option.bind_eq_some_iff.mp h
  obtain ⟨rfl, hi⟩ := idx_ix e
  refine ⟨?_, by rw [e]; rfl⟩
  rw [dIx_tup]
  exact atI_nat (by rw [List.getElem?_map, e2]; rfl)
theorem ix_no {t : TM.Tm} {d : PyData} (h : step t d = none) : (idx d (parts t).length).isSome = false := by
  cases e : idx d (parts t).length with
  | none => rfl
  | some i =>
    obtain ⟨_, hi⟩ := idx_ix e
    unfold step at h
    rw [e, Option.bind_some, List.getElem?_eq_getElem hi] at h
    cases h
theorem pa_yes {t u : TM.Tm} {d : PyData} (h : Ok t) (hd : IxOk d) (hs : step t d = some u) (q : PyData) (s3 : Sl) (cu : Cu) : fb_part_at_0 (aS (enc t) q (.dat d) s3) cu = .ok (.nx (aS (enc u) q (.dat d) (.dat (.tuple ((parts t).map enc))))) cu := by
  have e := pa_test (t := t) hd q cu
  rw [(ix_at hs).2] at e
  exact rSeq (pa_row t h q d s3 cu) (rSeq (rIfF e rSkip) (rSet (kBin (kVar rfl) (kVar rfl) (ix_at hs).1)))
theorem pa_no {t : TM.Tm} {d : PyData} (h : Ok t) (hd : IxOk d) (hs : step t d = none) (q : PyData) (s3 : Sl) (cu : Cu) : fb_part_at_0 (aS (enc t) q (.dat d) s3) cu = .exc 1 cu := by
  have e := pa_test (t := t) hd q cu
  rw [ix_no hs] at e
  exact rSeqX2 (pa_row t h q d s3 cu) (rSeqX (rIfX e rfl))
end Prog

set_option Elab.async false
set_option linter.all false
set_option maxRecDepth 100000
set_option maxHeartbeats 1600000
set_option autoImplicit false
set_option exponentiation.threshold 4000
namespace Prog
open PySem L2 DL TM
theorem pa_loop (q : PyData) (cu : Cu) : ∀ (ds : List PyData) (t : TM.Tm) (s2 s3 : Sl), Ok t → (∀ d ∈ ds, IxOk d) →
    (∀ u, atD t ds = some u → ∃ s2' s3', gForL (ggName 2) fb_part_at_0 ds (aS (enc t) q s2 s3) cu = .ok (.nx (aS (enc u) q s2' s3')) cu) ∧ (atD t ds = none → gForL (ggName 2) fb_part_at_0 ds (aS (enc t) q s2 s3) cu = .exc 1 cu)
  | [], t, s2, s3, _, _ => ⟨fun u h => by cases h; exact ⟨s2, s3, rfl⟩, fun h => by cases h⟩
  | d :: r, t, s2, s3, h, hd => by
    have hd1 := hd d (.head _)
    cases e : step t d with
    | none =>
      have e2 : atD t (d :: r) = none := by show (step t d).bind _ = none; rw [e]; rfl
      refine ⟨fun u z => (by rw [e2] at z; cases z), fun _ => ?_⟩
      rw [gForL_cons, show ggName 2 d (aS (enc t) q s2 s3) = some (aS (enc t) q (.dat d) s3) from rfl, Rs.ofO_some, Rs.bind_ok, pa_no h hd1 e, Rs.bind_exc]
    | some u =>
      have e2 : atD t (d :: r) = atD u r := by show (step t d).bind _ = _; rw [e]; rfl
      have k := pa_yes h hd1 e q s3 cu
      obtain ⟨i1, i2⟩ := pa_loop q cu r u (.dat d) (.dat (.tuple ((parts t).map enc))) (parts_Ok h u (step_mem e)) fun x hx => hd x (.tail _ hx)
      rw [e2]
      refine ⟨fun v z => ?_, fun z => ?_⟩
      · obtain ⟨s2', s3', f⟩ := i1 v z
        exact ⟨s2', s3', rForC (ρ1 := aS (enc t) q (.dat d) s3) rfl k f⟩
      · rw [gForL_cons, show ggName 2 d (aS (enc t) q s2 s3) = some (aS (enc t) q (.dat d) s3) from rfl, Rs.ofO_some, Rs.bind_ok, k, Rs.bind_ok]
        exact i2 z
def pth (t : TM.Tm) : PyData → Option TM.Tm
  | .tuple ds => atD t ds
  | _ => none
def PathOk (q : PyData) : Prop := (∃ ds, q = .tuple ds ∧ ∀ d ∈ ds, IxOk d) ∨ (∃ ds, q = .list ds) ∨ q = .none
def res (o : Option TM.Tm) : PyData := match o with
  | some u => enc u
  | none => .str "InvalidPath"
section
variable {t : TM.Tm} {q : PyData} {cu : Cu}
theorem at_is (ht : Ok t) (hd : dep t ≤ 60) (hs : siz t ≤ 20000) (hq : PathOk q) :
    (∀ u, pth t q = some u → G_part_at [.dat (enc t), .dat q] cu = .ok (enc u) cu) ∧ (pth t q = none → G_part_at [.dat (enc t), .dat q] cu = .exc 1 cu) := by
  have r0 : gDrop (gApp 1 G_need_term (gaCons (gVar 0) gaNil)) (aS (enc t) q .un .un) cu = .ok (.nx (aS (enc t) q .un .un)) cu := rDrop (kApp (aC (kVar rfl) aN) (need_ok ht hd hs))
  rcases hq with ⟨ds, rfl, hds⟩ | ⟨ds, rfl⟩ | rfl
  · obtain ⟨i1, i2⟩ := pa_loop (.tuple ds) cu ds t .un .un ht hds
    have r1 : gNot (gTru (gIsi "tuple" (gVar 1))) (aS (enc t) (.tuple ds) .un .un) cu = .ok false cu := by generalize enc t = a; kernel_rfl
    refine ⟨fun u z => ?_, fun z => ?_⟩
    · obtain ⟨s2', s3', f⟩ := i1 u z
      exact kFn (rSeq r0 (rSeq (rIfF r1 rSkip) (rSeq (rFor (iSeqT (kVar rfl)) f) (rRet (kVar rfl)))))
    · refine gFn_exc (rSeqX2 r0 (rSeqX2 (rIfF r1 rSkip) (rSeqX ?_)))
      show gFor _ _ _ _ _ = _
      unfold gFor
      rw [iSeqT (ds := ds) (kVar rfl), Rs.bind_ok]
      exact i2 z
  · have r1 : gNot (gTru (gIsi "tuple" (gVar 1))) (aS (enc t) (.list ds) .un .un) cu = .ok true cu := by generalize enc t = a; kernel_rfl
    exact ⟨fun u z => (by cases z), fun _ => gFn_exc (rSeqX2 r0 (rSeqX (rIfX r1 rfl)))⟩
  · have r1 : gNot (gTru (gIsi "tuple" (gVar 1))) (aS (enc t) .none .un .un) cu = .ok true cu := by generalize enc t = a; kernel_rfl
    exact ⟨fun u z => (by cases z), fun _ => gFn_exc (rSeqX2 r0 (rSeqX (rIfX r1 rfl)))⟩
end
/-! .. and the law's -/
abbrev laT : GT := gOr (gNot (gTru (gIsi "int" (gVar 2)))) (gOr (gTru (gIsi "bool" (gVar 2))) (gNot (gBool (gChain (fB0 fun i j => decide (i ≤ j)) (fB0 fun i j => decide (i < j)) (gC (.int 0)) (gVar 2) (gCall dLen (gaCons (gVar 3) gaNil))))))
section
variable (a q : PyData) (ps : List PyData) (cu : Cu)
theorem lt_nat (k : Nat) : laT (aS a q (.dat (.int (Int.ofNat k))) (.dat (.tuple ps))) cu = .ok (!(decide (Int.ofNat k < (ps.length : Int)))) cu := by kernel_rfl
theorem lt_neg (k : Nat) : laT (aS a q (.dat (.int (Int.negSucc k))) (.dat (.tuple ps))) cu = .ok true cu := by kernel_rfl
theorem lt_true : laT (aS a q (.dat (.bool true)) (.dat (.tuple ps))) cu = .ok true cu := by kernel_rfl
theorem lt_str : laT (aS a q (.dat (.str "x")) (.dat (.tuple ps))) cu = .ok true cu := by kernel_rfl
end
theorem la_test {t : TM.Tm} {d : PyData} (hd : IxOk d) (q : PyData) (cu : Cu) : laT (aS (enc t) q (.dat d) (.dat (.tuple ((parts t).map enc)))) cu = .ok (!(idx d (parts t).length).isSome) cu := by
  rcases hd with ⟨i, rfl⟩ | rfl | rfl
  · cases i with
    | ofNat k =>
      rw [lt_nat, List.length_map]
      congr 2
      have e : idx (.int (Int.ofNat k)) (parts t).length = if 0 ≤ Int.ofNat k ∧ Int.ofNat k < ((parts t).length : Int) then some (Int.ofNat k).toNat else none := rfl
      rw [e]
      by_cases h : Int.ofNat k < ((parts t).length : Int)
      · rw [if_pos ⟨Int.natCast_nonneg k, h⟩, decide_eq_true h]; rfl
      · rw [if_neg (fun z => h z.2), decide_eq_false h]; rfl
    | negSucc k =>
      rw [lt_neg]
      have e := idx_neg k (parts t).length
      rw [e]; rfl
  · exact lt_true _ _ _ cu
  · exact lt_str _ _ _ cu
theorem la_row (t : TM.Tm) (h : Ok t) (q : PyData) (d : PyData) (s3 : Sl) (cu : Cu) : gSet 3 (gApp 1 G__law_parts (gaCons (gVar 0) gaNil)) (aS (enc t) q (.dat d) s3) cu = .ok (.nx (aS (enc t) q (.dat d) (.dat (.tuple ((parts t).map enc))))) cu :=
  rSet (kApp (aC (kVar rfl) aN) (lp_enc h cu))
theorem la_yes {t u : TM.Tm} {d : PyData} (h : Ok t) (hd : IxOk d) (hs : step t d = some u) (q : PyData) (s3 : Sl) (cu : Cu) : fb__law_at_0 (aS (enc t) q (.dat d) s3) cu = .ok (.nx (aS (enc u) q (.dat d) (.dat (.tuple ((parts t).map enc))))) cu := by
  have e := la_test (t := t) hd q cu
  rw [(ix_at hs).2] at e
  exact rSeq (la_row t h q d s3 cu) (rSeq (rIfF e rSkip) (rSet (kBin (kVar rfl) (kVar rfl) (ix_at hs).1)))
theorem la_no {t : TM.Tm} {d : PyData} (h : Ok t) (hd : IxOk d) (hs : step t d = none) (q : PyData) (s3 : Sl) (cu : Cu) : fb__law_at_0 (aS (enc t) q (.dat d) s3) cu = .ok (.ret (.str "InvalidPath")) cu := by
  have e := la_test (t := t) hd q cu
  rw [ix_no hs] at e
  exact rSeq (la_row t h q d s3 cu) (rSeqR (rIfT e (rRet kC)))
theorem la_loop (q : PyData) (cu : Cu) : ∀ (ds : List PyData) (t : TM.Tm) (s2 s3 : Sl), Ok t → (∀ d ∈ ds, IxOk d) →
    (∀ u, atD t ds = some u → ∃ s2' s3', gForL (ggName 2) fb__law_at_0 ds (aS (enc t) q s2 s3) cu = .ok (.nx (aS (enc u) q s2' s3')) cu) ∧ (atD t ds = none → gForL (ggName 2) fb__law_at_0 ds (aS (enc t) q s2 s3) cu = .ok (.ret (.str "InvalidPath")) cu)
  | [], t, s2, s3, _, _ => ⟨fun u h => by cases h; exact ⟨s2, s3, rfl⟩, fun h => by cases h⟩
  | d :: r, t, s2, s3, h, hd => by
    have hd1 := hd d (.head _)
    cases e : step t d with
    | none =>
      have e2 : atD t (d :: r) = none := by show (step t d).bind _ = none; rw [e]; rfl
      exact ⟨fun u z => (by rw [e2] at z; cases z), fun _ => rForR (ρ1 := aS (enc t) q (.dat d) s3) rfl (la_no h hd1 e q s3 cu)⟩
    | some u =>
      have e2 : atD t (d :: r) = atD u r := by show (step t d).bind _ = _; rw [e]; rfl
      have k := la_yes h hd1 e q s3 cu
      obtain ⟨i1, i2⟩ := la_loop q cu r u (.dat d) (.dat (.tuple ((parts t).map enc))) (parts_Ok h u (step_mem e)) fun x hx => hd x (.tail _ hx)
      rw [e2]
      refine ⟨fun v z => ?_, fun z => ?_⟩
      · obtain ⟨s2', s3', f⟩ := i1 v z
        exact ⟨s2', s3', rForC (ρ1 := aS (enc t) q (.dat d) s3) rfl k f⟩
      · exact rForC (ρ1 := aS (enc t) q (.dat d) s3) rfl k (i2 z)
theorem lawat_eq {t : TM.Tm} {q : PyData} (ht : Ok t) (hq : PathOk q) (cu : Cu) : G__law_at [.dat (enc t), .dat q] cu = .ok (res (pth t q)) cu := by
  rcases hq with ⟨ds, rfl, hds⟩ | ⟨ds, rfl⟩ | rfl
  · obtain ⟨i1, i2⟩ := la_loop (.tuple ds) cu ds t .un .un ht hds
    have r1 : gNot (gTru (gIsi "tuple" (gVar 1))) (aS (enc t) (.tuple ds) .un .un) cu = .ok false cu := by generalize enc t = a; kernel_rfl
    show G__law_at _ cu = .ok (res (atD t ds)) cu
    cases e : atD t ds with
    | some u =>
      obtain ⟨s2', s3', f⟩ := i1 u e
      exact kFn (rSeq (rIfF r1 rSkip) (rSeq (rFor (iSeqT (kVar rfl)) f) (rRet (kVar rfl))))
    | none => exact kFn (rSeq (rIfF r1 rSkip) (rSeqR (rFor (iSeqT (kVar rfl)) (i2 e))))
  · have r1 : gNot (gTru (gIsi "tuple" (gVar 1))) (aS (enc t) (.list ds) .un .un) cu = .ok true cu := by generalize enc t = a; kernel_rfl
    exact kFn (rSeqR (rIfT r1 (rRet kC)))
  · have r1 : gNot (gTru (gIsi "tuple" (gVar 1))) (aS (enc t) .none .un .un) cu = .ok true cu := by generalize enc t = a; kernel_rfl
    exact kFn (rSeqR (rIfT r1 (rRet kC)))
end Prog

set_option Elab.async false
set_option linter.all false
set_option maxRecDepth 100000
set_option maxHeartbeats 1600000
set_option autoImplicit false
set_option exponentiation.threshold 4000
namespace Prog
open PySem L2 DL TM
/-! the four questions -/
theorem rTryW {g : GS} {hk : Nat → GS} {ρ : En} {cu cu1 : Cu} {o : Ou} (h : g ρ cu = .ok o cu1) : gTryW g hk ρ cu = .ok o cu1 := by
  unfold gTryW; rw [h]
theorem rTryX {g : GS} {hk : Nat → GS} {ρ : En} {cu cu1 cu2 : Cu} {o : Ou} {k : Nat} (h : g ρ cu = .exc k cu1) (h2 : hk k ρ cu1 = .ok o cu2) : gTryW g hk ρ cu = .ok o cu2 := by
  unfold gTryW; rw [h]; dsimp only; rw [h2]
theorem rApdX {i k : Nat} {ga : GE} {ρ : En} {cu c : Cu} {ds : List PyData} (hv : ρ[i]? = some (Sl.own ds)) (ha : ga ρ cu = .exc k c) : gApd i ga ρ cu = .exc k c := by
  unfold gApd; rw [hv]; dsimp only; rw [ha, Rs.bind_exc]
theorem rIfE {gt : GT} {s s' : GS} {ρ : En} {cu c1 : Cu} (ht : gt ρ cu = .ok false c1) : gIf gt s s' ρ cu = s' ρ c1 := by
  unfold gIf; rw [ht, Rs.bind_ok, if_neg Bool.false_ne_true]
theorem rIfY {gt : GT} {s s' : GS} {ρ : En} {cu c1 : Cu} (ht : gt ρ cu = .ok true c1) : gIf gt s s' ρ cu = s ρ c1 := by
  unfold gIf; rw [ht, Rs.bind_ok, if_pos rfl]
abbrev kS (v q : PyData) (xs : List PyData) (i : Int) : En := [.dat v, .dat q, .own xs, .dat (.int i)]
section
variable (v q : PyData) (xs : List PyData) (cu : Cu)
theorem tst (i k : Int) (b : Bool) (h : decide (i = k) = b) : gBool (gBin dEq (gVar 3) (gC (.int k))) (kS v q xs i) cu = .ok b cu := tBool (kBin (kVar rfl) kC (by rw [dEq_int, h]))
theorem tr0 : tr__law_asked_0 (kS v q xs 0) cu = gApd 2 (gApp 1 G_parts_of (gaCons (gVar 0) gaNil)) (kS v q xs 0) cu := by
  unfold tr__law_asked_0
  rw [rIfY (tst v q xs cu 0 0 true rfl)]
theorem tr1 : tr__law_asked_0 (kS v q xs 1) cu = gApd 2 (gApp 1 G_height_of (gaCons (gVar 0) gaNil)) (kS v q xs 1) cu := by
  unfold tr__law_asked_0
  rw [rIfE (tst v q xs cu 1 0 false rfl), rIfY (tst v q xs cu 1 1 true rfl)]
theorem tr2 : tr__law_asked_0 (kS v q xs 2) cu = gApd 2 (gApp 1 G_size_of (gaCons (gVar 0) gaNil)) (kS v q xs 2) cu := by
  unfold tr__law_asked_0
  rw [rIfE (tst v q xs cu 2 0 false rfl), rIfE (tst v q xs cu 2 1 false rfl), rIfY (tst v q xs cu 2 2 true rfl)]
theorem tr3 : tr__law_asked_0 (kS v q xs 3) cu = gApd 2 (gApp 2 G_part_at (gaCons (gVar 0) (gaCons (gVar 1) gaNil))) (kS v q xs 3) cu := by
  unfold tr__law_asked_0
  rw [rIfE (tst v q xs cu 3 0 false rfl), rIfE (tst v q xs cu 3 1 false rfl), rIfE (tst v q xs cu 3 2 false rfl)]
variable {v q xs cu}
/-- a turn's answer, and an error's word -/
theorem tn_ok {d : PyData} {i : Int} {ga : GE} (he : tr__law_asked_0 (kS v q xs i) cu = gApd 2 ga (kS v q xs i) cu) (ha : ga (kS v q xs i) cu = .ok d cu) (hl : xs.length < 100) : fb__law_asked_0 (kS v q xs i) cu = .ok (.nx (kS v q (xs ++ [d]) i)) cu :=
  rTryW (he.trans (rApd rfl ha (by omega)))
theorem tn_no {i : Int} {ga : GE} (he : tr__law_asked_0 (kS v q xs i) cu = gApd 2 ga (kS v q xs i) cu) (ha : ga (kS v q xs i) cu = .exc 0 cu) (hl : xs.length < 100) : fb__law_asked_0 (kS v q xs i) cu = .ok (.nx (kS v q (xs ++ [.str "InvalidTerm"]) i)) cu :=
  rTryX (he.trans (rApdX rfl ha)) (show gApd 2 (gC (.str "InvalidTerm")) (kS v q xs i) cu = _ from rApd rfl kC (by omega))
theorem tn_path {i : Int} {ga : GE} (he : tr__law_asked_0 (kS v q xs i) cu = gApd 2 ga (kS v q xs i) cu) (ha : ga (kS v q xs i) cu = .exc 1 cu) (hl : xs.length < 100) : fb__law_asked_0 (kS v q xs i) cu = .ok (.nx (kS v q (xs ++ [.str "InvalidPath"]) i)) cu :=
  rTryX (he.trans (rApdX rfl ha)) (show gApd 2 (gC (.str "InvalidPath")) (kS v q xs i) cu = _ from rApd rfl kC (by omega))
theorem four {a b c d : PyData} (h0 : fb__law_asked_0 (kS v q [] 0) cu = .ok (.nx (kS v q [a] 0)) cu) (h1 : fb__law_asked_0 (kS v q [a] 1) cu = .ok (.nx (kS v q [a, b] 1)) cu) (h2 : fb__law_asked_0 (kS v q [a, b] 2) cu = .ok (.nx (kS v q [a, b, c] 2)) cu)
    (h3 : fb__law_asked_0 (kS v q [a, b, c] 3) cu = .ok (.nx (kS v q [a, b, c, d] 3)) cu) : G__law_asked [.dat v, .dat q] cu = .ok (.list [a, b, c, d]) cu :=
  kFn (rSeq (ρ1 := [.dat v, .dat q, .own [], .un]) (cu1 := cu) (rSetO (ds := []) (by kernel_rfl)) (rSeq (rFor (items := [.int 0, .int 1, .int 2, .int 3]) (iArg (aC kC aN) (by kernel_rfl)) (rForC rfl h0 (rForC rfl h1 (rForC rfl h2 (rForC rfl h3 rForN))))) (rFrz rfl (rRet (kVar rfl)))))
end
theorem asked_term {t : TM.Tm} {q : PyData} (ht : Ok t) (hd : dep t ≤ 60) (hs : siz t ≤ 20000) (hq : PathOk q) (cu : Cu) : G__law_asked [.dat (enc t), .dat q] cu = .ok (.list [.tuple ((parts t).map enc), .int (dep t : Int), pD (szP t), res (pth t q)]) cu := by
  refine four (tn_ok (tr0 ..) (kApp (aC (kVar rfl) aN) (parts_yes ht hd hs)) (by simp)) (tn_ok (xs := [_]) (tr1 ..) (kApp (aC (kVar rfl) aN) (height_yes ht hd hs)) (by simp)) (tn_ok (xs := [_, _]) (tr2 ..) (kApp (aC (kVar rfl) aN) (size_yes ht hd hs)) (by simp)) ?_
  obtain ⟨y, n⟩ := at_is (cu := cu) ht hd hs hq
  cases e : pth t q with
  | some u => exact tn_ok (xs := [_, _, _]) (tr3 ..) (kApp (aC (kVar rfl) (aC (kVar rfl) aN)) (y u e)) (by simp)
  | none => exact tn_path (xs := [_, _, _]) (tr3 ..) (kAppX (aC (kVar rfl) (aC (kVar rfl) aN)) (n e)) (by simp)
abbrev IT : PyData := .str "InvalidTerm"
theorem asked_no {B : PyData → Prop} {t : TM.Tm} (hB : ∀ d, B d → Bad d) (ht : OkB B t) (h : (clean t && decide (dep t ≤ 60) && decide (siz t ≤ 20000)) = false) (q : PyData) (cu : Cu) : G__law_asked [.dat (enc t), .dat q] cu = .ok (.list [IT, IT, IT, IT]) cu :=
  four (tn_no (tr0 ..) (kAppX (aC (kVar rfl) aN) (parts_no hB ht h)) (by simp)) (tn_no (xs := [_]) (tr1 ..) (kAppX (aC (kVar rfl) aN) (height_no hB ht h)) (by simp)) (tn_no (xs := [_, _]) (tr2 ..) (kAppX (aC (kVar rfl) aN) (size_no hB ht h)) (by simp))
    (tn_no (xs := [_, _, _]) (tr3 ..) (kAppX (aC (kVar rfl) (aC (kVar rfl) aN)) (at_no hB ht h q)) (by simp))
end Prog

set_option Elab.async false
set_option linter.all false
set_option maxRecDepth 100000
set_option maxHeartbeats 1600000
set_option autoImplicit false
set_option exponentiation.threshold 4000
namespace Prog
open PySem L2 DL TM
/-! a term of so many terms -/
def okf : Nat → Nat → Bool
  | 0, _ => false
  | f + 1, n => n == 1 || (if n % 2 == 0 then okf f (n - 1) else okf f (n / 2))
section
variable (self : GF) (n : Nat) (cu : Cu)
theorem ex_even (h : n % 2 = 0) : gBool (gBin dEq (gBin (fI modOk fun i j => i.fmod j) (gCall dToInt (gaCons (gVar 0) gaNil)) (gC (.int 2))) (gC (.int 0))) [.dat (.int (n : Int)), .un] cu = .ok true cu := by
  refine tBool (kBin (a := .int ((n : Int).fmod 2)) (kBin (a := .int (n : Int)) (kCall (aC (kVar rfl) aN) rfl) kC rfl) kC ?_)
  rw [dEqI, Int.fmod_eq_emod_of_nonneg _ (by decide), decide_eq_true (by omega)]
theorem ex_odd (h : n % 2 = 1) : gBool (gBin dEq (gBin (fI modOk fun i j => i.fmod j) (gCall dToInt (gaCons (gVar 0) gaNil)) (gC (.int 2))) (gC (.int 0))) [.dat (.int (n : Int)), .un] cu = .ok false cu := by
  refine tBool (kBin (a := .int ((n : Int).fmod 2)) (kBin (a := .int (n : Int)) (kCall (aC (kVar rfl) aN) rfl) kC rfl) kC ?_)
  rw [dEqI, Int.fmod_eq_emod_of_nonneg _ (by decide), decide_eq_false (by omega)]
theorem ex_one (b : Bool) (h : decide ((n : Int) = 1) = b) : gBool (gBin dEq (gVar 0) (gC (.int 1))) [.dat (.int (n : Int)), .un] cu = .ok b cu := tBool (kBin (kVar rfl) kC (by rw [dEq_int, h]))
end
theorem exactly_ex : ∀ (f n : Nat), okf f n = true → 1 ≤ n → ∃ t, Ok t ∧ dep t ≤ f ∧ siz t = n ∧ ∀ cu, G__law_exactly f [.dat (.int (n : Int))] cu = .ok (enc t) cu
  | 0, n, h, _ => by cases h
  | f + 1, n, h, h1 => by
    by_cases e1 : n = 1
    · subst e1
      exact ⟨.x, trivial, by show 1 ≤ f + 1; omega, rfl, fun cu => kFn (rSeqR (rIfT (ex_one 1 cu true rfl) (rRet (kDisp (aC kC aN)))))⟩
    · have z : ∀ cu, gBool (gBin dEq (gVar 0) (gC (.int 1))) [.dat (.int (n : Int)), .un] cu = .ok false cu := fun cu => ex_one n cu false (decide_eq_false (by omega))
      unfold okf at h
      rw [show (n == 1) = false from by simpa using e1, Bool.false_or] at h
      by_cases e2 : n % 2 = 0
      · rw [if_pos (by simpa using e2)] at h
        obtain ⟨t, a1, a2, a3, a4⟩ := exactly_ex f (n - 1) h (by omega)
        refine ⟨.un .neg t, a1, by simp only [dep]; omega, by simp only [siz]; omega, fun cu => kFn (rSeq (rIfF (z cu) rSkip) ?_)⟩
        unfold ta__law_exactly_2
        refine rSeqR (rIfT (ex_even n cu e2) (rRet (kDisp (ds := [.str "negative", enc t]) (aC kC (aC (kApp (aC (kBin (kVar rfl) kC ?_) aN) (a4 cu)) aN)) rfl (by show 2 ≤ 16777216; decide))))
        show some (PyData.int ((n : Int) - 1)) = some (PyData.int ((n - 1 : Nat) : Int))
        congr 2
        omega
      · rw [if_neg (by simpa using e2)] at h
        obtain ⟨t, a1, a2, a3, a4⟩ := exactly_ex f (n / 2) h (by omega)
        refine ⟨.bi .plus t t, ⟨a1, a1⟩, by simp only [dep]; omega, by simp only [siz]; omega, fun cu => kFn (rSeq (rIfF (z cu) rSkip) ?_)⟩
        unfold ta__law_exactly_2
        refine rSeq (rIfF (ex_odd n cu (by omega)) rSkip) ?_
        unfold ta__law_exactly_1
        refine rSeq (rSet (kApp (aC (kBin (kVar rfl) kC ?_) aN) (a4 cu))) (rRet (kDisp (ds := [.str "plus", enc t, enc t]) (aC kC (aC (kVar rfl) (aC (kVar rfl) aN))) rfl (by show 3 ≤ 16777216; decide)))
        show some (PyData.int ((n : Int).fdiv 2)) = some (PyData.int ((n / 2 : Nat) : Int))
        congr 2
        rw [Int.fdiv_eq_ediv_of_nonneg _ (by decide)]
        rfl
theorem dRep_b (b : Bool) (cu : Cu) : G__law_same [.dat (.bool b), .dat (.bool b)] cu = .ok (.bool true) cu := by
  have e : dRep [.bool b] = some (.str (bRep b)) := rfl
  have q : dEq (.str (bRep b)) (.str (bRep b)) = some (.bool true) := by rw [dEq_str, decide_eq_true rfl]
  exact kFn (rRet (kBin (kCall (aC (kVar rfl) aN) e) (kCall (aC (kVar rfl) aN) e) q))
theorem same_l {ds : List PyData} (h : repB (.list ds) = true) (cu : Cu) : G__law_same [.dat (.list ds), .dat (.list ds)] cu = .ok (.bool true) cu := by
  have e : dRep [.list ds] = some (.str (PyData.list ds).shown) := if_pos h
  have q : dEq (.str (PyData.list ds).shown) (.str (PyData.list ds).shown) = some (.bool true) := by rw [dEq_str, decide_eq_true rfl]
  exact kFn (rRet (kBin (kCall (aC (kVar rfl) aN) e) (kCall (aC (kVar rfl) aN) e) q))
end Prog

set_option Elab.async false
set_option linter.all false
set_option maxRecDepth 100000
set_option maxHeartbeats 1600000
set_option autoImplicit false
set_option exponentiation.threshold 4000
namespace Prog
open PySem L2 DL TM
/-! what repr asks of the four answers -/
def Bd : TM.Tm → Nat
  | .whole _ => 1
  | .x => 1
  | .un _ t => Bd t + 1
  | .pow t _ => 12 * Bd t + 1
  | .bi _ a b => Bd a + Bd b + 1
  | .bad _ => 1
theorem mx_le {i j : Int} {n : Nat} (h1 : 0 ≤ i ∧ i ≤ (n : Int)) (h2 : 0 ≤ j ∧ j ≤ (n : Int)) : 0 ≤ mx i j ∧ mx i j ≤ (n : Int) := by unfold mx; split <;> assumption
theorem sz_le : ∀ {t : TM.Tm}, Ok t → (0 ≤ (szP t).1 ∧ (szP t).1 ≤ (Bd t : Int)) ∧ (0 ≤ (szP t).2 ∧ (szP t).2 ≤ (Bd t : Int))
  | .whole _, _ => by simp only [szP, Bd]; omega
  | .x, _ => by simp only [szP, Bd]; omega
  | .un .neg t, h => by have i := sz_le (t := t) h; simp only [szP, Bd]; omega
  | .un .exp t, h => by simp only [szP, Bd]; omega
  | .un .log t, h => by simp only [szP, Bd]; omega
  | .pow t e, h => by
    have i := sz_le h.1
    have m : ∀ v : Int, 0 ≤ v → v ≤ (Bd t : Int) → 0 ≤ v * e ∧ v * e ≤ ((12 * Bd t + 1 : Nat) : Int) := fun v v0 v1 => by
      refine ⟨Int.mul_nonneg v0 h.2.1, ?_⟩
      have a : v * e ≤ (Bd t : Int) * 12 := Int.mul_le_mul v1 h.2.2 h.2.1 (by omega)
      omega
    exact ⟨m _ i.1.1 i.1.2, m _ i.2.1 i.2.2⟩
  | .bi .times a b, h => by have i := sz_le h.1; have j := sz_le h.2; simp only [szP, Bd]; omega
  | .bi .over a b, h => by have i := sz_le h.1; have j := sz_le h.2; simp only [szP, Bd]; omega
  | .bi .plus a b, h => by have i := sz_le h.1; have j := sz_le h.2; exact ⟨mx_le (n := Bd a + Bd b + 1) (by omega) (by omega), by simp only [szP, Bd]; omega⟩
  | .bi .minus a b, h => by have i := sz_le h.1; have j := sz_le h.2; exact ⟨mx_le (n := Bd a + Bd b + 1) (by omega) (by omega), by simp only [szP, Bd]; omega⟩
  | .bad _, h => h.elim
theorem Bd_dep : ∀ {t : TM.Tm} (n : Nat), dep t ≤ n → Bd t ≤ 13 ^ n
  | t, 0, h => absurd (dep_pos t) (by omega)
  | .whole _, n + 1, _ => by have := Nat.pow_pos (n := n + 1) (show 0 < 13 by decide); simp only [Bd]; omega
  | .x, n + 1, _ => by have := Nat.pow_pos (n := n + 1) (show 0 < 13 by decide); simp only [Bd]; omega
  | .bad _, n + 1, _ => by have := Nat.pow_pos (n := n + 1) (show 0 < 13 by decide); simp only [Bd]; omega
  | .un _ t, n + 1, h => by
    have i := Bd_dep (t := t) n (by simp only [dep] at h; omega)
    have := Nat.pow_pos (n := n) (show 0 < 13 by decide)
    rw [Nat.pow_succ]; simp only [Bd]; omega
  | .pow t _, n + 1, h => by
    have i := Bd_dep (t := t) n (by simp only [dep] at h; omega)
    have := Nat.pow_pos (n := n) (show 0 < 13 by decide)
    rw [Nat.pow_succ]; simp only [Bd]; omega
  | .bi _ a b, n + 1, h => by
    have i := Bd_dep (t := a) n (by simp only [dep] at h; omega)
    have j := Bd_dep (t := b) n (by simp only [dep] at h; omega)
    have := Nat.pow_pos (n := n) (show 0 < 13 by decide)
    rw [Nat.pow_succ]; simp only [Bd]; omega
/-- what is told of a value -/
def Sh (d : PyData) (k w : Nat) : Prop := d.showable = true ∧ PyData.leavesShort 13 d = true ∧ d.hasDict = false ∧ d.depth ≤ k ∧ d.weight ≤ w
theorem sh_int {i : Int} (h0 : 0 ≤ i) (h : i ≤ 10000000) : Sh (.int i) 0 24 := by
  have lg : ¬ i.natAbs = 0 → i.natAbs.log2 < 24 := fun c => (Nat.log2_lt c (k := 24)).mpr (by omega)
  refine ⟨?_, ?_, by simp [PyData.hasDict], by simp [PyData.depth], ?_⟩
  · have z : PyData.showable (.int i) = decide (i.natAbs.log2 < 1920) := by simp only [PyData.showable]
    rw [z]
    refine decide_eq_true ?_
    by_cases c : i.natAbs = 0
    · rw [c]; decide
    · have := lg c; omega
  · have z : PyData.leavesShort 13 (.int i) = decide ((PyData.shown (.int i)).length ≤ 13) := by simp only [PyData.leavesShort]
    rw [z]
    exact decide_eq_true (PyData.shown_int_le (by omega))
  · have z : PyData.weight (.int i) = if i == 0 then 0 else i.natAbs.log2 + 1 := by simp only [PyData.weight]
    rw [z]
    split
    · omega
    · rename_i c
      have := lg (by simpa using c)
      omega
theorem sh_enc {t : TM.Tm} (h : Ok t) (hd : dep t ≤ 60) (hs : siz t ≤ 400) : Sh (enc t) 60 12000 := by
  obtain ⟨a, b, c⟩ := enc_show h
  have d := enc_depth h
  have w := enc_weight h
  exact ⟨a, b, c, by omega, by omega⟩
theorem sh_parts {t : TM.Tm} (h : Ok t) (hd : dep t ≤ 60) (hs : siz t ≤ 400) : Sh (.tuple ((parts t).map enc)) 60 13000 := by
  have one : ∀ u : TM.Tm, Ok u → dep u ≤ 59 → siz u ≤ 400 → Sh (.tuple [enc u]) 60 13000 := fun u hu h1 h2 => by
    obtain ⟨a, b, c⟩ := enc_show hu
    have d := enc_depth hu
    have w := enc_weight hu
    refine ⟨?_, ?_, ?_, ?_, ?_⟩
    · simp [PyData.showable, PyData.showableAll, a]
    · simp only [PyData.leavesShort, PyData.leavesShortAll] at b ⊢; simp [b]
    · simp [PyData.hasDict, PyData.hasDictAll, c]
    · simp only [PyData.depth, PyData.depthAll, d]; omega
    · simp only [PyData.weight, PyData.weightAll]; omega
  cases t with
  | whole n =>
    show Sh (.tuple []) 60 13000
    exact ⟨by decide +kernel, by decide +kernel, by decide +kernel, by decide +kernel, by decide +kernel⟩
  | x => exact ⟨by decide +kernel, by decide +kernel, by decide +kernel, by decide +kernel, by decide +kernel⟩
  | un s u => exact one u h (by simp only [dep] at hd; omega) (by simp only [siz] at hs; omega)
  | pow u e => exact one u h.1 (by simp only [dep] at hd; omega) (by simp only [siz] at hs; omega)
  | bad _ => exact h.elim
  | bi s u v =>
    obtain ⟨a, b, c⟩ := enc_show h.1
    have d := enc_depth h.1
    have w := enc_weight h.1
    obtain ⟨a2, b2, c2⟩ := enc_show h.2
    have d2 := enc_depth h.2
    have w2 := enc_weight h.2
    simp only [dep] at hd
    simp only [siz] at hs
    show Sh (.tuple [enc u, enc v]) 60 13000
    refine ⟨?_, ?_, ?_, ?_, ?_⟩
    · simp [PyData.showable, PyData.showableAll, a, a2]
    · simp only [PyData.leavesShort, PyData.leavesShortAll] at b b2 ⊢; simp [b, b2]
    · simp [PyData.hasDict, PyData.hasDictAll, c, c2]
    · simp only [PyData.depth, PyData.depthAll, d, d2]; omega
    · simp only [PyData.weight, PyData.weightAll]; omega
theorem rep4 {a r : PyData} {h i j : Int} (ha : Sh a 60 13000) (hr : Sh r 60 13000) (h1 : Sh (.int h) 0 24) (h2 : Sh (.int i) 0 24) (h3 : Sh (.int j) 0 24) : repB (.list [a, .int h, .tuple [.int i, .int j], r]) = true := by
  obtain ⟨a1, a2, a3, a4, a5⟩ := ha
  obtain ⟨r1, r2, r3, r4, r5⟩ := hr
  obtain ⟨x1, x2, x3, x4, x5⟩ := h1
  obtain ⟨y1, y2, y3, y4, y5⟩ := h2
  obtain ⟨z1, z2, z3, z4, z5⟩ := h3
  have f : PyData.leavesShort 13 (.list [a, .int h, .tuple [.int i, .int j], r]) = true := by
    simp only [PyData.leavesShort, PyData.leavesShortAll] at *
    simp [*]
  have g : PyData.weight (.list [a, .int h, .tuple [.int i, .int j], r]) ≤ 2 ^ 20 := by
    simp only [PyData.weight, PyData.weightAll] at *
    omega
  have k := PyData.shown_fits (B := 13) (by decide) (by decide) f g
  unfold repB
  rw [decide_eq_true k]
  have s : PyData.showable (.list [a, .int h, .tuple [.int i, .int j], r]) = true := by
    simp only [PyData.showable, PyData.showableAll] at *
    simp [*]
  have n : PyData.hasDict (.list [a, .int h, .tuple [.int i, .int j], r]) = false := by
    simp only [PyData.hasDict, PyData.hasDictAll] at *
    simp [*]
  have p : PyData.depth (.list [a, .int h, .tuple [.int i, .int j], r]) ≤ 63 := by
    simp only [PyData.depth, PyData.depthAll] at *
    omega
  rw [s, n, decide_eq_true p]
  rfl
theorem part_ok {t u : TM.Tm} (h : Ok t) (hp : u ∈ parts t) : Ok u ∧ dep u ≤ dep t ∧ siz u ≤ siz t := by
  refine ⟨parts_Ok h u hp, by have := parts_dep hp; omega, ?_⟩
  have e := siz_parts h
  have : ∀ (l : List TM.Tm), u ∈ l → siz u ≤ (l.map siz).sum := fun l hl => by
    induction l with
    | nil => cases hl
    | cons v r ih =>
      rw [List.map_cons, List.sum_cons]
      rcases List.mem_cons.mp hl with rfl | hl
      · omega
      · have := ih hl; omega
  have := this _ hp
  omega
theorem atD_ok : ∀ {ds : List PyData} {t u : TM.Tm}, Ok t → atD t ds = some u → Ok u ∧ dep u ≤ dep t ∧ siz u ≤ siz t
  | [], t, u, h, e => by cases e; exact ⟨h, Nat.le_refl _, Nat.le_refl _⟩
  | d :: r, t, u, h, e => by
    have e : (step t d).bind (fun v => atD v r) = some u := e
    obtain ⟨v, e1, e2⟩ := Option.bind_eq_some_iff.mp e
    obtain ⟨a1, a2, a3⟩ := part_ok h (step_mem e1)
    obtain ⟨b1, b2, b3⟩ := atD_ok a1 e2
    exact ⟨b1, by omega, by omega⟩
theorem sh_res {t : TM.Tm} (h : Ok t) (hd : dep t ≤ 60) (hs : siz t ≤ 400) (q : PyData) : Sh (res (pth t q)) 60 13000 := by
  cases e : pth t q with
  | none => exact ⟨by decide +kernel, by decide +kernel, by decide +kernel, by decide +kernel, by decide +kernel⟩
  | some u =>
    unfold pth at e
    split at e
    · obtain ⟨b1, b2, b3⟩ := atD_ok h e
      obtain ⟨a, b, c, d, w⟩ := sh_enc b1 (by omega) (by omega)
      exact ⟨a, b, c, d, Nat.le_trans w (by decide)⟩
    · cases e
theorem rep_asked {t : TM.Tm} (h : Ok t) (hd : dep t ≤ 60) (hs : siz t ≤ 400) (hb : Bd t ≤ 10000000) (q : PyData) : repB (.list [.tuple ((parts t).map enc), .int (dep t : Int), pD (szP t), res (pth t q)]) = true := by
  obtain ⟨a, b⟩ := sz_le h
  exact rep4 (sh_parts h hd hs) (sh_res h hd hs q) (sh_int (by omega) (by omega)) (sh_int a.1 (by omega)) (sh_int b.1 (by omega))
end Prog

set_option Elab.async false
set_option linter.all false
set_option maxRecDepth 100000
set_option maxHeartbeats 1600000
set_option autoImplicit false
set_option exponentiation.threshold 4000
namespace Prog
open PySem L2 DL TM
abbrev wS (t : TM.Tm) (p s4 s5 : Sl) : En := [.un, .cup, .dat (enc t), p, s4, s5]
theorem w0 {t : TM.Tm} (h : Ok t) (hd : dep t ≤ 60) (hs : siz t ≤ 400) (hb : Bd t ≤ 10000000) {q : PyData} (hq : PathOk q) (s4 s5 : Sl) (cu : Cu) : ta_law_0 (wS t (.dat q) s4 s5) cu = .ok (.ret (.bool true)) cu := by
  have e1 : gApp 2 G__law_asked (gaCons (gVar 2) (gaCons (gVar 3) gaNil)) (wS t (.dat q) s4 s5) cu = .ok _ cu := kApp (aC (kVar rfl) (aC (kVar rfl) aN)) (asked_term h hd (by omega) hq cu)
  have e2 : gDisp .list (gaCons (gApp 1 G__law_parts (gaCons (gVar 2) gaNil)) (gaCons (gApp 1 G__law_height (gaCons (gVar 2) gaNil)) (gaCons (gApp 1 (G__law_size 62) (gaCons (gVar 2) gaNil)) (gaCons (gApp 2 G__law_at (gaCons (gVar 2) (gaCons (gVar 3) gaNil))) gaNil)))) (wS t (.dat q) s4 s5) cu = .ok (.list [.tuple ((parts t).map enc), .int (dep t : Int), pD (szP t), res (pth t q)]) cu :=
    kDisp (aC (kApp (aC (kVar rfl) aN) (lp_enc h cu)) (aC (kApp (aC (kVar rfl) aN) (height_eq h (by omega) (by omega) cu)) (aC (kApp (aC (kVar rfl) aN) (lsize_eq 62 t (by omega) h (Mo_of h).2 cu)) (aC (kApp (aC (kVar rfl) (aC (kVar rfl) aN)) (lawat_eq h hq cu)) aN)))) rfl (by show 4 ≤ 16777216; decide)
  exact rRet (kApp (aC e1 (aC e2 aN)) (same_l (rep_asked h hd hs hb q) cu))
/-- a term, or a value with what is none -/
def Val (t : TM.Tm) : Prop := OkB Bad2 t ∧ siz t ≤ 400 ∧ ((Ok t ∧ Bd t ≤ 10000000) ∨ clean t = false)
theorem b21 : ∀ d, Bad2 d → Bad d := fun _ h => h.1
theorem itest {t : TM.Tm} {b : Bool} (hv : Val t) (hb : (clean t && decide (dep t ≤ 60) && decide (siz t ≤ 20000)) = b) (p s4 s5 : Sl) (cu : Cu) : gNot (gTru (gApp 1 G__law_is_term (gaCons (gVar 2) gaNil))) (wS t p s4 s5) cu = .ok (!b) cu :=
  tNot (tTru (a := .bool b) (kApp (aC (kVar rfl) aN) (by rw [lawterm_is hv.1 (by have := hv.2.1; omega) cu, hb])) (by cases b <;> rfl))
theorem w1 {t : TM.Tm} (hv : Val t) {q : PyData} (hq : PathOk q) (s4 s5 : Sl) (cu : Cu) : ta_law_1 (wS t (.dat q) s4 s5) cu = .ok (.ret (.bool true)) cu := by
  unfold ta_law_1
  cases b : (clean t && decide (dep t ≤ 60) && decide (siz t ≤ 20000)) with
  | false =>
    refine rSeqR (rIfT (itest hv b _ _ _ cu) (rRet (kBin (kApp (aC (kVar rfl) (aC (kVar rfl) aN)) (asked_no b21 hv.1 b q cu)) (b := .list [IT, IT, IT, IT]) (cu2 := cu) (by generalize enc t = a; kernel_rfl) (by kernel_rfl))))
  | true =>
    simp only [Bool.and_eq_true, decide_eq_true_eq] at b
    rcases hv.2.2 with ⟨h, hb⟩ | h
    · refine rSeq (rIfF (itest (b := true) hv (by simp only [Bool.and_eq_true, decide_eq_true_eq]; exact b) _ _ _ cu) rSkip) (w0 h b.1.2 hv.2.1 hb hq s4 s5 cu)
    · rw [h] at b; cases b.1.1
theorem w2 {t : TM.Tm} (hv : Val t) {q : PyData} (hq : PathOk q) (s4 s5 : Sl) (cu : Cu) : ta_law_2 (wS t (.dat q) s4 s5) cu = .ok (.ret (.bool true)) cu := by
  unfold ta_law_2
  refine rSeq (rIfF (tNot (k := true) (tTru (kApp (aC (kApp (aC (kVar rfl) aN) (isterm_eq b21 hv.1)) (aC (kApp (aC (kVar rfl) aN) (lawterm_is hv.1 (by have := hv.2.1; omega) cu)) aN)) (dRep_b _ cu)) rfl)) rSkip) (w1 hv hq s4 s5 cu)
theorem put_siz (d : PyData) : ∀ (P : List Nat) (t : TM.Tm), siz (put t P d) ≤ siz t
  | [], t => by have := siz_pos t; cases t <;> (show 1 ≤ _; omega)
  | i :: p, .whole _ => Nat.le_refl 1
  | i :: p, .x => Nat.le_refl 1
  | i :: p, .bad _ => Nat.le_refl 1
  | i :: p, .un s t => by have := put_siz d p t; show siz (put t p d) + 1 ≤ siz t + 1; omega
  | i :: p, .pow t e => by have := put_siz d p t; show siz (put t p d) + 1 ≤ siz t + 1; omega
  | i :: p, .bi s a b => by
    have := put_siz d p a
    have := put_siz d p b
    show siz (if i = 0 then TM.Tm.bi s (put a p d) b else .bi s a (put b p d)) ≤ siz a + siz b + 1
    split
    · show siz (put a p d) + siz b + 1 ≤ _; omega
    · show siz a + siz (put b p d) + 1 ≤ _; omega
theorem odd_ex2 (cu : Cu) : ∃ d c, Bad2 d ∧ G__law_odd [.cup] cu = .ok d c := by
  obtain ⟨d, hd, c, e⟩ := some_in ODDS (by decide) (by decide) cu
  refine ⟨d, c, odds_bad2 d hd, kFn ?_⟩
  have q : g__law_odd [.cup, .un] cu = ta__law_odd_0 [.cup, .dat (.list ODDS)] cu := by kernel_rfl
  exact q.trans (rRet (kApp (aCup rfl (aC (kVar rfl) aN)) e))
theorem wdie (t : TM.Tm) (p s4 s5 : Sl) (m : Int) (h1 : 1 ≤ m) (h2 : m ≤ 1000) (cu : Cu) : ∃ (b : Bool) (c : Cu), gBin dEq (gApp 2 G__law_roll (gaCup 1 (gaCons (gC (.int m)) gaNil))) (gC (.int 0)) (wS t p s4 s5) cu = .ok (.bool b) c := by
  obtain ⟨v, c, v0, v1, e⟩ := roll_ex m h1 (Nat.lt_of_le_of_lt (m := 1000) (by omega) (by decide)) cu
  exact ⟨decide (v = 0), c, kBin (kApp (aCup rfl (aC kC aN)) e) kC (dEqI v)⟩
theorem w3 {t : TM.Tm} (h : Ok t) (hs : siz t ≤ 400) (hb : Bd t ≤ 10000000) {q : PyData} (hq : PathOk q) (s4 s5 : Sl) (cu : Cu) : ∃ c, ta_law_3 (wS t (.dat q) s4 s5) cu = .ok (.ret (.bool true)) c := by
  obtain ⟨b, c, e⟩ := wdie t (.dat q) s4 s5 3 (by decide) (by decide) cu
  cases b with
  | false => exact ⟨c, rSeq (rIfF (tBool e) rSkip) (w2 ⟨h.okB, hs, .inl ⟨h, hb⟩⟩ hq s4 s5 c)⟩
  | true =>
    obtain ⟨P, u, c2, a1, a2, a3⟩ := path_ex h c
    obtain ⟨d, c3, b1, b2⟩ := odd_ex2 c2
    obtain ⟨p1, p2⟩ := put_ok (B := Bad2) b1 h a1
    have z := put_siz d P t
    exact ⟨c3, rSeq (rIfT (tBool e) (rSet (kApp (aC (kVar rfl) (aC (kApp (aCup rfl (aC (kVar rfl) aN)) a3) (aC (kApp (aCup rfl aN) b2) aN))) (put_eq d c3 P 7 (by omega) h a1)))) (w2 (t := put t P d) ⟨p1, by omega, .inr p2⟩ hq s4 s5 c3)⟩
theorem ixok_nat (P : List Nat) : ∀ d ∈ P.map nI, IxOk d := fun d hd => by
  obtain ⟨n, _, rfl⟩ := List.mem_map.mp hd
  exact .inl ⟨_, rfl⟩
theorem p_add {P : List Nat} (h : P.length ≤ 1000) (d : PyData) : dAdd (pT P) (.tuple [d]) = some (.tuple (P.map nI ++ [d])) := by
  show (if _ then some _ else none) = _
  rw [if_pos (by rw [List.length_map, List.length_singleton]; omega)]
theorem p_ok {P : List Nat} {d : PyData} (h : IxOk d) : PathOk (.tuple (P.map nI ++ [d])) := .inl ⟨_, rfl, fun x hx => by
  rcases List.mem_append.mp hx with hx | hx
  · exact ixok_nat P x hx
  · cases List.mem_singleton.mp hx; exact h⟩
theorem w4 {t : TM.Tm} (h : Ok t) (hs : siz t ≤ 400) (hb : Bd t ≤ 10000000) {P : List Nat} (hP : P.length ≤ 1000) (s4 s5 : Sl) (cu : Cu) : ∃ c, ta_law_4 (wS t (.dat (pT P)) s4 s5) cu = .ok (.ret (.bool true)) c := by
  obtain ⟨b, c, e⟩ := wdie t (.dat (pT P)) s4 s5 2 (by decide) (by decide) cu
  cases b with
  | false =>
    obtain ⟨c2, q⟩ := w3 h hs hb (q := pT P) (.inl ⟨_, rfl, ixok_nat P⟩) s4 s5 c
    exact ⟨c2, rSeq (rIfF (tBool e) rSkip) q⟩
  | true =>
    obtain ⟨d, hm, c1, e1⟩ := some_in [.tuple (P.map nI ++ [.int 0]), .tuple (P.map nI ++ [.int 1]), .tuple (P.map nI ++ [.int 2]), .tuple (P.map nI ++ [.int (-1)]), .tuple (P.map nI ++ [.bool true]), .list (P.map nI), .none, .tuple (P.map nI ++ [.str "x"]), .tuple (List.replicate 61 (.int 0))] (by show 0 < 9; decide) (by show 9 ≤ 1000; decide) c
    have hq : PathOk d := by
      simp only [List.mem_cons, List.not_mem_nil, or_false] at hm
      rcases hm with q | q | q | q | q | q | q | q | q
      · subst q; exact p_ok (.inl ⟨_, rfl⟩)
      · subst q; exact p_ok (.inl ⟨_, rfl⟩)
      · subst q; exact p_ok (.inl ⟨_, rfl⟩)
      · subst q; exact p_ok (.inl ⟨_, rfl⟩)
      · subst q; exact p_ok (.inr (.inl rfl))
      · subst q; exact .inr (.inl ⟨_, rfl⟩)
      · subst q; exact .inr (.inr rfl)
      · subst q; exact p_ok (.inr (.inr rfl))
      · subst q; exact .inl ⟨_, rfl, fun x hx => .inl ⟨0, List.eq_of_mem_replicate hx⟩⟩
    obtain ⟨c2, q⟩ := w3 h hs hb hq s4 s5 c1
    have one : ∀ {x : PyData} {ρ : En} {cu : Cu}, gDisp .tuple (gaCons (gC x) gaNil) ρ cu = .ok (.tuple [x]) cu := kDisp (aC kC aN) rfl (by show 1 ≤ 16777216; decide)
    have neg : ∀ {ρ : En} {cu : Cu}, gDisp .tuple (gaCons (gUn dNeg (gC (.int 1))) gaNil) ρ cu = .ok (.tuple [.int (-1)]) cu := kDisp (aC (kUn kC rfl) aN) rfl (by show 1 ≤ 16777216; decide)
    refine ⟨c2, rSeq (rIfT (tBool e) (rSet (kApp (aCup rfl (aC (kDisp (aC (kBin (kVar rfl) one (p_add hP _)) (aC (kBin (kVar rfl) one (p_add hP _)) (aC (kBin (kVar rfl) one (p_add hP _)) (aC (kBin (kVar rfl) neg (p_add hP _)) (aC (kBin (kVar rfl) one (p_add hP _)) (aC (kCall (aC (kVar rfl) aN) (dToLst_tup ..)) (aC kC (aC (kBin (kVar rfl) one (p_add hP _)) (aC (kBin one kC ?_) aN))))))))) rfl (by show 9 ≤ 16777216; decide)) aN)) e1))) q⟩
    kernel_rfl
theorem w5 {t : TM.Tm} (h : Ok t) (hs : siz t ≤ 400) (hb : Bd t ≤ 10000000) (p s4 s5 : Sl) (cu : Cu) : ∃ c, ta_law_5 (wS t p s4 s5) cu = .ok (.ret (.bool true)) c := by
  obtain ⟨P, u, c1, a1, a2, a3⟩ := path_ex h cu
  obtain ⟨c2, q⟩ := w4 h hs hb (P := P) (by omega) s4 s5 c1
  exact ⟨c2, rSeq (rSet (kApp (aCup rfl (aC (kVar rfl) aN)) a3)) q⟩
theorem many (n : Nat) (h : okf 40 n = true) (h1 : 1 ≤ n) (h2 : n ≤ 100000) (t : TM.Tm) (p s4 : Sl) (cu : Cu) : gRet (gApp 2 G__law_same (gaCons (gApp 1 G_is_term (gaCons (gApp 1 (G__law_exactly 40) (gaCons (gVar 5) gaNil)) gaNil)) (gaCons (gBin (fB0 fun i j => decide (i ≤ j)) (gVar 5) (gC (.int 20000))) gaNil))) (wS t p s4 (.dat (.int (n : Int)))) cu = .ok (.ret (.bool true)) cu := by
  obtain ⟨u, a1, a2, a3, a4⟩ := exactly_ex 40 n h h1
  have e : (clean u && decide (dep u ≤ 60) && decide (siz u ≤ 20000)) = decide ((n : Int) ≤ 20000) := by
    rw [a1.clean, decide_eq_true (show dep u ≤ 60 by omega), a3]
    simp only [Bool.true_and]
    exact decide_eq_decide.mpr ⟨fun h => by omega, fun h => by omega⟩
  have i := isterm_eq (B := fun _ => False) (cu := cu) (fun _ z => z.elim) a1.okB
  rw [e] at i
  exact rRet (kApp (aC (kApp (aC (kApp (aC (kVar rfl) aN) (a4 cu)) aN) i) (aC (kBin (kVar rfl) kC rfl) aN)) (dRep_b _ cu))
theorem w6 {t : TM.Tm} (h : Ok t) (hs : siz t ≤ 400) (hb : Bd t ≤ 10000000) (p s4 s5 : Sl) (cu : Cu) : ∃ c, ta_law_6 (wS t p s4 s5) cu = .ok (.ret (.bool true)) c := by
  obtain ⟨b, c, e⟩ := wdie t p s4 s5 40 (by decide) (by decide) cu
  cases b with
  | false =>
    obtain ⟨c2, q⟩ := w5 h hs hb p s4 s5 c
    exact ⟨c2, rSeq (rIfF (tBool e) rSkip) q⟩
  | true =>
    obtain ⟨d, hm, c1, e1⟩ := some_in [.int 16383, .int 20000, .int 20001, .int 32767] (by decide) (by decide) c
    have k : ∃ n : Nat, okf 40 n = true ∧ 1 ≤ n ∧ n ≤ 100000 ∧ d = .int (n : Int) := by
      simp only [List.mem_cons, List.not_mem_nil, or_false] at hm
      rcases hm with q | q | q | q
      · exact ⟨16383, by decide +kernel, by decide, by decide, q⟩
      · exact ⟨20000, by decide +kernel, by decide, by decide, q⟩
      · exact ⟨20001, by decide +kernel, by decide, by decide, q⟩
      · exact ⟨32767, by decide +kernel, by decide, by decide, q⟩
    obtain ⟨n, k1, k2, k3, rfl⟩ := k
    exact ⟨c1, rSeqR (rIfT (tBool e) (rSeq (rSet (kApp (aCup rfl (aC (kDisp (aC kC (aC kC (aC kC (aC kC aN)))) rfl (by show 4 ≤ 16777216; decide)) aN)) e1)) (many n k1 k2 k3 t p s4 c1)))⟩
theorem wturn {t : TM.Tm} (h : Ok t) (p s4 s5 : Sl) (cu : Cu) : ∃ t' c, Ok t' ∧ dep t' = dep t + 1 ∧ siz t' = siz t + 1 ∧ Bd t' = Bd t + 1 ∧ fb_law_0 (wS t p s4 s5) cu = .ok (.nx (wS t' p s4 s5)) c := by
  obtain ⟨d, hd, c, e⟩ := some_in [.str "negative", .str "exp"] (by decide) (by decide) cu
  have row : ∀ s : US, d = .str s.str → fb_law_0 (wS t p s4 s5) cu = .ok (.nx (wS (.un s t) p s4 s5)) c := fun s q => by
    rw [q] at e
    exact rSet (kDisp (aC (kApp (aCup rfl (aC (kDisp (aC kC (aC kC aN)) rfl (by show 2 ≤ 16777216; decide)) aN)) e) (aC (kVar rfl) aN)) rfl (by show 2 ≤ 16777216; decide))
  simp only [List.mem_cons, List.not_mem_nil, or_false] at hd
  rcases hd with q | q
  · exact ⟨.un .neg t, c, h, by simp [dep], by simp [siz], by simp [Bd], row .neg q⟩
  · exact ⟨.un .exp t, c, h, by simp [dep], by simp [siz], by simp [Bd], row .exp q⟩
theorem wloop : ∀ (items : List PyData) {t : TM.Tm} (_ : Ok t) (p s4 s5 : Sl) (cu : Cu), ∃ t' s4' c, Ok t' ∧ siz t' ≤ siz t + items.length ∧ Bd t' ≤ Bd t + items.length ∧ gForL (ggName 4) fb_law_0 items (wS t p s4 s5) cu = .ok (.nx (wS t' p s4' s5)) c
  | [], t, h, p, s4, s5, cu => ⟨t, s4, cu, h, by simp, by simp, rfl⟩
  | d :: r, t, h, p, s4, s5, cu => by
    obtain ⟨t1, c1, a1, a2, a3, a5, a4⟩ := wturn h p (.dat d) s5 cu
    obtain ⟨t2, s4', c2, b1, b2, b3, b4⟩ := wloop r a1 p (.dat d) s5 c1
    exact ⟨t2, s4', c2, b1, by rw [List.length_cons]; omega, by rw [List.length_cons]; omega, rForC (ρ1 := wS t p (.dat d) s5) rfl a4 b4⟩
theorem w7 {t : TM.Tm} (h : Ok t) (hd : dep t ≤ 6) (hs : siz t ≤ 63) (hb : Bd t ≤ 5000000) (p s4 s5 : Sl) (cu : Cu) : ∃ c, ta_law_7 (wS t p s4 s5) cu = .ok (.ret (.bool true)) c := by
  obtain ⟨b, c, e⟩ := wdie t p s4 s5 12 (by decide) (by decide) cu
  cases b with
  | false =>
    obtain ⟨c2, q⟩ := w6 h (by omega) (by omega) p s4 s5 c
    exact ⟨c2, rSeq (rIfF (tBool e) rSkip) q⟩
  | true =>
    obtain ⟨d, hm, c1, e1⟩ := some_in [.int 50, .int (60 - (dep t : Int)), .int (61 - (dep t : Int))] (by show 0 < 3; decide) (by show 3 ≤ 1000; decide) c
    have k : ∃ n : Nat, n ≤ 61 ∧ d = .int (n : Int) := by
      simp only [List.mem_cons, List.not_mem_nil, or_false] at hm
      rcases hm with q | q | q
      · exact ⟨50, by decide, q⟩
      · exact ⟨60 - dep t, by omega, by rw [q]; congr 1; omega⟩
      · exact ⟨61 - dep t, by omega, by rw [q]; congr 1; omega⟩
    obtain ⟨n, hn, rfl⟩ := k
    obtain ⟨t2, s4', c2, a1, a2, a3, a4⟩ := wloop (rngD 0 n) h p s4 s5 c1
    rw [rng_len] at a2 a3
    obtain ⟨c3, q⟩ := w6 a1 (by omega) (by omega) p s4' s5 c2
    have hh : ∀ k : Int, gBin (fI0 fun i j => i - j) (gC (.int k)) (gApp 1 G__law_height (gaCons (gVar 2) gaNil)) (wS t p s4 s5) c = .ok (.int (k - (dep t : Int))) c := fun k => kBin kC (kApp (aC (kVar rfl) aN) (height_eq h (by omega) (by omega) c)) rfl
    refine ⟨c3, rSeq (rIfT (tBool e) (rFor (iArg (aC (kApp (aCup rfl (aC (kDisp (aC kC (aC (hh 60) (aC (hh 61) aN))) rfl (by show 3 ≤ 16777216; decide)) aN)) e1) aN) ?_) a4)) q⟩
    exact rng1_nat (by omega)
theorem law_ret (cu : Cu) : ∃ c, g_law (.un :: .cup :: List.replicate 4 .un) cu = .ok (.ret (.bool true)) c := by
  obtain ⟨d, hm, c1, e1⟩ := some_in [.int 1, .int 2, .int 3, .int 4, .int 5] (by decide) (by decide) cu
  have k : ∃ n : Nat, n ≤ 5 ∧ d = .int (n : Int) := by
    simp only [List.mem_cons, List.not_mem_nil, or_false] at hm
    rcases hm with q | q | q | q | q
    · exact ⟨1, by decide, q⟩
    · exact ⟨2, by decide, q⟩
    · exact ⟨3, by decide, q⟩
    · exact ⟨4, by decide, q⟩
    · exact ⟨5, by decide, q⟩
  obtain ⟨n, hn, rfl⟩ := k
  obtain ⟨t, c2, a1, a2, a3, a4⟩ := drawn_ex 7 n (by omega) c1
  have b2 : 2 ^ (n + 1) ≤ 2 ^ 6 := Nat.pow_le_pow_right (n := 2) (by decide) (by omega)
  have b3 := Bd_dep (t := t) 6 (by omega)
  obtain ⟨c3, q⟩ := w7 a1 (by omega) (by omega) (by omega) .un .un .un c2
  exact ⟨c3, rSeq (rSet (kApp (aCup rfl (aC (kApp (aCup rfl (aC (kDisp (aC kC (aC kC (aC kC (aC kC (aC kC aN))))) rfl (by show 5 ≤ 16777216; decide)) aN)) e1) (aC (kDisp (aC kC (aC kC (aC kC (aC kC (aC kC aN))))) rfl (by show 5 ≤ 16777216; decide)) (aC (kDisp (aC kC (aC kC aN)) rfl (by show 2 ≤ 16777216; decide)) aN)))) a4)) q⟩
theorem law_holds_g : ∀ ns : List Int, ns.length ≤ 63 → ∃ cu, g_law (.un :: .cup :: List.replicate 4 .un) (cup0 (cell0 ns)) = .ok (.ret (.bool true)) cu := fun ns _ => law_ret _
end Prog

theorem PySem.Challenge.cw_towerback_k65_whole_terms_holds : PySem.Challenge.rw_towerback_k65_whole_terms.Holds := by
  exact end_holds Prog.law_holds_g

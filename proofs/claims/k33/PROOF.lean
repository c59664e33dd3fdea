import PyProof.Rows.All
import Wide.All
import OpenK.AllK
import Wide.FinOn
import PySem.Challenge.RW_towerback_k33_whole_contents_and_quotien
import HandS.Head3
import HandS.AnyAll
import HandS.Comp
import HandS.Deep
import HandS.Defaults
import HandS.EndBits
import HandS.EndTab
import HandS.ForExc
import HandS.Gcd
import HandS.GenList
import HandS.Head0
import HandS.Head1
import HandS.Head2
import HandS.HeadEnd
import HandS.HeadHook1
import HandS.HeadHook2
import HandS.IsInst
import HandS.Iter
import HandS.Lambda
import HandS.List
import HandS.Rev
import HandS.RevRange
import HandS.Sort
import HandS.Style
import HandS.TryMany
import HandS.TupAny
import HandS.TupLe
import HandS.TupMul
import HandS.Wide
import HandS.WideBits
import HandS.Zip
import KE.GoesEnum
import KE.GoesMore
import KE.GoesZip
import KE.KMathG
import KE.KNestM
import PyProof.AutoSeq1
import PyProof.ConsumeWalk
import PyProof.Draws
import PyProof.GenCompD
import PyProof.PureInt
import PyProof.Rows.SetFrom
import PyProof.Rows.TupleGenD
import PyProof.TupleOfGen
set_option Elab.async false
set_option linter.all false
set_option maxRecDepth 100000
set_option autoImplicit false
/-! whole lines by their values -/
namespace ZP
def ev (t : Int) : List Int → Int
  | [] => 0
  | c :: r => c + t * ev t r
theorem ev_app (t : Int) : ∀ a b : List Int, ev t (a ++ b) = ev t a + t ^ a.length * ev t b
  | [], b => by simp [ev]
  | c :: a, b => by
    rw [List.cons_append, ev, ev, ev_app t a b, List.length_cons, Int.pow_succ]
    grind
theorem ev_set (t x : Int) : ∀ (l : List Int) (k : Nat) (h : k < l.length), ev t (l.set k x) = ev t l + (x - l[k]) * t ^ k
  | [], _, h => absurd h (Nat.not_lt_zero _)
  | c :: r, 0, _ => by
    rw [List.set_cons_zero, ev, ev, List.getElem_cons_zero, Int.pow_zero]
    omega
  | c :: r, k + 1, h => by
    rw [List.set_cons_succ, ev, ev, ev_set t x r k (by simpa using h), List.getElem_cons_succ, Int.pow_succ]
    grind
def sd (r : Int) : List Int → List Int
  | [] => []
  | _ :: m => match m with
    | [] => []
    | b :: m' => ev r (b :: m') :: sd r (b :: m')
theorem sd_len (r : Int) : ∀ l : List Int, (sd r l).length = l.length - 1
  | [] => rfl
  | [_] => rfl
  | c :: b :: m => by
    have h := sd_len r (b :: m)
    rw [sd, List.length_cons, h]
    simp
theorem ev_sd (t r : Int) : ∀ l : List Int, ev t l = ev r l + (t - r) * ev t (sd r l)
  | [] => by simp [ev, sd]
  | [c] => by simp [ev, sd]
  | c :: b :: m => by
    have h := ev_sd t r (b :: m)
    rw [sd, ev, ev.eq_2 r, ev.eq_2 t (ev r (b :: m)), h]
    grind
theorem sd_zero (r : Int) : ∀ l : List Int, ev r l = 0 → (∀ c ∈ sd r l, c = 0) → ∀ c ∈ l, c = 0
  | [], _, _ => by simp
  | [c], h, _ => by simpa [ev] using h
  | c :: b :: m, h, k => by
    rw [sd] at k
    have h0 : ev r (b :: m) = 0 := k _ (List.mem_cons_self ..)
    have ih := sd_zero r (b :: m) h0 fun c hc => k c (List.mem_cons_of_mem _ hc)
    rw [ev, h0] at h
    intro x hx
    rcases List.mem_cons.mp hx with e | e
    · rw [e]; omega
    · exact ih x e
theorem root_all : ∀ (rs l : List Int), l.length ≤ rs.length → rs.Nodup → (∀ r ∈ rs, ev r l = 0) → ∀ c ∈ l, c = 0
  | [], l, h, _, _ => by
    have : l = [] := List.length_eq_zero_iff.mp (Nat.le_zero.mp h)
    subst this
    simp
  | r :: rs, l, h, nd, hr => by
    have nd' := List.nodup_cons.mp nd
    have h0 := hr r (List.mem_cons_self ..)
    refine sd_zero r l h0 (root_all rs (sd r l) ?_ nd'.2 fun x hx => ?_)
    · rw [sd_len]; rw [List.length_cons] at h; omega
    · have e := ev_sd x r l
      rw [hr x (List.mem_cons_of_mem _ hx), h0, Int.zero_add] at e
      have ne : x - r ≠ 0 := fun z => nd'.1 (by have : x = r := by omega
                                                rw [← this]; exact hx)
      exact (Int.mul_eq_zero.mp e.symm).resolve_left ne
def rng (n : Nat) : List Int := (List.range n).map fun (i : Nat) => (i : Int)
theorem rng_len (n : Nat) : (rng n).length = n := by simp [rng]
theorem rng_nd (n : Nat) : (rng n).Nodup := by
  unfold rng
  rw [List.nodup_iff_pairwise_ne, List.pairwise_map]
  exact List.Pairwise.imp (fun h => by omega) List.pairwise_lt_range
theorem ev_zero (t : Int) : ∀ l : List Int, (∀ c ∈ l, c = 0) → ev t l = 0
  | [], _ => rfl
  | c :: r, h => by
    rw [ev, h c (List.mem_cons_self ..), ev_zero t r fun c hc => h c (List.mem_cons_of_mem _ hc)]
    omega
theorem ev_sub (t : Int) : ∀ a b : List Int, a.length = b.length → ev t (List.zipWith (· - ·) a b) = ev t a - ev t b
  | [], [], _ => by simp [ev]
  | [], _ :: _, h => by simp at h
  | _ :: _, [], h => by simp at h
  | c :: a, d :: b, h => by
    rw [List.zipWith_cons_cons, ev, ev, ev, ev_sub t a b (by simpa using h)]
    grind
theorem sub_zero : ∀ a b : List Int, a.length = b.length → (∀ c ∈ List.zipWith (· - ·) a b, c = 0) → a = b
  | [], [], _, _ => rfl
  | [], _ :: _, h, _ => by simp at h
  | _ :: _, [], h, _ => by simp at h
  | c :: a, d :: b, h, k => by
    rw [List.zipWith_cons_cons] at k
    have h0 := k (c - d) (List.mem_cons_self ..)
    rw [sub_zero a b (by simpa using h) fun c hc => k c (List.mem_cons_of_mem _ hc)]
    have : c = d := by omega
    rw [this]
/-- equal where as many values as numbers are equal -/
theorem ev_inj_on {a b rs : List Int} (h : a.length = b.length) (hl : a.length ≤ rs.length) (nd : rs.Nodup) (e : ∀ t ∈ rs, ev t a = ev t b) : a = b :=
  sub_zero a b h (root_all rs _ (by rw [List.length_zipWith]; omega) nd fun t ht => by rw [ev_sub t a b h, e t ht]; omega)
theorem ev_inj {a b : List Int} (h : a.length = b.length) (e : ∀ t, ev t a = ev t b) : a = b :=
  ev_inj_on h (Nat.le_of_eq (rng_len a.length).symm) (rng_nd _) fun t _ => e t
/-- times a line less r -/
def ml (r : Int) : Int → List Int → List Int
  | p, [] => [p]
  | p, c :: l => (p - r * c) :: ml r c l
theorem ml_len (r : Int) : ∀ (p : Int) (l : List Int), (ml r p l).length = l.length + 1
  | _, [] => rfl
  | p, c :: l => by rw [ml, List.length_cons, ml_len, List.length_cons]
theorem ev_ml (t r : Int) : ∀ (p : Int) (l : List Int), ev t (ml r p l) = p + (t - r) * ev t l
  | p, [] => by simp [ml, ev]
  | p, c :: l => by
    rw [ml, ev, ev, ev_ml t r c l]
    grind
theorem ml_last (r : Int) : ∀ (p : Int) (l : List Int), (ml r p l).getLast? = some ((l.getLast?).getD p)
  | p, [] => rfl
  | p, c :: l => by
    have h := ml_last r c l
    cases hl : ml r c l with
    | nil => rw [hl] at h; simp at h
    | cons a b =>
      rw [ml, hl, List.getLast?_cons_cons, ← hl, h]
      cases l with
      | nil => rfl
      | cons x y => rw [List.getLast?_eq_some_getLast (List.cons_ne_nil x y)]; rfl
/-- the sum of the sizes -/
def nm : List Int → Nat
  | [] => 0
  | c :: r => c.natAbs + nm r
theorem nm_mem : ∀ {l : List Int} {c : Int}, c ∈ l → c.natAbs ≤ nm l
  | _ :: r, c, h => by
    rcases List.mem_cons.mp h with e | e
    · rw [nm, e]; omega
    · have := nm_mem e; rw [nm]; omega
theorem nm_le (B : Nat) : ∀ l : List Int, (∀ c ∈ l, c.natAbs ≤ B) → nm l ≤ l.length * B
  | [], _ => by simp [nm]
  | c :: r, h => by
    have h1 := h c (List.mem_cons_self ..)
    have h2 := nm_le B r fun c hc => h c (List.mem_cons_of_mem _ hc)
    rw [nm, List.length_cons, Nat.add_mul]
    omega
theorem ml_nm (r : Int) (B : Nat) (hr : r.natAbs ≤ B) : ∀ (p : Int) (l : List Int), nm (ml r p l) ≤ p.natAbs + (B + 1) * nm l
  | p, [] => by simp [ml, nm]
  | p, c :: l => by
    have h := ml_nm r B hr c l
    have h1 : (p - r * c).natAbs ≤ p.natAbs + r.natAbs * c.natAbs := by
      rw [← Int.natAbs_mul]; omega
    have h2 : r.natAbs * c.natAbs ≤ B * c.natAbs := Nat.mul_le_mul_right _ hr
    rw [ml, nm, nm, Nat.mul_add, Nat.add_mul]
    omega
theorem ev_le (t : Int) (B : Nat) (h1 : 1 ≤ B) (ht : t.natAbs ≤ B) : ∀ l : List Int, (ev t l).natAbs ≤ nm l * B ^ l.length
  | [] => by simp [ev]
  | c :: r => by
    have ih := ev_le t B h1 ht r
    have e1 : (ev t (c :: r)).natAbs ≤ c.natAbs + t.natAbs * (ev t r).natAbs := by
      rw [ev, ← Int.natAbs_mul]; omega
    have e2 : t.natAbs * (ev t r).natAbs ≤ B * (nm r * B ^ r.length) := Nat.mul_le_mul ht ih
    have e3 : 1 ≤ B ^ (r.length + 1) := Nat.one_le_pow _ _ h1
    have e4 : B * (nm r * B ^ r.length) = nm r * B ^ (r.length + 1) := by rw [Nat.pow_succ]; grind
    have e5 : c.natAbs ≤ c.natAbs * B ^ (r.length + 1) := Nat.le_mul_of_pos_right _ e3
    rw [nm, List.length_cons, Nat.add_mul]
    omega
end ZP

set_option Elab.async false
set_option linter.all false
set_option maxRecDepth 100000
set_option autoImplicit false
namespace ZP
theorem sum_mul (x : Int) (g : Nat → Int) : ∀ L : List Nat, (L.map fun i => x * g i).sum = x * (L.map g).sum
  | [] => by simp
  | a :: L => by
    rw [List.map_cons, List.map_cons, List.sum_cons, List.sum_cons, sum_mul x g L]
    grind
theorem sum_ev (x : Int) : ∀ l : List Int, ((List.range l.length).map fun i => l.getD i 0 * x ^ i).sum = ev x l
  | [] => rfl
  | c :: r => by
    have h := sum_mul x (fun i => r.getD i 0 * x ^ i) (List.range r.length)
    rw [sum_ev x r] at h
    rw [List.length_cons, List.range_succ_eq_map, List.map_cons, List.sum_cons, List.map_map, ev, ← h]
    have e : (List.map ((fun i => (c :: r).getD i 0 * x ^ i) ∘ Nat.succ) (List.range r.length)) = List.map (fun i => x * (r.getD i 0 * x ^ i)) (List.range r.length) := by
      refine List.map_congr_left fun i _ => ?_
      show (c :: r).getD (i + 1) 0 * x ^ (i + 1) = _
      rw [List.getD_cons_succ, Int.pow_succ]
      grind
    rw [e, List.getD_cons_zero, Int.pow_zero, Int.mul_one]
theorem filter_len (p : Int → Bool) : ∀ l : List Int, (l.filter p).length + (l.filter fun r => !p r).length = l.length
  | [] => rfl
  | a :: l => by
    have h := filter_len p l
    rw [List.filter_cons, List.filter_cons, List.length_cons]
    cases p a <;> simp <;> omega
theorem nd_filter (p : Int → Bool) {l : List Int} (h : l.Nodup) : (l.filter p).Nodup := List.Nodup.sublist (List.filter_sublist) h
/-- some of many values are not nought -/
theorem nonroot_count {l rs : List Int} (hl : ∃ c ∈ l, c ≠ 0) (nd : rs.Nodup) : rs.length < (rs.filter fun r => decide (ev r l ≠ 0)).length + l.length := by
  have h1 : (rs.filter fun r => decide (ev r l ≠ 0)).length + (rs.filter fun r => !decide (ev r l ≠ 0)).length = rs.length :=
    filter_len _ rs
  by_cases h : l.length ≤ (rs.filter fun r => !decide (ev r l ≠ 0)).length
  · obtain ⟨c, hc, ne⟩ := hl
    refine absurd (root_all _ l h (nd_filter _ nd) (fun r hr => ?_) c hc) ne
    have := (List.mem_filter.mp hr).2
    simpa using this
  · omega
def pt (k : Nat) : Int := if k % 2 = 0 then -((k / 2 : Nat) : Int) else ((k / 2 : Nat) : Int) + 1
theorem pt_inj {a b : Nat} (h : pt a = pt b) : a = b := by
  unfold pt at h
  split at h <;> split at h <;> omega
theorem pt_le (k : Nat) : (pt k).natAbs ≤ k / 2 + 1 := by
  unfold pt
  split <;> omega
def NR (l : List Int) : Nat → List Int
  | 0 => []
  | k + 1 => NR l k ++ (if ev (pt k) l ≠ 0 then [pt k] else [])
theorem NR_eq (l : List Int) : ∀ k, NR l k = ((List.range k).map pt).filter fun r => decide (ev r l ≠ 0)
  | 0 => rfl
  | k + 1 => by
    rw [NR, NR_eq l k, List.range_succ, List.map_append, List.filter_append]
    congr 1
    rw [List.map_cons, List.map_nil, List.filter_cons]
    by_cases h : ev (pt k) l ≠ 0
    · rw [if_pos h, decide_eq_true h]; rfl
    · rw [if_neg h, decide_eq_false h]; rfl
theorem pts_nd (k : Nat) : ((List.range k).map pt).Nodup := by
  rw [List.nodup_iff_pairwise_ne, List.pairwise_map]
  exact List.Pairwise.imp (fun h e => absurd (pt_inj e) (Nat.ne_of_lt h)) List.pairwise_lt_range
theorem NR_nd (l : List Int) (k : Nat) : (NR l k).Nodup := by
  rw [NR_eq]
  exact nd_filter _ (pts_nd k)
theorem NR_mem {l : List Int} {k : Nat} {x : Int} (h : x ∈ NR l k) : ev x l ≠ 0 ∧ x.natAbs ≤ k / 2 + 1 := by
  rw [NR_eq] at h
  obtain ⟨h1, h2⟩ := List.mem_filter.mp h
  obtain ⟨i, hi, rfl⟩ := List.mem_map.mp h1
  have := List.mem_range.mp hi
  have := pt_le i
  exact ⟨of_decide_eq_true h2, by omega⟩
theorem NR_many {l : List Int} (hl : ∃ c ∈ l, c ≠ 0) (k : Nat) : k < (NR l k).length + l.length := by
  rw [NR_eq]
  have h := nonroot_count hl (pts_nd k)
  simpa using h
structure Lst (l : List Int) (many T : Nat) : Prop where
  enough : many ≤ (NR l T).length
  less : ∀ k, k < T → (NR l k).length < many
theorem least_of {l : List Int} {many : Nat} : ∀ N, many ≤ (NR l N).length → ∃ T, T ≤ N ∧ Lst l many T
  | 0, h => ⟨0, Nat.le_refl _, h, fun k hk => absurd hk (Nat.not_lt_zero _)⟩
  | N + 1, h => by
    by_cases h0 : many ≤ (NR l N).length
    · obtain ⟨T, h1, h2⟩ := least_of N h0
      exact ⟨T, Nat.le_succ_of_le h1, h2⟩
    · refine ⟨N + 1, Nat.le_refl _, h, fun k hk => ?_⟩
      have hm : ∀ j, (NR l (k + j)).length ≥ (NR l k).length := fun j => by
        induction j with
        | zero => exact Nat.le_refl _
        | succ j ih =>
          show _ ≤ (NR l ((k + j) + 1)).length
          rw [NR, List.length_append]
          omega
      have := hm (N - k)
      rw [show k + (N - k) = N by omega] at this
      omega
theorem least_ex {l : List Int} (hl : ∃ c ∈ l, c ≠ 0) (many : Nat) : ∃ T, T ≤ many + l.length ∧ Lst l many T :=
  least_of _ (by have := NR_many hl (many + l.length); omega)
theorem Lst.len {l : List Int} {many T : Nat} (h : Lst l many T) : (NR l T).length = many := by
  have h1 := h.enough
  cases T with
  | zero => have : (NR l 0).length = 0 := rfl
            omega
  | succ T =>
    have h2 := h.less T (Nat.lt_succ_self _)
    have h3 : (NR l (T + 1)).length ≤ (NR l T).length + 1 := by
      rw [NR, List.length_append]
      split <;> simp
    omega
end ZP

set_option Elab.async false
set_option linter.all false
set_option maxRecDepth 100000
set_option autoImplicit false
namespace ZP
/-- lines with told roots -/
def lin (ys : List Int) (L : List Int) : List Int := ys.foldl (fun L y => ml y 0 L) L
def und (x : Int) (ys : List Int) (u : Int) : Int := ys.foldl (fun u y => u * (x - y)) u
theorem ml_ne {y : Int} {L : List Int} : ml y 0 L ≠ [] := by
  intro h
  have := ml_len y 0 L
  rw [h] at this
  simp at this
theorem ev_lin (t : Int) : ∀ (ys L : List Int), ev t (lin ys L) = und t ys (ev t L)
  | [], L => rfl
  | y :: ys, L => by
    show ev t (lin ys (ml y 0 L)) = und t ys (ev t L * (t - y))
    rw [ev_lin t ys, ev_ml]
    congr 1
    grind
theorem und_mul (t : Int) : ∀ (ys : List Int) (u v : Int), und t ys (u * v) = u * und t ys v
  | [], u, v => rfl
  | y :: ys, u, v => by
    show und t ys (u * v * (t - y)) = u * und t ys (v * (t - y))
    rw [Int.mul_assoc, und_mul t ys]
theorem und_zero {t : Int} : ∀ {ys : List Int} (u : Int), t ∈ ys → und t ys u = 0
  | y :: ys, u, h => by
    show und t ys (u * (t - y)) = 0
    rcases List.mem_cons.mp h with e | e
    · have h0 : u * (t - y) = 0 * 1 := by rw [e]; grind
      rw [h0, und_mul, Int.zero_mul]
    · exact und_zero _ e
theorem und_ne {t : Int} : ∀ {ys : List Int} {u : Int}, u ≠ 0 → t ∉ ys → und t ys u ≠ 0
  | [], u, h, _ => h
  | y :: ys, u, h, k => by
    show und t ys (u * (t - y)) ≠ 0
    have k' : t ≠ y ∧ t ∉ ys := by simpa [not_or] using k
    refine und_ne ?_ k'.2
    exact Int.mul_ne_zero h (by have := k'.1; omega)
theorem und_le {t : Int} (ht : t.natAbs ≤ 31) : ∀ {ys : List Int} {u : Int}, (∀ y ∈ ys, y.natAbs ≤ 31) → (und t ys u).natAbs ≤ u.natAbs * 62 ^ ys.length
  | [], u, _ => by simp [und]
  | y :: ys, u, h => by
    show (und t ys (u * (t - y))).natAbs ≤ _
    have ih := und_le ht (ys := ys) (u := u * (t - y)) fun z hz => h z (List.mem_cons_of_mem _ hz)
    have hy := h y (List.mem_cons_self ..)
    have h1 : (u * (t - y)).natAbs ≤ u.natAbs * 62 := by
      rw [Int.natAbs_mul]
      exact Nat.mul_le_mul_left _ (by omega)
    have h2 : (u * (t - y)).natAbs * 62 ^ ys.length ≤ u.natAbs * 62 * 62 ^ ys.length := Nat.mul_le_mul_right _ h1
    rw [List.length_cons, Nat.pow_succ]
    have h3 : u.natAbs * 62 * 62 ^ ys.length = u.natAbs * (62 ^ ys.length * 62) := by grind
    omega
theorem lin_len : ∀ (ys L : List Int), (lin ys L).length = L.length + ys.length
  | [], L => rfl
  | y :: ys, L => by
    show (lin ys (ml y 0 L)).length = _
    rw [lin_len ys, ml_len, List.length_cons]
    omega
theorem nm_lin : ∀ (ys L : List Int), (∀ y ∈ ys, y.natAbs ≤ 31) → nm (lin ys L) ≤ nm L * 32 ^ ys.length
  | [], L, _ => by simp [lin]
  | y :: ys, L, h => by
    show nm (lin ys (ml y 0 L)) ≤ _
    have ih := nm_lin ys (ml y 0 L) fun z hz => h z (List.mem_cons_of_mem _ hz)
    have h1 := ml_nm y 31 (h y (List.mem_cons_self ..)) 0 L
    have h2 : nm (ml y 0 L) * 32 ^ ys.length ≤ (32 * nm L) * 32 ^ ys.length := Nat.mul_le_mul_right _ (by simpa using h1)
    rw [List.length_cons, Nat.pow_succ]
    have h3 : 32 * nm L * 32 ^ ys.length = nm L * (32 ^ ys.length * 32) := by grind
    omega
theorem lin_last : ∀ (ys L : List Int), L.getLast? = some 1 → (lin ys L).getLast? = some 1
  | [], L, h => h
  | y :: ys, L, h => lin_last ys (ml y 0 L) (by rw [ml_last, h]; rfl)
/-! sums over points -/
def fz (b : Int → Int) (M : Int → List Int) : List Int → List Int → List Int
  | [], acc => acc
  | x :: xs, acc => fz b M xs (List.zipWith (fun t n => t + b x * n) acc (M x))
theorem fz_len (b : Int → Int) (M : Int → List Int) (n : Nat) : ∀ (xs acc : List Int), (∀ x ∈ xs, (M x).length = n) → acc.length = n → (fz b M xs acc).length = n
  | [], acc, _, h => h
  | x :: xs, acc, hM, h => by
    rw [fz]
    exact fz_len b M n xs _ (fun y hy => hM y (List.mem_cons_of_mem _ hy)) (by rw [List.length_zipWith, h, hM x (List.mem_cons_self ..)]; omega)
theorem ev_zip (t k : Int) : ∀ a m : List Int, a.length = m.length → ev t (List.zipWith (fun t n => t + k * n) a m) = ev t a + k * ev t m
  | [], [], _ => by simp [ev]
  | [], _ :: _, h => by simp at h
  | _ :: _, [], h => by simp at h
  | c :: a, d :: m, h => by
    rw [List.zipWith_cons_cons, ev, ev, ev, ev_zip t k a m (by simpa using h)]
    grind
theorem ev_fz (t : Int) (b : Int → Int) (M : Int → List Int) (n : Nat) : ∀ (xs acc : List Int), (∀ x ∈ xs, (M x).length = n) → acc.length = n → ev t (fz b M xs acc) = ev t acc + (xs.map fun x => b x * ev t (M x)).sum
  | [], acc, _, h => by simp [fz]
  | x :: xs, acc, hM, h => by
    have hx := hM x (List.mem_cons_self ..)
    rw [fz, ev_fz t b M n xs _ (fun y hy => hM y (List.mem_cons_of_mem _ hy)) (by rw [List.length_zipWith, h, hx]; omega), ev_zip t _ _ _ (by rw [h, hx]), List.map_cons, List.sum_cons]
    omega
theorem fz_get (b : Int → Int) (M : Int → List Int) (n j : Nat) (hj : j < n) : ∀ (xs acc : List Int), (∀ x ∈ xs, (M x).length = n) → acc.length = n → (fz b M xs acc).getD j 0 = acc.getD j 0 + (xs.map fun x => b x * (M x).getD j 0).sum
  | [], acc, _, h => by simp [fz]
  | x :: xs, acc, hM, h => by
    have hx := hM x (List.mem_cons_self ..)
    rw [fz, fz_get b M n j hj xs _ (fun y hy => hM y (List.mem_cons_of_mem _ hy)) (by rw [List.length_zipWith, h, hx]; omega), List.map_cons, List.sum_cons]
    have e : (List.zipWith (fun t n => t + b x * n) acc (M x)).getD j 0 = acc.getD j 0 + b x * (M x).getD j 0 := by
      simp [List.getD, List.getElem?_zipWith, show j < acc.length by omega, show j < (M x).length by omega]
    rw [e]
    omega
theorem sum_one (x : Int) (g : Int → Int) : ∀ (xs : List Int), xs.Nodup → x ∈ xs → (∀ y ∈ xs, y ≠ x → g y = 0) → (xs.map g).sum = g x
  | [], _, h, _ => by simp at h
  | y :: xs, nd, h, k => by
    have nd' := List.nodup_cons.mp nd
    rw [List.map_cons, List.sum_cons]
    by_cases e : y = x
    · subst e
      have : (xs.map g).sum = 0 := by
        have hz : xs.map g = xs.map fun _ => (0 : Int) := List.map_congr_left fun z hz => k z (List.mem_cons_of_mem _ hz) fun e => nd'.1 (by rw [← e]; exact hz)
        rw [hz]
        clear hz nd nd' h k
        induction xs with
        | nil => rfl
        | cons a l ih => rw [List.map_cons, List.sum_cons, ih]; rfl
      omega
    · rw [sum_one x g xs nd'.2 ((List.mem_cons.mp h).resolve_left fun z => e z.symm) fun z hz => k z (List.mem_cons_of_mem _ hz), k y (List.mem_cons_self ..) e]
      omega
theorem sum_abs_le (g h : Int → Int) : ∀ (xs : List Int), (∀ x ∈ xs, ((g x).natAbs : Int) ≤ h x) → (((xs.map g).sum).natAbs : Int) ≤ (xs.map h).sum
  | [], _ => by simp
  | x :: xs, k => by
    have h1 := k x (List.mem_cons_self ..)
    have h2 := sum_abs_le g h xs fun y hy => k y (List.mem_cons_of_mem _ hy)
    rw [List.map_cons, List.sum_cons, List.map_cons, List.sum_cons]
    omega
/-! Lagrange -/
section
variable (xs : List Int)
abbrev oth (x : Int) : List Int := xs.filter fun y => decide (y ≠ x)
abbrev LX (x : Int) : List Int := lin (oth xs x) [1]
abbrev UX (x : Int) : Int := und x (oth xs x) 1
variable {xs}
theorem oth_len {xs : List Int} (nd : xs.Nodup) {x : Int} (h : x ∈ xs) : (oth xs x).length + 1 = xs.length := by
  induction xs with
  | nil => simp at h
  | cons y ys ih =>
    have nd' := List.nodup_cons.mp nd
    unfold oth
    rw [List.filter_cons]
    by_cases e : y = x
    · subst e
      have : ys.filter (fun z => decide (z ≠ y)) = ys := List.filter_eq_self.mpr fun z hz => decide_eq_true fun e => nd'.1 (by rw [← e]; exact hz)
      rw [if_neg (by simp), this, List.length_cons]
    · have hx : x ∈ ys := (List.mem_cons.mp h).resolve_left fun z => e z.symm
      have := ih nd'.2 hx
      unfold oth at this
      simp [e]
      simpa using this
theorem LX_len (nd : xs.Nodup) {x : Int} (h : x ∈ xs) : (LX xs x).length = xs.length := by
  rw [LX, lin_len]
  have := oth_len nd h
  simp at this ⊢
  omega
theorem UX_ne {x : Int} : UX xs x ≠ 0 := und_ne (by decide) fun h => by simp [oth] at h
theorem ev_LX_same {x : Int} : ev x (LX xs x) = UX xs x := by
  rw [LX, ev_lin]
  simp [ev, UX]
theorem ev_LX_other {x y : Int} (h : y ∈ xs) (ne : x ≠ y) : ev y (LX xs x) = 0 := by
  rw [LX, ev_lin]
  exact und_zero _ (List.mem_filter.mpr ⟨h, decide_eq_true fun e => ne e.symm⟩)
/-- the numbers of a line are told by as many values -/
theorem lagrange (nd : xs.Nodup) {g : List Int} (hg : g.length = xs.length) {c : Int} {e : Int → Int} (he : ∀ x ∈ xs, UX xs x * e x = c) :
    g.map (fun z => c * z) = fz (fun x => ev x g * e x) (LX xs) xs (List.replicate xs.length 0) := by
  have hM : ∀ x ∈ xs, (LX xs x).length = xs.length := fun x hx => LX_len nd hx
  refine ev_inj_on (rs := xs) (by rw [fz_len _ _ xs.length _ _ hM (by simp), List.length_map, hg]) (by rw [List.length_map]; omega) nd fun t ht => ?_
  rw [ev_fz t _ _ xs.length _ _ hM (by simp), ev_zero t (List.replicate xs.length 0) (fun c hc => (List.mem_replicate.mp hc).2), sum_one t _ xs nd ht (fun y hy ne => by rw [ev_LX_other ht ne]; omega), ev_LX_same]
  have e1 : ∀ l : List Int, ev t (l.map fun z => c * z) = c * ev t l := fun l => by
    induction l with
    | nil => simp [ev]
    | cons a r ih => rw [List.map_cons, ev, ev, ih]; grind
  rw [e1, ← he t ht]
  grind
end
end ZP

set_option Elab.async false
set_option linter.all false
set_option maxRecDepth 100000
set_option autoImplicit false
namespace ZP
/-- the product, and its last number -/
def addP : List Int → List Int → List Int
  | [], y => y
  | a :: x, [] => a :: x
  | a :: x, b :: y => (a + b) :: addP x y
theorem addP_len : ∀ x y : List Int, (addP x y).length = max x.length y.length
  | [], y => by simp [addP]
  | a :: x, [] => by simp [addP]
  | a :: x, b :: y => by rw [addP, List.length_cons, addP_len x y, List.length_cons, List.length_cons]; omega
theorem ev_addP (t : Int) : ∀ x y : List Int, ev t (addP x y) = ev t x + ev t y
  | [], y => by simp [addP, ev]
  | a :: x, [] => by simp [addP, ev]
  | a :: x, b :: y => by rw [addP, ev, ev, ev, ev_addP t x y]; grind
theorem addP_last : ∀ x y : List Int, x.length < y.length → (addP x y).getLast? = y.getLast?
  | [], y, _ => rfl
  | a :: x, [], h => by simp at h
  | a :: x, b :: y, h => by
    have h' : x.length < y.length := by simpa using h
    have ih := addP_last x y h'
    have n1 : y ≠ [] := fun e => by rw [e] at h'; simp at h'
    have n2 : addP x y ≠ [] := fun e => by
      have := addP_len x y
      rw [e] at this
      simp at this
      omega
    rw [addP, List.getLast?_cons, List.getLast?_cons, ih]
    cases e : y.getLast? with
    | none => exact absurd (List.getLast?_eq_none_iff.mp e) n1
    | some z => rfl
def cv : List Int → List Int → List Int
  | [], _ => []
  | c :: a, b => addP (b.map fun z => c * z) (0 :: cv a b)
theorem ev_smul (t c : Int) : ∀ l : List Int, ev t (l.map fun z => c * z) = c * ev t l
  | [] => by simp [ev]
  | a :: r => by rw [List.map_cons, ev, ev, ev_smul t c r]; grind
theorem ev_cv (t : Int) : ∀ a b : List Int, ev t (cv a b) = ev t a * ev t b
  | [], b => by simp [cv, ev]
  | c :: a, b => by rw [cv, ev_addP, ev_smul, ev, ev_cv t a b, ev]; grind
theorem cv_len : ∀ a b : List Int, a ≠ [] → b ≠ [] → (cv a b).length + 1 = a.length + b.length
  | [], b, h, _ => absurd rfl h
  | [c], b, _, hb => by
    have : 0 < b.length := List.length_pos_iff.mpr hb
    rw [cv, addP_len]
    simp [cv]
    omega
  | c :: d :: a, b, _, hb => by
    have ih := cv_len (d :: a) b (by simp) hb
    rw [cv, addP_len, List.length_map, List.length_cons, List.length_cons]
    rw [List.length_cons] at ih
    have : 0 < b.length := List.length_pos_iff.mpr hb
    simp only [List.length_cons]
    omega
theorem cv_last : ∀ (a b : List Int) (p q : Int), a.getLast? = some p → b.getLast? = some q → (cv a b).getLast? = some (p * q)
  | [], b, p, q, h, _ => by simp at h
  | [c], b, p, q, h, h' => by
    have e : c = p := by simpa using h
    subst e
    have hb : b ≠ [] := fun e => by rw [e] at h'; cases h'
    rw [cv, cv]
    have : addP (b.map fun z => c * z) [0] = b.map fun z => c * z := by
      cases b with
      | nil => exact absurd rfl hb
      | cons z r => simp [addP]; cases r.map (fun z => c * z) <;> rfl
    rw [this, List.getLast?_map, h']
    rfl
  | c :: d :: a, b, p, q, h, h' => by
    have hb : b ≠ [] := fun e => by rw [e] at h'; cases h'
    have ih := cv_last (d :: a) b p q (by rw [List.getLast?_cons_cons] at h; exact h) h'
    have hl := cv_len (d :: a) b (by simp) hb
    rw [List.length_cons] at hl
    rw [cv, addP_last _ _ (by rw [List.length_map, List.length_cons]; omega), List.getLast?_cons, ih]
    rfl
end ZP

set_option Elab.async false
set_option linter.all false
set_option maxRecDepth 100000
set_option maxHeartbeats 1000000
set_option autoImplicit false
/-! contents, and the product of two primitive lines -/
namespace ZP
/-- the greatest common divisor of a number and all numbers of a line -/
def cg : Nat → List Int → Nat
  | c, [] => c
  | c, x :: r => cg (Nat.gcd c x.natAbs) r
theorem cg_one : ∀ l : List Int, cg 1 l = 1
  | [] => rfl
  | x :: r => by rw [cg, Nat.gcd_one_left, cg_one r]
theorem cg_dvd_c : ∀ (l : List Int) (c : Nat), cg c l ∣ c
  | [], c => Nat.dvd_refl c
  | x :: r, c => Nat.dvd_trans (cg_dvd_c r _) (Nat.gcd_dvd_left ..)
theorem cg_dvd : ∀ (l : List Int) (c : Nat) (x : Int), x ∈ l → cg c l ∣ x.natAbs
  | y :: r, c, x, h => by
    rcases List.mem_cons.mp h with e | e
    · rw [e]; exact Nat.dvd_trans (cg_dvd_c r _) (Nat.gcd_dvd_right ..)
    · exact cg_dvd r _ x e
theorem dvd_cg {d : Nat} : ∀ (l : List Int) (c : Nat), d ∣ c → (∀ x ∈ l, d ∣ x.natAbs) → d ∣ cg c l
  | [], c, h, _ => h
  | y :: r, c, h, hl => dvd_cg r _ (Nat.dvd_gcd h (hl y (List.mem_cons_self ..))) fun x hx => hl x (List.mem_cons_of_mem _ hx)
theorem cg_mul (k : Nat) : ∀ (l : List Int) (c : Nat), cg (k * c) (l.map fun z => (k : Int) * z) = k * cg c l
  | [], c => rfl
  | x :: r, c => by
    rw [List.map_cons, cg, cg, Int.natAbs_mul, Int.natAbs_natCast, Nat.gcd_mul_left, cg_mul k r]
theorem cg_le : ∀ (l : List Int) (c : Nat), 0 < c → cg c l ≤ c := fun l c h => Nat.le_of_dvd h (cg_dvd_c l c)
theorem cg_pos {l : List Int} (h : ∃ x ∈ l, x ≠ 0) : 0 < cg 0 l := by
  obtain ⟨x, hx, h0⟩ := h
  have := cg_dvd l 0 x hx
  rcases Nat.eq_zero_or_pos (cg 0 l) with e | e
  · rw [e] at this
    have := Nat.eq_zero_of_zero_dvd this
    omega
  · exact e
theorem cg_le_of {l : List Int} {x : Int} (hx : x ∈ l) (h0 : x ≠ 0) : cg 0 l ≤ x.natAbs := Nat.le_of_dvd (by omega) (cg_dvd l 0 x hx)
/-- numbers of a line by place -/
def co (l : List Int) (i : Nat) : Int := l.getD i 0
theorem co_nil (i : Nat) : co [] i = 0 := rfl
theorem co_z (x : Int) (l : List Int) : co (x :: l) 0 = x := rfl
theorem co_s (x : Int) (l : List Int) (i : Nat) : co (x :: l) (i + 1) = co l i := by simp [co]
theorem co_addP : ∀ (x y : List Int) (i : Nat), co (addP x y) i = co x i + co y i
  | [], y, i => by simp [addP, co_nil]
  | a :: x, [], i => by simp [addP, co_nil]
  | a :: x, b :: y, 0 => by simp [addP, co_z]
  | a :: x, b :: y, i + 1 => by rw [addP, co_s, co_s, co_s, co_addP x y i]
theorem co_map (c : Int) : ∀ (l : List Int) (i : Nat), co (l.map fun z => c * z) i = c * co l i
  | [], i => by simp [co_nil]
  | a :: l, 0 => by simp [co_z]
  | a :: l, i + 1 => by rw [List.map_cons, co_s, co_s, co_map c l i]
theorem co_cv0 (x : Int) (a b : List Int) : co (cv (x :: a) b) 0 = x * co b 0 := by
  rw [cv, co_addP, co_map, co_z]; omega
theorem co_cvs (x : Int) (a b : List Int) (i : Nat) : co (cv (x :: a) b) (i + 1) = x * co b (i + 1) + co (cv a b) i := by
  rw [cv, co_addP, co_map, co_s]
theorem co_cv_r0 (y : Int) (b : List Int) : ∀ a : List Int, co (cv a (y :: b)) 0 = co a 0 * y
  | [] => by simp [cv, co_nil]
  | x :: a => by rw [co_cv0, co_z, co_z]
theorem co_cv_rs (y : Int) (b : List Int) : ∀ (a : List Int) (i : Nat), co (cv a (y :: b)) (i + 1) = y * co a (i + 1) + co (cv a b) i
  | [], i => by simp [cv, co_nil]
  | x :: a, 0 => by
    rw [co_cvs, co_s, co_s, co_cv_r0, co_cv0]
    grind
  | x :: a, i + 1 => by
    rw [co_cvs, co_s, co_cv_rs y b a i, co_s, co_cvs]
    grind
theorem co_mem {l : List Int} {x : Int} (h : x ∈ l) : ∃ i, co l i = x := by
  obtain ⟨i, hi, e⟩ := List.getElem_of_mem h
  exact ⟨i, by simp [co, List.getD, hi, e]⟩
theorem co_in (l : List Int) (i : Nat) : co l i = 0 ∨ co l i ∈ l := by
  by_cases h : i < l.length
  · right
    have : co l i = l[i] := by simp [co, List.getD, h]
    rw [this]; exact List.getElem_mem h
  · left
    simp [co, List.getD, List.getElem?_eq_none (Nat.le_of_not_lt h)]
/-- a number divides all of a line -/
def Dv (p : Int) (l : List Int) : Prop := ∀ i, p ∣ co l i
theorem Dv.of_all {p : Int} {l : List Int} (h : ∀ x ∈ l, p ∣ x) : Dv p l := fun i => by
  rcases co_in l i with e | e
  · rw [e]; exact Int.dvd_zero p
  · exact h _ e
theorem Dv.all {p : Int} {l : List Int} (h : Dv p l) : ∀ x ∈ l, p ∣ x := fun x hx => by
  obtain ⟨i, e⟩ := co_mem hx
  rw [← e]; exact h i
theorem dv_right {p x : Int} (hp : ∀ y : Int, p ∣ x * y → p ∣ y) (a : List Int) : ∀ b : List Int, Dv p (cv (x :: a) b) → Dv p b
  | [], _ => fun i => by rw [co_nil]; exact Int.dvd_zero p
  | y :: b, h => by
    have h0 : p ∣ y := hp y (by have := h 0; rw [co_cv0, co_z] at this; exact this)
    have h1 : Dv p (cv (x :: a) b) := fun i => by
      have := h (i + 1)
      rw [co_cv_rs] at this
      exact (Int.dvd_iff_dvd_of_dvd_add this).mp (Int.dvd_mul_of_dvd_left h0) 
    have ih := dv_right hp a b h1
    intro i
    cases i with
    | zero => rw [co_z]; exact h0
    | succ i => rw [co_s]; exact ih i
theorem dv_left {p : Int} {b : List Int} (hp : ∀ x y : Int, p ∣ x * y → p ∣ x ∨ p ∣ y) (hb : ¬ Dv p b) : ∀ a : List Int, Dv p (cv a b) → Dv p a
  | [], _ => fun i => by rw [co_nil]; exact Int.dvd_zero p
  | x :: a, h => by
    by_cases hx : p ∣ x
    · have h1 : Dv p (cv a b) := fun i => by
        have := h (i + 1)
        rw [co_cvs] at this
        exact (Int.dvd_iff_dvd_of_dvd_add this).mp (Int.dvd_mul_of_dvd_left hx)
      have ih := dv_left hp hb a h1
      intro i
      cases i with
      | zero => rw [co_z]; exact hx
      | succ i => rw [co_s]; exact ih i
    · exact absurd (dv_right (fun y hy => (hp x y hy).resolve_left hx) a b h) hb
/-- a divisor above 1 that none between divides is prime -/
theorem least_div : ∀ (n d : Nat), d ≤ n → 1 < d → ∃ p, 1 < p ∧ p ∣ d ∧ ∀ q, 1 < q → q ∣ p → q = p
  | 0, d, h, h1 => by omega
  | n + 1, d, h, h1 => by
    by_cases hq : ∃ q, 1 < q ∧ q < d ∧ q ∣ d
    · obtain ⟨q, q1, q2, q3⟩ := hq
      obtain ⟨p, p1, p2, p3⟩ := least_div n q (by omega) q1
      exact ⟨p, p1, Nat.dvd_trans p2 q3, p3⟩
    · refine ⟨d, h1, Nat.dvd_refl d, fun q q1 q2 => ?_⟩
      have := Nat.le_of_dvd (by omega) q2
      rcases Nat.lt_or_eq_of_le this with e | e
      · exact absurd ⟨q, q1, e, q2⟩ hq
      · exact e
theorem prime_mul {p : Nat} (h1 : 1 < p) (h : ∀ q, 1 < q → q ∣ p → q = p) (x y : Int) (hd : (p : Int) ∣ x * y) : (p : Int) ∣ x ∨ (p : Int) ∣ y := by
  rw [Int.ofNat_dvd_left] at hd ⊢
  rw [Int.ofNat_dvd_left]
  rw [Int.natAbs_mul] at hd
  have g0 : 0 < Nat.gcd p x.natAbs := Nat.gcd_pos_of_pos_left _ (by omega)
  by_cases g : Nat.gcd p x.natAbs = 1
  · exact .inr (Nat.Coprime.dvd_of_dvd_mul_left g hd)
  · have := h _ (by omega) (Nat.gcd_dvd_left p x.natAbs)
    exact .inl (this ▸ Nat.gcd_dvd_right p x.natAbs)
/-- Gauss -/
theorem gauss {a b : List Int} (ha : cg 0 a = 1) (hb : cg 0 b = 1) (hn : ∃ x ∈ cv a b, x ≠ 0) : cg 0 (cv a b) = 1 := by
  have hpos := cg_pos hn
  by_cases h : cg 0 (cv a b) = 1
  · exact h
  obtain ⟨p, p1, p2, p3⟩ := least_div _ (cg 0 (cv a b)) (Nat.le_refl _) (by omega)
  have hD : Dv p (cv a b) := Dv.of_all fun x hx => Int.ofNat_dvd_left.mpr (Nat.dvd_trans p2 (cg_dvd _ 0 x hx))
  have no : ∀ l : List Int, cg 0 l = 1 → ¬ Dv p l := fun l e D => by
    have : p ∣ cg 0 l := dvd_cg l 0 (Nat.dvd_zero p) fun x hx => Int.ofNat_dvd_left.mp (D.all x hx)
    rw [e] at this
    have := Nat.dvd_one.mp this
    omega
  exact absurd (dv_left (prime_mul p1 p3) (no b hb) a hD) (no a ha)
end ZP

set_option Elab.async false
set_option linter.all false
set_option maxRecDepth 100000
set_option maxHeartbeats 1000000
set_option autoImplicit false
/-! division that goes out even, and lines by their values -/
namespace ZP
theorem co_app_zero (a : List Int) (n i : Nat) : co (a ++ List.replicate n 0) i = co a i := by
  unfold co
  simp only [List.getD_eq_getElem?_getD]
  by_cases h : i < a.length
  · rw [List.getElem?_append_left h]
  · rw [List.getElem?_append_right (by omega), List.getElem?_eq_none (l := a) (by omega), List.getElem?_replicate]
    split <;> rfl
theorem ev_app_zero (t : Int) (a : List Int) (n : Nat) : ev t (a ++ List.replicate n 0) = ev t a := by
  rw [ev_app, ev_zero t _ fun c hc => (List.mem_replicate.mp hc).2]; omega
theorem co_of_ev {a b : List Int} (h : ∀ t, ev t a = ev t b) (i : Nat) : co a i = co b i := by
  have e : a ++ List.replicate (b.length - a.length) 0 = b ++ List.replicate (a.length - b.length) 0 := ev_inj (by simp; omega) fun t => by rw [ev_app_zero, ev_app_zero, h]
  rw [← co_app_zero a (b.length - a.length) i, e, co_app_zero]
def Tr (l : List Int) : Prop := ∀ c, l.getLast? = some c → c ≠ 0
theorem co_last {l : List Int} {c : Int} (h : l.getLast? = some c) : co l (l.length - 1) = c := by
  rw [List.getLast?_eq_getElem?] at h
  unfold co
  rw [List.getD_eq_getElem?_getD, h]; rfl
theorem co_ge {l : List Int} {i : Nat} (h : l.length ≤ i) : co l i = 0 := by
  unfold co
  rw [List.getD_eq_getElem?_getD, List.getElem?_eq_none h]; rfl
theorem tr_len {a b : List Int} (ta : Tr a) (h : ∀ t, ev t a = ev t b) : a.length ≤ b.length := by
  rcases Nat.lt_or_ge b.length a.length with hl | hl
  · cases e : a.getLast? with
    | none => rw [List.getLast?_eq_none_iff.mp e] at hl; simp at hl
    | some c =>
      have h1 := co_last e
      rw [co_of_ev h, co_ge (by omega)] at h1
      exact absurd h1.symm (ta c e)
  · exact hl
theorem tr_inj {a b : List Int} (ta : Tr a) (tb : Tr b) (h : ∀ t, ev t a = ev t b) : a = b := by
  have h1 := tr_len ta h
  have h2 := tr_len tb fun t => (h t).symm
  exact ev_inj (by omega) h
theorem tr_nil {a : List Int} (ta : Tr a) (h : ∀ t, ev t a = 0) : a = [] := tr_inj ta (b := []) (fun c hc => by simp at hc) h
/-- q times a line taken off, from a place on -/
def sq (q : Int) : Nat → List Int → List Int → List Int
  | _, [], R => R
  | j, b :: bs, R => sq q (j + 1) bs (R.set j (co R j - q * b))
theorem sq_len (q : Int) : ∀ (bs : List Int) (j : Nat) (R : List Int), (sq q j bs R).length = R.length
  | [], _, _ => rfl
  | b :: bs, j, R => by rw [sq, sq_len q bs, List.length_set]
theorem ev_sq (t q : Int) : ∀ (bs : List Int) (j : Nat) (R : List Int), j + bs.length ≤ R.length → ev t (sq q j bs R) = ev t R - q * t ^ j * ev t bs
  | [], j, R, _ => by simp [sq, ev]
  | b :: bs, j, R, h => by
    rw [List.length_cons] at h
    have hj : j < R.length := by omega
    rw [sq, ev_sq t q bs (j + 1) _ (by rw [List.length_set]; omega), ev_set _ _ _ _ hj, ev, Int.pow_succ]
    have : co R j = R[j] := by simp [co, List.getD, hj]
    rw [this]
    grind
def qd (ini : List Int) (lead : Int) : Nat → List Int → Option (List Int)
  | 0, R => if R.any (· != 0) then none else some []
  | k + 1, R => if (R.getLast?.getD 0).fmod lead = 0 then (qd ini lead k (sq ((R.getLast?.getD 0).fdiv lead) k ini R.dropLast)).map (· ++ [(R.getLast?.getD 0).fdiv lead]) else none
theorem any_zero {R : List Int} : R.any (· != 0) = false ↔ ∀ c ∈ R, c = 0 := by simp
theorem qd_len {ini : List Int} {lead : Int} : ∀ {k : Nat} {R Q : List Int}, qd ini lead k R = some Q → Q.length = k
  | 0, R, Q, h => by
    unfold qd at h
    split at h
    · cases h
    · cases h; rfl
  | k + 1, R, Q, h => by
    unfold qd at h
    split at h
    · obtain ⟨Q', e, rfl⟩ := Option.map_eq_some_iff.mp h
      rw [List.length_append, qd_len e]; rfl
    · cases h
theorem qd_last {ini : List Int} {lead : Int} {k : Nat} {R Q : List Int} (h : qd ini lead (k + 1) R = some Q) : Q.getLast? = some ((R.getLast?.getD 0).fdiv lead) ∧ (R.getLast?.getD 0).fmod lead = 0 := by
  unfold qd at h
  split at h
  · rename_i h0
    obtain ⟨Q', e, rfl⟩ := Option.map_eq_some_iff.mp h
    exact ⟨by simp, h0⟩
  · cases h
theorem qd_tr {ini : List Int} {lead : Int} {k : Nat} {R Q : List Int} (hk : k ≠ 0) (hR : Tr R) (hn : R ≠ []) (h : qd ini lead k R = some Q) : Tr Q := by
  obtain ⟨k, rfl⟩ := Nat.exists_eq_succ_of_ne_zero hk
  obtain ⟨h1, h2⟩ := qd_last h
  intro c hc
  rw [h1] at hc
  cases hc
  cases e : R.getLast? with
  | none => exact absurd (List.getLast?_eq_none_iff.mp e) hn
  | some r =>
    rw [e] at h2
    intro h3
    have := Int.fmod_add_mul_fdiv r lead
    have h2 : r.fmod lead = 0 := h2
    have h3 : r.fdiv lead = 0 := h3
    rw [h2, h3] at this
    exact hR r e (by rw [← this]; simp)
theorem qd_of {ini : List Int} {lead : Int} (h0 : lead ≠ 0) : ∀ (k : Nat) (R Q : List Int), Q.length = k → R.length = k + ini.length → (∀ t, ev t R = ev t Q * ev t (ini ++ [lead])) → qd ini lead k R = some Q
  | 0, R, Q, hQ, hR, h => by
    have e := List.length_eq_zero_iff.mp hQ
    subst e
    have hz : ∀ t, ev t R = ev t (List.replicate R.length 0) := fun t => by rw [h, ev_zero t (List.replicate _ _) fun c hc => (List.mem_replicate.mp hc).2]; simp [ev]
    have e := ev_inj (by simp) hz
    have : R.any (· != 0) = false := any_zero.mpr fun c hc => by rw [e] at hc; exact (List.mem_replicate.mp hc).2
    unfold qd
    rw [this]; rfl
  | k + 1, R, Q, hQ, hR, h => by
    rcases List.eq_nil_or_concat Q with rfl | ⟨Q', q, rfl⟩
    · simp at hQ
    rcases List.eq_nil_or_concat R with rfl | ⟨R', r, rfl⟩
    · rw [List.length_nil] at hR; omega
    simp only [List.concat_eq_append] at hQ hR h ⊢
    rw [List.length_append, List.length_singleton] at hQ hR
    have hQ' : Q'.length = k := by omega
    have hR' : R'.length = k + ini.length := by omega
    have e : R' ++ [r] = cv (Q' ++ [q]) (ini ++ [lead]) := ev_inj (by have := cv_len (Q' ++ [q]) (ini ++ [lead]) (by simp) (by simp); simp at this ⊢; omega) fun t => by rw [h, ev_cv]
    have er : r = q * lead := by
      have := cv_last (Q' ++ [q]) (ini ++ [lead]) q lead (by simp) (by simp)
      rw [← e] at this
      simpa using this
    have g1 : ((R' ++ [r]).getLast?.getD 0) = r := by simp
    have g2 : r.fmod lead = 0 := by rw [er]; exact Int.mul_fmod_left ..
    have g3 : r.fdiv lead = q := by rw [er]; exact Int.mul_fdiv_cancel _ h0
    have g4 : (R' ++ [r]).dropLast = R' := by simp
    unfold qd
    rw [g1, if_pos g2, g3, g4]
    rw [qd_of h0 k _ Q' hQ' (by rw [sq_len]; exact hR') fun t => ?_]
    · rfl
    · have ht := h t
      simp only [ev_app, hR', hQ', ev, Int.pow_add] at ht
      rw [ev_sq _ _ _ _ _ (by omega), ev_app, ev]
      simp only [ev, er] at ht ⊢
      grind
end ZP

set_option Elab.async false
set_option linter.all false
set_option maxRecDepth 100000
set_option maxHeartbeats 1000000
set_option autoImplicit false
/-! fractions cleared -/
namespace ZP
theorem addP_zip : ∀ x y : List Int, y.length ≤ x.length → List.zipWith (· + ·) x y ++ x.drop y.length = addP x y
  | [], [], _ => rfl
  | [], _ :: _, h => by simp at h
  | a :: x, [], _ => by simp [addP]
  | a :: x, b :: y, h => by
    simp only [List.zipWith_cons_cons, List.length_cons, List.drop_succ_cons, List.cons_append, addP]
    rw [addP_zip x y (by simpa using h)]
theorem ev_addz (t : Int) : ∀ x y : List Int, x.length = y.length → ev t (List.zipWith (· + ·) x y) = ev t x + ev t y
  | [], [], _ => by simp [ev]
  | [], _ :: _, h => by simp at h
  | _ :: _, [], h => by simp at h
  | a :: x, b :: y, h => by
    rw [List.zipWith_cons_cons, ev, ev, ev, ev_addz t x y (by simpa using h)]; grind
theorem fdiv_ex {g c' : Int} (hg : g ≠ 0) : (g * c').fdiv g = c' := Int.mul_fdiv_cancel_left _ hg
theorem fdiv_nat (a b : Nat) : (a : Int).fdiv (b : Int) = ((a / b : Nat) : Int) := by
  rw [Int.fdiv_eq_ediv_of_nonneg _ (by omega)]; rfl
/-- the least common multiple of unders, their product -/
def lcN : Nat → List (Int × Nat) → Nat
  | c, [] => c
  | c, p :: r => lcN (Nat.lcm p.2 c) r
def prN : Nat → List (Int × Nat) → Nat
  | c, [] => c
  | c, p :: r => prN (c * p.2) r
theorem lc_dvd_c : ∀ (ps : List (Int × Nat)) (c : Nat), c ∣ lcN c ps
  | [], c => Nat.dvd_refl c
  | p :: r, c => Nat.dvd_trans (Nat.dvd_lcm_right ..) (lc_dvd_c r _)
theorem lc_dvd : ∀ (ps : List (Int × Nat)) (c : Nat) (p : Int × Nat), p ∈ ps → p.2 ∣ lcN c ps
  | q :: r, c, p, h => by
    rcases List.mem_cons.mp h with e | e
    · rw [e]; exact Nat.dvd_trans (Nat.dvd_lcm_left ..) (lc_dvd_c r _)
    · exact lc_dvd r _ p e
theorem lc_pr : ∀ (ps : List (Int × Nat)) (c c' : Nat), c ∣ c' → lcN c ps ∣ prN c' ps
  | [], c, c', h => h
  | p :: r, c, c', h => lc_pr r _ _ (Nat.lcm_dvd (Nat.dvd_mul_left ..) (Nat.dvd_trans h (Nat.dvd_mul_right ..)))
theorem pr_pos : ∀ (ps : List (Int × Nat)) (c : Nat), 0 < c → (∀ p ∈ ps, 0 < p.2) → 0 < prN c ps
  | [], c, h, _ => h
  | p :: r, c, h, hp => pr_pos r _ (Nat.mul_pos h (hp p (List.mem_cons_self ..))) fun q hq => hp q (List.mem_cons_of_mem _ hq)
theorem pr_le (B : Nat) (hB : 1 ≤ B) : ∀ (ps : List (Int × Nat)) (c : Nat), (∀ p ∈ ps, p.2 ≤ B) → prN c ps ≤ c * B ^ ps.length
  | [], c, _ => by simp [prN]
  | p :: r, c, h => by
    have := pr_le B hB r (c * p.2) fun q hq => h q (List.mem_cons_of_mem _ hq)
    have h1 : c * p.2 * B ^ r.length ≤ c * B * B ^ r.length := Nat.mul_le_mul_right _ (Nat.mul_le_mul_left _ (h p (List.mem_cons_self ..)))
    rw [prN, List.length_cons, Nat.pow_succ]
    have h2 : c * B * B ^ r.length = c * (B ^ r.length * B) := by grind
    omega
/-- the numbers over a common under -/
def ovr (u : Nat) (ps : List (Int × Nat)) : List Int := ps.map fun p => p.1 * ((u / p.2 : Nat) : Int)
theorem ovr_mul {u k : Nat} {ps : List (Int × Nat)} (h : ∀ p ∈ ps, p.2 ∣ u) : ovr (u * k) ps = (ovr u ps).map fun z => (k : Int) * z := by
  unfold ovr
  rw [List.map_map]
  refine List.map_congr_left fun p hp => ?_
  obtain ⟨m, rfl⟩ := h p hp
  show p.1 * _ = (k : Int) * (p.1 * _)
  rcases Nat.eq_zero_or_pos p.2 with e | e
  · simp [e]
  · rw [Nat.mul_assoc, Nat.mul_div_cancel_left _ e, Nat.mul_div_cancel_left _ e, Int.natCast_mul]
    grind
/-- the content with the sign of the last number -/
def cs (l : List Int) : Int := if l.getLast?.getD 0 < 0 then -((cg 0 l : Nat) : Int) else (cg 0 l : Nat)
theorem cs_abs (l : List Int) : (cs l).natAbs = cg 0 l := by unfold cs; split <;> omega
theorem cs_mul {k : Nat} (hk : 0 < k) (l : List Int) : cs (l.map fun z => (k : Int) * z) = (k : Int) * cs l := by
  have e : cg 0 (l.map fun z => (k : Int) * z) = k * cg 0 l := by have := cg_mul k l 0; rw [Nat.mul_zero] at this; exact this
  have hs : ((l.map fun z => (k : Int) * z).getLast?.getD 0 < 0) ↔ (l.getLast?.getD 0 < 0) := by
    rw [List.getLast?_map]
    cases l.getLast? with
    | none => simp
    | some c =>
      simp only [Option.map_some, Option.getD_some]
      have hk' : (0 : Int) < k := by omega
      constructor
      · intro h
        rcases Int.lt_or_le c 0 with h1 | h1
        · exact h1
        · have := Int.mul_nonneg (Int.le_of_lt hk') h1; omega
      · intro h; exact Int.mul_neg_of_pos_of_neg hk' h
  unfold cs
  by_cases h : l.getLast?.getD 0 < 0
  · rw [if_pos h, if_pos (hs.mpr h), e, Int.natCast_mul]; grind
  · rw [if_neg h, if_neg (fun z => h (hs.mp z)), e, Int.natCast_mul]
theorem cs_ne {l : List Int} (h : ∃ x ∈ l, x ≠ 0) : cs l ≠ 0 := by
  have := cg_pos h
  have := cs_abs l
  omega
theorem cs_dvd {l : List Int} {x : Int} (h : x ∈ l) : cs l ∣ x := by
  have := cg_dvd l 0 x h
  rw [← cs_abs] at this
  exact Int.natAbs_dvd_natAbs.mp this
/-- the primitive line -/
def pm (l : List Int) : List Int := l.map fun x => x.fdiv (cs l)
theorem pm_mul {k : Nat} (hk : 0 < k) {l : List Int} (h : ∃ x ∈ l, x ≠ 0) : pm (l.map fun z => (k : Int) * z) = pm l := by
  unfold pm
  rw [cs_mul hk, List.map_map]
  refine List.map_congr_left fun x hx => ?_
  obtain ⟨m, hm⟩ := cs_dvd hx
  show ((k : Int) * x).fdiv _ = _
  have h1 := cs_ne h
  have hk' : (k : Int) ≠ 0 := by omega
  rw [hm, fdiv_ex h1, ← Int.mul_assoc, fdiv_ex (Int.mul_ne_zero hk' h1)]
theorem pm_eq {l : List Int} (h : ∃ x ∈ l, x ≠ 0) : l = (pm l).map fun z => cs l * z := by
  unfold pm
  rw [List.map_map]
  conv => lhs; rw [← List.map_id l]
  refine List.map_congr_left fun x hx => ?_
  obtain ⟨m, hm⟩ := cs_dvd hx
  show x = cs l * x.fdiv (cs l)
  rw [hm, fdiv_ex (cs_ne h)]
theorem cg_smul (c : Int) (l : List Int) : cg 0 (l.map fun z => c * z) = c.natAbs * cg 0 l := by
  have e : ∀ (l : List Int) (d : Nat), cg (c.natAbs * d) (l.map fun z => c * z) = c.natAbs * cg d l := by
    intro l
    induction l with
    | nil => intro d; rfl
    | cons x r ih => intro d; rw [List.map_cons, cg, cg, Int.natAbs_mul, Nat.gcd_mul_left, ih]
  have := e l 0
  rw [Nat.mul_zero] at this
  exact this
theorem pm_cg {l : List Int} (h : ∃ x ∈ l, x ≠ 0) : cg 0 (pm l) = 1 := by
  have e := cg_smul (cs l) (pm l)
  rw [← pm_eq h, cs_abs] at e
  have := cg_pos h
  exact Nat.eq_of_mul_eq_mul_left this (by omega)
theorem pm_len (l : List Int) : (pm l).length = l.length := by unfold pm; rw [List.length_map]
theorem pm_last {l : List Int} (ht : Tr l) (hn : l ≠ []) : ∃ c, (pm l).getLast? = some c ∧ 0 < c := by
  cases e : l.getLast? with
  | none => exact absurd (List.getLast?_eq_none_iff.mp e) hn
  | some r =>
    have r0 := ht r e
    have hr : r ∈ l := List.mem_of_getLast? e
    have hx : ∃ x ∈ l, x ≠ 0 := ⟨r, hr, r0⟩
    obtain ⟨m, hm⟩ := cs_dvd hr
    have c0 := cs_ne hx
    refine ⟨m, by unfold pm; rw [List.getLast?_map, e, Option.map_some]; rw [hm, fdiv_ex c0], ?_⟩
    have hs : cs l * r > 0 := by
      have := cg_pos hx
      unfold cs
      rw [e]
      simp only [Option.getD_some]
      split
      · rw [Int.neg_mul]
        have : ((cg 0 l : Nat) : Int) * r < 0 := Int.mul_neg_of_pos_of_neg (by omega) (by omega)
        omega
      · exact Int.mul_pos (by omega) (by omega)
    rcases Int.lt_trichotomy m 0 with h1 | h1 | h1
    · rw [hm] at hs
      have : cs l * (cs l * m) = (cs l * cs l) * m := by grind
      rw [this] at hs
      have : 0 < cs l * cs l := by
        rcases Int.lt_or_gt_of_ne c0 with h2 | h2
        · exact Int.mul_pos_of_neg_of_neg h2 h2
        · exact Int.mul_pos h2 h2
      have := Int.mul_neg_of_pos_of_neg this h1
      omega
    · rw [h1, Int.mul_zero] at hm; exact absurd hm r0
    · exact h1
/-- a fraction in lowest terms -/
def fr (c : Int) (u : Nat) : Int × Int := (c.fdiv (Int.gcd c u : Nat), (u : Int).fdiv (Int.gcd c u : Nat))
theorem fr_mul {k : Nat} (hk : 0 < k) (c : Int) {u : Nat} (hu : 0 < u) : fr ((k : Int) * c) (k * u) = fr c u := by
  have hg : Int.gcd ((k : Int) * c) ((k * u : Nat) : Int) = k * Int.gcd c u := by
    unfold Int.gcd
    rw [Int.natAbs_mul, Int.natAbs_natCast, Int.natAbs_natCast, Int.natAbs_natCast, Nat.gcd_mul_left]
  have g0 : 0 < Int.gcd c u := Nat.gcd_pos_of_pos_right _ (by omega)
  obtain ⟨a, ha⟩ : ((Int.gcd c u : Nat) : Int) ∣ c := Int.gcd_dvd_left ..
  obtain ⟨b, hb⟩ : ((Int.gcd c u : Nat) : Int) ∣ (u : Int) := Int.gcd_dvd_right ..
  have gi : ((Int.gcd c u : Nat) : Int) ≠ 0 := by omega
  have ki : (k : Int) ≠ 0 := by omega
  unfold fr
  rw [hg, Int.natCast_mul, Int.natCast_mul]
  have e1 : (k : Int) * c = (k : Int) * (Int.gcd c u : Nat) * a := by rw [Int.mul_assoc, ← ha]
  have e2 : (k : Int) * (u : Int) = (k : Int) * (Int.gcd c u : Nat) * b := by rw [Int.mul_assoc, ← hb]
  have f1 : c.fdiv (Int.gcd c u : Nat) = a := (congrArg (fun z => Int.fdiv z (Int.gcd c u : Nat)) ha).trans (fdiv_ex gi)
  have f2 : (u : Int).fdiv (Int.gcd c u : Nat) = b := (congrArg (fun z => Int.fdiv z (Int.gcd c u : Nat)) hb).trans (fdiv_ex gi)
  rw [f1, f2, e1, e2, fdiv_ex (Int.mul_ne_zero ki gi), fdiv_ex (Int.mul_ne_zero ki gi)]
/-- what the law tells of fractions, and what the program does -/
theorem cleared_same {ps : List (Int × Nat)} (hp : ∀ p ∈ ps, 0 < p.2) (hn : ∃ x ∈ ovr (lcN 1 ps) ps, x ≠ 0) :
    fr (cs (ovr (prN 1 ps) ps)) (prN 1 ps) = fr (cs (ovr (lcN 1 ps) ps)) (lcN 1 ps) ∧ pm (ovr (prN 1 ps) ps) = pm (ovr (lcN 1 ps) ps) := by
  obtain ⟨k, hk⟩ := lc_pr ps 1 1 (Nat.dvd_refl 1)
  have p0 := pr_pos ps 1 (by decide) hp
  have k0 : 0 < k := by rcases Nat.eq_zero_or_pos k with e | e; (· rw [e] at hk; omega); exact e
  have u0 : 0 < lcN 1 ps := by rcases Nat.eq_zero_or_pos (lcN 1 ps) with e | e; (· rw [e] at hk; omega); exact e
  have e := ovr_mul (u := lcN 1 ps) (k := k) fun p h => lc_dvd ps 1 p h
  rw [hk, e, cs_mul k0, pm_mul k0 hn]
  refine ⟨?_, rfl⟩
  rw [Nat.mul_comm (lcN 1 ps) k]
  exact fr_mul k0 _ u0
end ZP

set_option Elab.async false
set_option linter.all false
set_option maxRecDepth 100000
set_option maxHeartbeats 1000000
set_option autoImplicit false
namespace ZP
theorem co_set {R : List Int} {j : Nat} {x : Int} (h : j < R.length) (i : Nat) : co (R.set j x) i = if j = i then x else co R i := by
  unfold co
  simp only [List.getD_eq_getElem?_getD, List.getElem?_set]
  split
  · simp [h]
  · rfl
theorem co_lt {R : List Int} {j : Nat} (h : j < R.length) : co R j = R[j] := by simp [co, List.getD, h]
theorem sq_zero : ∀ (bs : List Int) (j : Nat) (R : List Int), j + bs.length ≤ R.length → sq 0 j bs R = R
  | [], _, _, _ => rfl
  | b :: bs, j, R, h => by
    rw [List.length_cons] at h
    have hj : j < R.length := by omega
    have e : R.set j (co R j - 0 * b) = R := by
      rw [Int.zero_mul, Int.sub_zero, co_lt hj]
      exact List.set_getElem_self hj
    rw [sq, e]
    exact sq_zero bs (j + 1) R (by omega)
theorem sq_co {q : Int} {B : Nat} (hq : q.natAbs < 2 ^ B) : ∀ (bs : List Int) (j : Nat) (R : List Int), (∀ b ∈ bs, b.natAbs < 2 ^ 67) → j + bs.length ≤ R.length → (∀ i, j ≤ i → (co R i).natAbs < 2 ^ B) → (∀ i, (co R i).natAbs < 2 ^ (B + 68)) → ∀ i, (co (sq q j bs R) i).natAbs < 2 ^ (B + 68)
  | [], j, R, _, _, _, h2, i => h2 i
  | b :: bs, j, R, hb, hl, h1, h2, i => by
    rw [List.length_cons] at hl
    have hj : j < R.length := by omega
    rw [sq]
    refine sq_co hq bs (j + 1) _ (fun c hc => hb c (List.mem_cons_of_mem _ hc)) (by rw [List.length_set]; omega) (fun k hk => ?_) (fun k => ?_) i
    · rw [co_set hj, if_neg (by omega)]
      exact h1 k (by omega)
    · rw [co_set hj]
      split
      · have g1 := h1 j (Nat.le_refl _)
        have g2 := hb b (List.mem_cons_self ..)
        have g3 : (co R j - q * b).natAbs ≤ (co R j).natAbs + q.natAbs * b.natAbs := by
          rw [← Int.natAbs_mul]
          omega
        have g4 : q.natAbs * b.natAbs ≤ 2 ^ B * 2 ^ 67 := Nat.mul_le_mul (by omega) (by omega)
        have g5 : 2 ^ (B + 68) = 2 ^ B * 2 ^ 67 + 2 ^ B * 2 ^ 67 := by rw [Nat.pow_add]; omega
        have g6 : 2 ^ B ≤ 2 ^ B * 2 ^ 67 := Nat.le_mul_of_pos_right _ (by decide)
        omega
      · exact h2 k
def Bq (B : Nat) (R : List Int) : Prop := ∀ i, (co R i).natAbs < 2 ^ B
theorem Bq.of {B : Nat} {R : List Int} (h : ∀ c ∈ R, c.natAbs < 2 ^ B) : Bq B R := fun i => by
  rcases co_in R i with e | e
  · rw [e]; exact Nat.two_pow_pos B
  · exact h _ e
theorem co_app_l {a b : List Int} {i : Nat} (h : i < a.length) : co (a ++ b) i = co a i := by
  unfold co
  rw [List.getD_eq_getElem?_getD, List.getD_eq_getElem?_getD, List.getElem?_append_left h]
theorem Bq.init {B : Nat} {R : List Int} {r : Int} (h : Bq B (R ++ [r])) : Bq B R ∧ r.natAbs < 2 ^ B := by
  refine ⟨fun i => ?_, ?_⟩
  · by_cases hi : i < R.length
    · have := h i
      rw [co_app_l hi] at this
      exact this
    · rw [co_ge (by omega)]; exact Nat.two_pow_pos B
  · have := h R.length
    have e : co (R ++ [r]) R.length = r := by simp [co]
    rw [e] at this
    exact this
theorem Bq.sq {B j : Nat} {R bs : List Int} {q : Int} (h : Bq B R) (hq : q.natAbs < 2 ^ B) (hb : ∀ b ∈ bs, b.natAbs < 2 ^ 67) (hl : j + bs.length ≤ R.length) : Bq (B + 68) (sq q j bs R) :=
  sq_co hq bs j R hb hl (fun i _ => h i) fun i => Nat.lt_of_lt_of_le (h i) (Nat.pow_le_pow_right (by decide) (by omega))
theorem Bq.up {B C : Nat} {R : List Int} (h : Bq B R) (hc : B ≤ C) : Bq C R := fun i => Nat.lt_of_lt_of_le (h i) (Nat.pow_le_pow_right (by decide) hc)
theorem fdiv_abs {a b : Int} (h0 : b ≠ 0) (hd : a.fmod b = 0) : (a.fdiv b).natAbs ≤ a.natAbs := by
  have e := Int.fmod_add_mul_fdiv a b
  rw [hd, Int.zero_add] at e
  have e2 := congrArg Int.natAbs e
  rw [Int.natAbs_mul] at e2
  have : 1 ≤ b.natAbs := by omega
  have := Nat.le_mul_of_pos_left (a.fdiv b).natAbs this
  omega
theorem fmod_ab {a b : Int} (h0 : b ≠ 0) : a.fmod (if b < 0 then -b else b) = 0 ↔ a.fmod b = 0 := by
  split
  · constructor
    · intro h
      have : -b ∣ a := Int.dvd_of_fmod_eq_zero h
      exact Int.fmod_eq_zero_of_dvd (Int.neg_dvd.mp this)
    · intro h
      have : b ∣ a := Int.dvd_of_fmod_eq_zero h
      exact Int.fmod_eq_zero_of_dvd (Int.neg_dvd.mpr this)
  · exact Iff.rfl
/-- one step of the law's way -/
theorem step_ev {ini R' : List Int} {lead r : Int} {m : Nat} (hR : R'.length = m + ini.length) (hd : r.fmod lead = 0) (t : Int) :
    ev t (R' ++ [r]) + ev t (List.replicate m 0 ++ (ini ++ [lead]).map fun b => 0 - r.fdiv lead * b) = ev t (sq (r.fdiv lead) m ini R') := by
  have e := Int.fmod_add_mul_fdiv r lead
  rw [hd, Int.zero_add] at e
  have e1 : ((ini ++ [lead]).map fun b => 0 - r.fdiv lead * b) = (ini ++ [lead]).map fun b => (-(r.fdiv lead)) * b := List.map_congr_left fun b _ => by grind
  rw [ev_sq _ _ _ _ _ (by omega), e1, ev_app, ev_app, ev_smul, ev_app, hR, List.length_replicate, ev_zero t (List.replicate m 0) fun c hc => (List.mem_replicate.mp hc).2]
  have e2 : ev t [r] = r := by simp [ev]
  have e3 : ev t [lead] = lead := by simp [ev]
  rw [e2, e3, Int.pow_add]
  generalize r.fdiv lead = q at e
  rw [← e]
  grind
/-- what is told of a quotient -/
def exQ (l ini : List Int) (lead : Int) : Option (List Int) := if l.length ≤ ini.length then (if l = [] then some [] else none) else qd ini lead (l.length - ini.length) l
theorem exQ_of {l ini Q : List Int} {lead : Int} (h0 : lead ≠ 0) (hQ : Q ≠ []) (hl : l.length + 1 = Q.length + (ini.length + 1)) (h : ∀ t, ev t l = ev t Q * ev t (ini ++ [lead])) : exQ l ini lead = some Q := by
  have := List.length_pos_iff.mpr hQ
  unfold exQ
  rw [if_neg (by omega)]
  exact qd_of h0 _ l Q (by omega) (by omega) h
end ZP

set_option Elab.async false
set_option linter.all false
set_option maxRecDepth 100000
set_option maxHeartbeats 1000000
set_option autoImplicit false
namespace ZP
theorem nm_addP : ∀ x y : List Int, nm (addP x y) ≤ nm x + nm y
  | [], y => by simp [addP, nm]
  | a :: x, [] => by simp [addP, nm]
  | a :: x, b :: y => by
    have := nm_addP x y
    have h := Int.natAbs_add_le a b
    simp only [addP, nm]
    omega
theorem nm_smul (c : Int) : ∀ l : List Int, nm (l.map fun z => c * z) = c.natAbs * nm l
  | [] => by simp [nm]
  | a :: l => by rw [List.map_cons, nm, nm, nm_smul c l, Int.natAbs_mul, Nat.mul_add]
theorem nm_cv : ∀ a b : List Int, nm (cv a b) ≤ nm a * nm b
  | [], b => by simp [cv, nm]
  | c :: a, b => by
    have h1 := nm_addP (b.map fun z => c * z) (0 :: cv a b)
    have h2 := nm_cv a b
    have h3 : nm (0 :: cv a b) = nm (cv a b) := by simp [nm]
    rw [nm_smul, h3] at h1
    rw [cv, nm, Nat.add_mul]
    omega
theorem co_nm (l : List Int) (i : Nat) : (co l i).natAbs ≤ nm l := by
  rcases co_in l i with h | h
  · rw [h]; exact Nat.zero_le _
  · exact nm_mem h
/-- numbers of a line that is told by its values -/
theorem mem_le {l S : List Int} {B : Nat} (h : ∀ t, ev t l = ev t S) (hS : nm S ≤ B) : ∀ c ∈ l, c.natAbs ≤ B := fun c hc => by
  obtain ⟨i, hi⟩ := co_mem hc
  rw [← hi, co_of_ev h]
  exact Nat.le_trans (co_nm S i) hS
theorem fr_low {c : Int} {u : Nat} (hu : 0 < u) : Int.gcd (fr c u).1 (fr c u).2 = 1 ∧ ∃ d : Nat, (fr c u).2 = (d : Int) ∧ 0 < d ∧ d ≤ u ∧ (fr c u).1.natAbs ≤ c.natAbs := by
  have g0 : 0 < Int.gcd c u := Nat.gcd_pos_of_pos_right _ (by omega)
  obtain ⟨a, ha⟩ : ((Int.gcd c u : Nat) : Int) ∣ c := Int.gcd_dvd_left ..
  obtain ⟨b, hb⟩ : ((Int.gcd c u : Nat) : Int) ∣ (u : Int) := Int.gcd_dvd_right ..
  have gi : ((Int.gcd c u : Nat) : Int) ≠ 0 := by omega
  have f1 : (fr c u).1 = a := (congrArg (fun z => Int.fdiv z (Int.gcd c u : Nat)) ha).trans (fdiv_ex gi)
  have f2 : (fr c u).2 = b := (congrArg (fun z => Int.fdiv z (Int.gcd c u : Nat)) hb).trans (fdiv_ex gi)
  have b0 : 0 < b := by
    have h1 : 0 < ((Int.gcd c u : Nat) : Int) * b := by rw [← hb]; omega
    exact Int.pos_of_mul_pos_right h1 (by omega)
  obtain ⟨d, rfl⟩ := Int.eq_ofNat_of_zero_le (Int.le_of_lt b0)
  rw [f1, f2]
  refine ⟨?_, d, rfl, by omega, ?_, ?_⟩
  · have e : Int.gcd (((Int.gcd c u : Nat) : Int) * a) (((Int.gcd c u : Nat) : Int) * (d : Int)) = Int.gcd c u * Int.gcd a d := by
      unfold Int.gcd
      rw [Int.natAbs_mul, Int.natAbs_mul, Int.natAbs_natCast, Nat.gcd_mul_left]
    rw [← ha, ← hb] at e
    have e2 : Int.gcd c u * Int.gcd a d = Int.gcd c u * 1 := by omega
    exact Nat.eq_of_mul_eq_mul_left g0 e2
  · have h1 : (u : Int) = ((Int.gcd c u * d : Nat) : Int) := by rw [Int.natCast_mul]; exact hb
    have h2 : u = Int.gcd c u * d := by omega
    have := Nat.le_mul_of_pos_left d g0
    omega
  · have h1 := congrArg Int.natAbs ha
    rw [Int.natAbs_mul, Int.natAbs_natCast] at h1
    have := Nat.le_mul_of_pos_left a.natAbs g0
    omega
end ZP

set_option Elab.async false
set_option linter.all false
set_option maxRecDepth 100000
set_option maxHeartbeats 0
set_option autoImplicit false
namespace Prog
open PySem PySem.Spec
def topS (i : Nat) : Stmt := PySem.Challenge.pw_towerback_k33_whole_contents_and_quotien.main.body.getD i (.Pass ⟨0, 0, 0, 0⟩)
abbrev s_is_integer : Stmt := topS 9
abbrev s_is_integer_in : Stmt := topS 10
abbrev s_fraction : Stmt := topS 12
abbrev s_trimmed : Stmt := topS 14
abbrev s_nested_constant : Stmt := topS 23
abbrev s_is_unit : Stmt := topS 24
abbrev s_nested_plus : Stmt := topS 25
abbrev s_nested_minus : Stmt := topS 27
abbrev s_whole_product : Stmt := topS 28
abbrev s_nested_times : Stmt := topS 29
abbrev s_integer_exact : Stmt := topS 30
abbrev s_nested_exact : Stmt := topS 31
abbrev s_nested_content : Stmt := topS 32
abbrev s_nested_common : Stmt := topS 53
abbrev s_common_multiple : Stmt := topS 56
abbrev s_whole_number : Stmt := topS 57
abbrev s_whole_line : Stmt := topS 58
abbrev s_nought_of : Stmt := topS 81
abbrev s_is_pair : Stmt := topS 115
abbrev s_is_within_size : Stmt := topS 116
abbrev s_is_settled : Stmt := topS 118
abbrev s_has_number_form : Stmt := topS 117
abbrev s_has_line_form : Stmt := topS 119
abbrev s_is_given_line : Stmt := topS 121
abbrev s_need_line : Stmt := topS 123
abbrev s_need_integer : Stmt := topS 124
abbrev s_value_of_whole : Stmt := topS 126
abbrev s_is_whole : Stmt := topS 130
abbrev s_is_given_whole : Stmt := topS 131
abbrev s_need_whole : Stmt := topS 132
abbrev s_need_filled_whole : Stmt := topS 133
abbrev s_whole_content : Stmt := topS 134
abbrev s_shared_line : Stmt := topS 135
abbrev s_whole_primitive : Stmt := topS 136
abbrev s_cleared : Stmt := topS 137
abbrev s_content_of : Stmt := topS 139
abbrev s_primitive_of : Stmt := topS 140
abbrev s_whole_plus : Stmt := topS 141
abbrev s_whole_times_wholelines : Stmt := topS 142
abbrev s_whole_at : Stmt := topS 144
abbrev s_whole_divided_wholelines : Stmt := topS 145
abbrev s_cleared_line : Stmt := topS 147
abbrev s__law_cup : Stmt := topS 149
abbrev s__law_roll : Stmt := topS 150
abbrev s__law_some : Stmt := topS 151
abbrev s__law_common : Stmt := topS 152
abbrev s__law_cut : Stmt := topS 153
abbrev s__law_mul : Stmt := topS 154
abbrev s__law_add : Stmt := topS 155
abbrev s__law_power : Stmt := topS 158
abbrev s__law_val : Stmt := topS 157
abbrev s__law_cont : Stmt := topS 159
abbrev s__law_prim : Stmt := topS 160
abbrev s__law_int : Stmt := topS 161
abbrev s__law_line : Stmt := topS 162
abbrev s__law_quotient : Stmt := topS 163
abbrev s__law_is : Stmt := topS 164
abbrev s__law_fraction : Stmt := topS 165
abbrev s__law_cleared : Stmt := topS 166
abbrev s_law : Stmt := topS 167
end Prog


set_option Elab.async false
set_option linter.all false
set_option maxRecDepth 100000
set_option maxHeartbeats 0
set_option autoImplicit false
namespace Prog
open PySem PySem.Spec PyProof PyProof.Rows L2
def fnH0 : List He.DefD := [⟨("is_integer", none), "is_integer", "is_integer", defArgs s_is_integer, defBody s_is_integer, defScope s_is_integer, [], []⟩, ⟨("is_integer_in", none), "is_integer_in", "is_integer_in", defArgs s_is_integer_in, defBody s_is_integer_in, defScope s_is_integer_in, [], []⟩, ⟨("fraction", none), "fraction", "fraction", defArgs s_fraction, defBody s_fraction, defScope s_fraction, [], []⟩, ⟨("trimmed", none), "trimmed", "trimmed", defArgs s_trimmed, defBody s_trimmed, defScope s_trimmed, [], []⟩, ⟨("nested_constant", none), "nested_constant", "nested_constant", defArgs s_nested_constant, defBody s_nested_constant, defScope s_nested_constant, [], []⟩, ⟨("is_unit", none), "is_unit", "is_unit", defArgs s_is_unit, defBody s_is_unit, defScope s_is_unit, [], []⟩, ⟨("nested_plus", none), "nested_plus", "nested_plus", defArgs s_nested_plus, defBody s_nested_plus, defScope s_nested_plus, [], []⟩, ⟨("nested_minus", none), "nested_minus", "nested_minus", defArgs s_nested_minus, defBody s_nested_minus, defScope s_nested_minus, [], []⟩, ⟨("whole_product", none), "whole_product", "whole_product", defArgs s_whole_product, defBody s_whole_product, defScope s_whole_product, [], []⟩, ⟨("nested_times", none), "nested_times", "nested_times", defArgs s_nested_times, defBody s_nested_times, defScope s_nested_times, [], []⟩, ⟨("integer_exact", none), "integer_exact", "integer_exact", defArgs s_integer_exact, defBody s_integer_exact, defScope s_integer_exact, [], []⟩, ⟨("nested_exact", none), "nested_exact", "nested_exact", defArgs s_nested_exact, defBody s_nested_exact, defScope s_nested_exact, [], []⟩, ⟨("nested_content", none), "nested_content", "nested_content", defArgs s_nested_content, defBody s_nested_content, defScope s_nested_content, [], []⟩, ⟨("nested_common", none), "nested_common", "nested_common", defArgs s_nested_common, defBody s_nested_common, defScope s_nested_common, [], []⟩, ⟨("common_multiple", none), "common_multiple", "common_multiple", defArgs s_common_multiple, defBody s_common_multiple, defScope s_common_multiple, [], []⟩, ⟨("whole_number", none), "whole_number", "whole_number", defArgs s_whole_number, defBody s_whole_number, defScope s_whole_number, [], []⟩, ⟨("whole_line", none), "whole_line", "whole_line", defArgs s_whole_line, defBody s_whole_line, defScope s_whole_line, [], []⟩, ⟨("nought_of", none), "nought_of", "nought_of", defArgs s_nought_of, defBody s_nought_of, defScope s_nought_of, [], []⟩, ⟨("is_pair", none), "is_pair", "is_pair", defArgs s_is_pair, defBody s_is_pair, defScope s_is_pair, [], []⟩, ⟨("is_within_size", none), "is_within_size", "is_within_size", defArgs s_is_within_size, defBody s_is_within_size, defScope s_is_within_size, [], []⟩, ⟨("is_settled", none), "is_settled", "is_settled", defArgs s_is_settled, defBody s_is_settled, defScope s_is_settled, [], []⟩, ⟨("has_number_form", none), "has_number_form", "has_number_form", defArgs s_has_number_form, defBody s_has_number_form, defScope s_has_number_form, [], []⟩, ⟨("has_line_form", none), "has_line_form", "has_line_form", defArgs s_has_line_form, defBody s_has_line_form, defScope s_has_line_form, [], []⟩, ⟨("is_given_line", none), "is_given_line", "is_given_line", defArgs s_is_given_line, defBody s_is_given_line, defScope s_is_given_line, [], []⟩, ⟨("need_line", none), "need_line", "need_line", defArgs s_need_line, defBody s_need_line, defScope s_need_line, [], []⟩, ⟨("need_integer", none), "need_integer", "need_integer", defArgs s_need_integer, defBody s_need_integer, defScope s_need_integer, [], []⟩, ⟨("value_of_whole", none), "value_of_whole", "value_of_whole", defArgs s_value_of_whole, defBody s_value_of_whole, defScope s_value_of_whole, [], []⟩, ⟨("is_whole", none), "is_whole", "is_whole", defArgs s_is_whole, defBody s_is_whole, defScope s_is_whole, [], []⟩, ⟨("is_given_whole", none), "is_given_whole", "is_given_whole", defArgs s_is_given_whole, defBody s_is_given_whole, defScope s_is_given_whole, [], []⟩, ⟨("need_whole", none), "need_whole", "need_whole", defArgs s_need_whole, defBody s_need_whole, defScope s_need_whole, [], []⟩]
def fnH1 : List He.DefD := [⟨("need_filled_whole", none), "need_filled_whole", "need_filled_whole", defArgs s_need_filled_whole, defBody s_need_filled_whole, defScope s_need_filled_whole, [], []⟩, ⟨("whole_content", none), "whole_content", "whole_content", defArgs s_whole_content, defBody s_whole_content, defScope s_whole_content, [], []⟩, ⟨("shared_line", none), "shared_line", "shared_line", defArgs s_shared_line, defBody s_shared_line, defScope s_shared_line, [], []⟩, ⟨("whole_primitive", none), "whole_primitive", "whole_primitive", defArgs s_whole_primitive, defBody s_whole_primitive, defScope s_whole_primitive, [], []⟩, ⟨("cleared", none), "cleared", "cleared", defArgs s_cleared, defBody s_cleared, defScope s_cleared, [], []⟩, ⟨("content_of", none), "content_of", "content_of", defArgs s_content_of, defBody s_content_of, defScope s_content_of, [], []⟩, ⟨("primitive_of", none), "primitive_of", "primitive_of", defArgs s_primitive_of, defBody s_primitive_of, defScope s_primitive_of, [], []⟩, ⟨("whole_plus", none), "whole_plus", "whole_plus", defArgs s_whole_plus, defBody s_whole_plus, defScope s_whole_plus, [], []⟩, ⟨("whole_times_wholelines", none), "whole_times", "whole_times", defArgs s_whole_times_wholelines, defBody s_whole_times_wholelines, defScope s_whole_times_wholelines, [], []⟩, ⟨("whole_at", none), "whole_at", "whole_at", defArgs s_whole_at, defBody s_whole_at, defScope s_whole_at, [], []⟩, ⟨("whole_divided_wholelines", none), "whole_divided", "whole_divided", defArgs s_whole_divided_wholelines, defBody s_whole_divided_wholelines, defScope s_whole_divided_wholelines, [], []⟩, ⟨("cleared_line", none), "cleared_line", "cleared_line", defArgs s_cleared_line, defBody s_cleared_line, defScope s_cleared_line, [], []⟩, ⟨("_law_cup", none), "_law_cup", "_law_cup", defArgs s__law_cup, defBody s__law_cup, defScope s__law_cup, [], []⟩, ⟨("_law_roll", none), "_law_roll", "_law_roll", defArgs s__law_roll, defBody s__law_roll, defScope s__law_roll, [], []⟩, ⟨("_law_some", none), "_law_some", "_law_some", defArgs s__law_some, defBody s__law_some, defScope s__law_some, [], []⟩, ⟨("_law_common", none), "_law_common", "_law_common", defArgs s__law_common, defBody s__law_common, defScope s__law_common, [], []⟩, ⟨("_law_cut", none), "_law_cut", "_law_cut", defArgs s__law_cut, defBody s__law_cut, defScope s__law_cut, [], []⟩, ⟨("_law_mul", none), "_law_mul", "_law_mul", defArgs s__law_mul, defBody s__law_mul, defScope s__law_mul, [], []⟩, ⟨("_law_add", none), "_law_add", "_law_add", defArgs s__law_add, defBody s__law_add, defScope s__law_add, [], []⟩, ⟨("_law_power", none), "_law_power", "_law_power", defArgs s__law_power, defBody s__law_power, defScope s__law_power, [], []⟩, ⟨("_law_val", none), "_law_val", "_law_val", defArgs s__law_val, defBody s__law_val, defScope s__law_val, [], []⟩, ⟨("_law_cont", none), "_law_cont", "_law_cont", defArgs s__law_cont, defBody s__law_cont, defScope s__law_cont, [], []⟩, ⟨("_law_prim", none), "_law_prim", "_law_prim", defArgs s__law_prim, defBody s__law_prim, defScope s__law_prim, [], []⟩, ⟨("_law_int", none), "_law_int", "_law_int", defArgs s__law_int, defBody s__law_int, defScope s__law_int, [], []⟩, ⟨("_law_line", none), "_law_line", "_law_line", defArgs s__law_line, defBody s__law_line, defScope s__law_line, [], []⟩, ⟨("_law_quotient", none), "_law_quotient", "_law_quotient", defArgs s__law_quotient, defBody s__law_quotient, defScope s__law_quotient, [], []⟩, ⟨("_law_is", none), "_law_is", "_law_is", defArgs s__law_is, defBody s__law_is, defScope s__law_is, [], []⟩, ⟨("_law_fraction", none), "_law_fraction", "_law_fraction", defArgs s__law_fraction, defBody s__law_fraction, defScope s__law_fraction, [], []⟩, ⟨("_law_cleared", none), "_law_cleared", "_law_cleared", defArgs s__law_cleared, defBody s__law_cleared, defScope s__law_cleared, [], []⟩, ⟨("law", none), "law", "law", defArgs s_law, defBody s_law, defScope s_law, [], []⟩]
def fnH : List He.DefD := fnH0 ++ fnH1
def faH0 : List He.Fa := [.free "abs", .free "len", .free "min", .free "max", .free "sum", .free "isinstance", .free "range", .free "zip", .free "enumerate", .free "reversed", .free "all", .free "any", .free "divmod", .free "int", .free "bool", .free "str", .free "tuple", .free "list", .int "LONGEST" 61, .int "MOST_PARTS" 20000, .int "GREATEST" (10 ^ 50 * 10 ^ 50), .int "LONGEST_WHOLE" 13, .glo "InvalidNumber", .glo "InvalidLine", .glo "InvalidWhole", .glo "PaperError", .exc "InvalidNumber", .exc "InvalidLine", .exc "InvalidWhole", .glo "is_integer", .glo "is_integer_in", .glo "fraction", .glo "trimmed", .glo "nested_constant", .glo "is_unit", .glo "nested_plus", .glo "nested_minus", .glo "whole_product", .glo "nested_times", .glo "integer_exact", .glo "nested_exact", .glo "nested_content", .glo "nested_common", .glo "common_multiple", .glo "whole_number", .glo "whole_line", .glo "nought_of", .glo "is_pair", .glo "is_within_size", .glo "is_settled", .glo "has_number_form", .glo "has_line_form", .glo "is_given_line", .glo "need_line", .glo "need_integer", .glo "value_of_whole", .glo "is_whole", .glo "is_given_whole", .glo "need_whole", .glo "need_filled_whole", .glo "whole_content", .glo "shared_line", .glo "whole_primitive", .glo "cleared", .glo "content_of", .glo "primitive_of", .glo "whole_plus", .glo "whole_times_wholelines", .glo "whole_at", .glo "whole_divided_wholelines", .glo "cleared_line", .glo "_law_cup", .glo "_law_roll", .glo "_law_some", .glo "_law_common", .glo "_law_cut", .glo "_law_mul", .glo "_law_add", .glo "_law_power", .glo "_law_val", .glo "_law_cont", .glo "_law_prim", .glo "_law_int", .glo "_law_line", .glo "_law_quotient", .glo "_law_is", .glo "_law_fraction", .glo "_law_cleared", .glo "law"]
def faH : List He.Fa := faH0
def xsH : List Str := ["law", "is_whole", "is_given_whole", "has_line_form", "shared_line"]
abbrev RH : PySem.W.OpenRow := PySem.W.OpenLaw.row PySem.Challenge.rw_towerback_k33_whole_contents_and_quotien
def looseH : List Str := (["is_integer", "is_integer_in", "inverse_rest", "fraction", "trimmed", "mod_plus", "mod_scaled", "mod_times", "mod_divided", "mod_monic", "mod_common", "mod_inverse", "nested_constant", "is_unit", "nested_plus", "nested_scaled", "nested_minus", "whole_product", "nested_times", "integer_exact", "nested_exact", "nested_content", "nested_shared", "nested_height"] : List Str) ++ (["nested_at", "nested_digit", "nested_digits", "bottom_of", "image_point", "nested_image", "have_apart_images", "are_apart_outside", "common_of_all", "primitive_of_nested", "widest_of", "joined_items", "split_items", "common_by_places", "common_by_values", "nested_common", "has_whole_forms", "common_multiple", "whole_number", "whole_line", "number_of_whole", "line_of_whole", "number_image", "number_image_wholeforms"] : List Str) ++ (["line_image", "line_image_wholeforms", "line_images", "whole_times", "whole_times_wholeparts", "whole_divided", "whole_divided_wholeparts", "whole_rest_of_product", "rest_of_whole", "are_shown_apart", "whole_common", "whole_rest_row", "whole_mixed", "whole_inverse_pair", "whole_inverse", "one_of", "nought_of", "constant_of", "trimmed_line", "plus", "negated", "minus", "times", "inverted"] : List Str) ++ (["quotients_plus", "quotients_times", "settled", "lines_plus", "line_negated", "lines_minus", "line_scaled", "lines_times", "lines_divided", "lines_exact", "monic_of", "lines_common", "first_index", "lowered_common", "euclid_common", "line_inverse", "euclid_inverse", "image_field", "number_image_rawways", "line_image_rawways", "are_apart_by_images", "is_pair", "is_within_size", "has_number_form"] : List Str) ++ (["is_settled", "has_line_form", "are_apart", "is_given_line", "need_line", "need_integer", "value_of_whole", "is_whole", "is_given_whole", "need_whole", "need_filled_whole", "whole_content", "shared_line", "whole_primitive", "cleared", "content_of", "primitive_of", "whole_plus", "whole_times_wholelines", "whole_at", "whole_divided_wholelines", "cleared_line", "_law_cup", "_law_roll"] : List Str) ++ (["_law_some", "_law_common", "_law_cut", "_law_mul", "_law_add", "_law_all_mul", "_law_val", "_law_power", "_law_cont", "_law_prim", "_law_int", "_law_line", "_law_quotient", "_law_is", "_law_fraction", "_law_cleared", "GREATEST", "IMAGE_PRIME", "TRIES", "LONGEST", "MOST_PARTS", "WHOLE", "LONGEST_WHOLE", "PaperError"] : List Str) ++ (["InvalidNumber", "InvalidLine", "ByNought", "InvalidWhole", "isqrt", "gcd"] : List Str)
theorem runA (w : World) : ((HandSHeadRun.wholeF (fun p => HandSHeadRun.stepQ (HandSHeadRun.denQ HandSHeadRun.tabQ) p w) HandSHeadRun.fenceQ 8000 RH.prog).map (fun x => HandSHeadRun.looksF RH.prog x.1.heap x.2.abs)) = some true := by kernel_rfl
open PySem.W in
theorem runB (w : World) : ((HandSHeadRun.wholeF (fun p => HandSHeadRun.stepQ (HandSHeadRun.denQ HandSHeadRun.tabQ) p w) HandSHeadRun.fenceQ 8000 RH.prog).map (fun x => HandSHeadRun.seenQ (PySem.W.view RH.prog [167]) looseH (importedModules RH.prog.main.body) (fun s => xlAt (PySem.W.view RH.prog [167]) [] s && recOk RH.toRowW.records s) x.2.abs)) = some (openGood (PySem.W.view RH.prog [167]) looseH) := by kernel_rfl
abbrev kkH (s : PySem.W.SharedT) : PySem.W.Frag := He.frG (HandSHeadRun.getT s) (He.asD (HandSHeadRun.getT s) 2)
theorem runF0 (w : World) : ((HandSHeadRun.wholeF (fun p => HandSHeadRun.stepQ (HandSHeadRun.denQ HandSHeadRun.tabQ) p w) HandSHeadRun.fenceQ 8000 RH.prog).map (fun x => faH0.all fun f => f.ok (kkH x.2))) = some true := by kernel_rfl
theorem runN0 (w : World) : ((HandSHeadRun.wholeF (fun p => HandSHeadRun.stepQ (HandSHeadRun.denQ HandSHeadRun.tabQ) p w) HandSHeadRun.fenceQ 8000 RH.prog).map (fun x => (fnH0.all (fun d => d.ok (kkH x.2)), fnH0.map fun d => He.fnW (kkH x.2) d.at_))) = some (true, fnH0.map He.DefD.val) := by kernel_rfl
theorem runN1 (w : World) : ((HandSHeadRun.wholeF (fun p => HandSHeadRun.stepQ (HandSHeadRun.denQ HandSHeadRun.tabQ) p w) HandSHeadRun.fenceQ 8000 RH.prog).map (fun x => (fnH1.all (fun d => d.ok (kkH x.2)), fnH1.map fun d => He.fnW (kkH x.2) d.at_))) = some (true, fnH1.map He.DefD.val) := by kernel_rfl
end Prog

set_option Elab.async false
set_option linter.all false
set_option maxRecDepth 100000
/-! A layer over HandS: values as data, states as lists of data, each rule a total function on them. -/
namespace DL
open PySem PySem.Spec PyProof.Rows L2

structure Kx where
  T : List (Addr × Str)
  CL : Nat → Addr
  F : PySem.W.Frag
/-! ### data in a heap -/
/-- a tuple of the modules -/
def CT (F : PySem.W.Frag) (a : Addr) (xs : List V) : Prop := ∃ (o : Obj) (its : Array Value) (n : Nat), F.lookup a = some o ∧ o.cls = .type "tuple" ∧ o.data = .seq its n ∧ its.size ≤ sizeLine ∧ Vals xs its.toList
def TupAt (F : PySem.W.Frag) (G : Hp) (a : Addr) (xs : List V) : Prop := G a = some (.tup xs) ∨ CT F a xs
theorem TupAt.mono {F : PySem.W.Frag} {G G' : Hp} {a : Addr} {xs : List V} (k : ∀ b o, G b = some o → G' b = some o) (h : TupAt F G a xs) : TupAt F G' a xs := h.imp (k _ _) id
theorem TupAt.sq {F : PySem.W.Frag} {H : Hp} {a : Addr} {xs : List V} (h : TupAt F H a xs) : SqT F H a xs := h.elim SqT.of .inr
theorem TupAt.sq' {F F' : PySem.W.Frag} {H : Hp} {a : Addr} {xs : List V} (e : F = F') (h : TupAt F H a xs) : SqT F' H a xs := e ▸ h.sq
mutual
inductive Rp (K : Kx) (G : Hp) : V → PyData → Prop
  | non : Rp K G .non .none
  | bl (b : Bool) : Rp K G (.bl b) (.bool b)
  | int (i : Int) : Rp K G (.int i) (.int i)
  | str (x : Str) : Rp K G (.str x) (.str x)
  | lst {a : Addr} {xs : List V} {ds : List PyData} : G a = some (.lst xs) → RpL K G xs ds → Rp K G (.ref a) (.list ds)
  | tupA {a : Addr} {xs : List V} {ds : List PyData} : TupAt K.F G a xs → RpL K G xs ds → Rp K G (.ref a) (.tuple ds)
inductive RpL (K : Kx) (G : Hp) : List V → List PyData → Prop
  | nil : RpL K G [] []
  | cons {v : V} {vs : List V} {d : PyData} {ds : List PyData} : Rp K G v d → RpL K G vs ds → RpL K G (v :: vs) (d :: ds)
end
theorem Rp.tup {K : Kx} {G : Hp} {a : Addr} {xs : List V} {ds : List PyData} (h : G a = some (.tup xs)) (r : RpL K G xs ds) : Rp K G (.ref a) (.tuple ds) := .tupA (.inl h) r
mutual
theorem Rp.mono {K : Kx} {G G' : Hp} (k : ∀ b o, G b = some o → G' b = some o) : ∀ {v : V} {d : PyData}, Rp K G v d → Rp K G' v d
  | _, _, .non => .non
  | _, _, .bl b => .bl b
  | _, _, .int i => .int i
  | _, _, .str x => .str x
  | _, _, .lst h r => .lst (k _ _ h) (RpL.mono k r)
  | _, _, .tupA h r => .tupA (h.mono k) (RpL.mono k r)
theorem RpL.mono {K : Kx} {G G' : Hp} (k : ∀ b o, G b = some o → G' b = some o) : ∀ {vs : List V} {ds : List PyData}, RpL K G vs ds → RpL K G' vs ds
  | _, _, .nil => .nil
  | _, _, .cons h r => .cons (Rp.mono k h) (RpL.mono k r)
end
mutual
theorem Rp.dp {K : Kx} {F : PySem.W.Frag} {G : Hp} (hKF : K.F = F) : ∀ {v : V} {d : PyData}, Rp K G v d → Dp F G v d
  | _, _, .non => .non
  | _, _, .bl b => .bl b
  | _, _, .int i => .int i
  | _, _, .str x => .str x
  | _, _, .lst h r => .lst (SqL.of h) (RpL.dp hKF r)
  | _, _, .tupA h r => .tup (h.sq' hKF) (RpL.dp hKF r)
theorem RpL.dp {K : Kx} {F : PySem.W.Frag} {G : Hp} (hKF : K.F = F) : ∀ {vs : List V} {ds : List PyData}, RpL K G vs ds → DpAll F G vs ds
  | _, _, .nil => .nil
  | _, _, .cons h r => .cons (Rp.dp hKF h) (RpL.dp hKF r)
end
section
variable {K : Kx} {G : Hp} {vs ws : List V} {ds es : List PyData}
theorem RpL.length : ∀ {vs : List V} {ds : List PyData}, RpL K G vs ds → vs.length = ds.length
  | _, _, .nil => rfl
  | _, _, .cons _ r => congrArg (· + 1) (RpL.length r)
theorem RpL.get : ∀ {vs : List V} {ds : List PyData} {i : Nat} {d : PyData}, RpL K G vs ds → ds[i]? = some d → ∃ v, vs[i]? = some v ∧ Rp K G v d
  | _, _, _, _, .nil, e => by simp at e
  | _, _, 0, _, .cons h _, e => by simp at e; subst e; exact ⟨_, rfl, h⟩
  | _, _, i + 1, d, .cons _ r, e => by
    obtain ⟨v, e1, e2⟩ := RpL.get (i := i) (d := d) r (by simpa using e)
    exact ⟨v, by simpa using e1, e2⟩
theorem RpL.app : ∀ {vs : List V} {ds : List PyData}, RpL K G vs ds → RpL K G ws es → RpL K G (vs ++ ws) (ds ++ es)
  | _, _, .nil, s => s
  | _, _, .cons h r, s => .cons h (RpL.app r s)
theorem RpL.take : ∀ {vs : List V} {ds : List PyData} (n : Nat), RpL K G vs ds → RpL K G (vs.take n) (ds.take n)
  | _, _, 0, _ => .nil
  | _, _, _ + 1, .nil => .nil
  | _, _, n + 1, .cons h r => .cons h (RpL.take n r)
theorem RpL.drop : ∀ {vs : List V} {ds : List PyData} (n : Nat), RpL K G vs ds → RpL K G (vs.drop n) (ds.drop n)
  | _, _, 0, r => r
  | _, _, _ + 1, .nil => .nil
  | _, _, n + 1, .cons _ r => RpL.drop n r
end

/-! ### states -/
abbrev Cu := Int × Int
inductive Sl where
  | un | dat (d : PyData) | own (ds : List PyData) | cup
abbrev En := List Sl
inductive Rs (α : Type) where
  | stuck | exc (k : Nat) (cu : Cu) | ok (a : α) (cu : Cu)
/-- the kind of what comes out names the way on: so a reckoning does not go into it ahead of its time -/
abbrev RsT {α β : Type} (_ : α → Cu → Rs β) : Type := Rs β
@[inline] def Rs.bind {α β : Type} (r : Rs α) (f : α → Cu → Rs β) : RsT f := match r with
  | .stuck => .stuck
  | .exc k cu => .exc k cu
  | .ok a cu => f a cu
def Rs.ofO {α : Type} (o : Option α) (cu : Cu) : Rs α := match o with
  | some a => .ok a cu
  | none => .stuck
structure Wd (K : Kx) (c : Option Addr) (H G : Hp) (cu : Cu) : Prop where
  sub : ∀ b o, G b = some o → H b = some o
  tab : LamX.Tabs K.T H
  nt : ∀ b ps, G b ≠ some (.tbl ps)
  cup : ∀ a, c = some a → H a = some (.lst [.int cu.1, .int cu.2]) ∧ G a = none
/-- what lasts: not a table -/
def NT (o : HO) : Prop := ∀ ps, o ≠ .tbl ps
theorem nt_lst {xs : List V} : NT (.lst xs) := fun ps z => nomatch z
theorem nt_tup {xs : List V} : NT (.tup xs) := fun ps z => nomatch z
/-- nothing lasting stands there -/
def Fre (H : Hp) (p : Addr) : Prop := ∀ o, H p = some o → ¬ NT o
theorem Fre.of {H : Hp} {p : Addr} (h : H p = none) : Fre H p := fun o e => by rw [h] at e; cases e
theorem Fre.ne {H : Hp} {p b : Addr} {o : HO} (f : Fre H p) (e : H b = some o) (n : NT o) : b ≠ p := fun z => f o (by rw [← z]; exact e) n
structure Ext (c : Option Addr) (H G H' G' : Hp) : Prop where
  h : ∀ b o, H b = some o → NT o → c ≠ some b → H' b = some o
  hs : ∀ b o, H b = some o → NT o → ∃ o', H' b = some o' ∧ NT o'
  g : ∀ b o, G b = some o → G' b = some o
  n : ∀ b o, H b = some o → NT o → G b = none → G' b = none
theorem Ext.refl {c : Option Addr} {H G : Hp} : Ext c H G H G := ⟨fun _ _ e _ _ => e, fun _ o e n => ⟨o, e, n⟩, fun _ _ e => e, fun _ _ _ _ e => e⟩
theorem Ext.trans {c : Option Addr} {H G H1 G1 H2 G2 : Hp} (a : Ext c H G H1 G1) (b : Ext c H1 G1 H2 G2) : Ext c H G H2 G2 :=
  ⟨fun x o e n k => b.h x o (a.h x o e n k) n k, fun x o e n => let ⟨o1, e1, n1⟩ := a.hs x o e n; b.hs x o1 e1 n1, fun x o e => b.g x o (a.g x o e), fun x o e n z => let ⟨o1, e1, n1⟩ := a.hs x o e n; b.n x o1 e1 n1 (a.n x o e n z)⟩
theorem Ext.free {c : Option Addr} {H G H' G' : Hp} (a : Ext c H G H' G') {p : Addr} (f : Fre H' p) : Fre H p := fun o e n => by
  obtain ⟨o', e', n'⟩ := a.hs p o e n
  exact f o' e' n'

structure Rep (K : Kx) (c : Option Addr) (H0 : Hp) (σ : L2.St) (H G : Hp) (ρ : En) : Prop where
  len : ρ.length = σ.length
  dat : ∀ (i : Nat) (d : PyData), ρ[i]? = some (Sl.dat d) → ∃ v : V, σ[i]? = some (some v) ∧ Rp K G v d
  cup : ∀ (i : Nat), ρ[i]? = some Sl.cup → ∃ a, c = some a ∧ σ[i]? = some (some (V.ref a))
  own : ∃ A : Nat → Addr, (∀ (i : Nat) (ds : List PyData), ρ[i]? = some (Sl.own ds) → σ[i]? = some (some (V.ref (A i))) ∧ (∃ xs, H (A i) = some (.lst xs) ∧ RpL K G xs ds) ∧ G (A i) = none ∧ Fre H0 (A i) ∧ c ≠ some (A i)) ∧
    ∀ (i j : Nat) (ds es : List PyData), ρ[i]? = some (Sl.own ds) → ρ[j]? = some (Sl.own es) → i ≠ j → A i ≠ A j
structure SRep (K : Kx) (c : Option Addr) (H0 G0 : Hp) (σ : L2.St) (H G : Hp) (ρ : En) (cu : Cu) : Prop where
  wd : Wd K c H G cu
  ext : Ext c H0 G0 H G
  rep : Rep K c H0 σ H G ρ
theorem SRep.go {K : Kx} {c : Option Addr} {H0 G0 H G H' G' : Hp} {σ : L2.St} {ρ : En} {cu cu' : Cu} (s : SRep K c H0 G0 σ H G ρ cu) (x : Ext c H G H' G') (w : Wd K c H' G' cu') : SRep K c H0 G0 σ H' G' ρ cu' := by
  refine ⟨w, s.ext.trans x, s.rep.len, fun i d e => ?_, s.rep.cup, ?_⟩
  · obtain ⟨v, e1, e2⟩ := s.rep.dat i d e
    exact ⟨v, e1, e2.mono x.g⟩
  · obtain ⟨A, h1, h2⟩ := s.rep.own
    refine ⟨A, fun i ds e => ?_, h2⟩
    obtain ⟨e1, ⟨xs, e2, e3⟩, e4, e5, e6⟩ := h1 i ds e
    exact ⟨e1, ⟨xs, x.h _ _ e2 nt_lst e6, e3.mono x.g⟩, x.n _ _ e2 nt_lst e4, e5, e6⟩

/-! ### what is left to show behind a reckoning -/
def Post (K : Kx) (E : XK) (c : Option Addr) (H G : Hp) {α : Type} (r : Rs α) (Q : α → Hp → Hp → Cu → Prop) : Prop := match r with
  | .stuck => False
  | .exc k cu' => ∀ H' G', Ext c H G H' G' → Wd K c H' G' cu' → E (.ref (K.CL k)) none H'
  | .ok a cu' => ∀ H' G', Ext c H G H' G' → Wd K c H' G' cu' → Q a H' G' cu'
section
variable {K : Kx} {E : XK} {c : Option Addr} {H G H1 G1 : Hp} {α β : Type}
theorem Post.go {r : Rs α} {Q : α → Hp → Hp → Cu → Prop} (x : Ext c H G H1 G1) (h : Post K E c H G r Q) : Post K E c H1 G1 r Q := by
  cases r with
  | stuck => exact h
  | exc k cu => exact fun H' G' y w => h H' G' (x.trans y) w
  | ok a cu => exact fun H' G' y w => h H' G' (x.trans y) w
theorem Post.bind {r : Rs α} {f : α → Cu → Rs β} {Q : β → Hp → Hp → Cu → Prop} (h : Post K E c H G (r.bind f) Q) :
    Post K E c H G r (fun a H1 G1 cu1 => Post K E c H1 G1 (f a cu1) Q) := by
  cases r with
  | stuck => exact h
  | exc k cu => exact h
  | ok a cu => exact fun H' G' x _ => Post.go x h
theorem Post.imp {r : Rs α} {Q Q' : α → Hp → Hp → Cu → Prop} (h : Post K E c H G r Q) (k : ∀ a H' G' cu', Ext c H G H' G' → Wd K c H' G' cu' → Q a H' G' cu' → Q' a H' G' cu') : Post K E c H G r Q' := by
  cases r with
  | stuck => exact h
  | exc k cu => exact h
  | ok a cu => exact fun H' G' x w => k _ _ _ _ x w (h H' G' x w)
theorem Post.ofO {o : Option α} {cu : Cu} {Q : α → Hp → Hp → Cu → Prop} (h : Post K E c H G (Rs.ofO o cu) Q) : ∃ a, o = some a ∧ ∀ H' G', Ext c H G H' G' → Wd K c H' G' cu → Q a H' G' cu := by
  cases o with
  | none => exact h.elim
  | some a => exact ⟨a, rfl, h⟩
end
/-- what follows a value -/
abbrev QD (K : Kx) (Q : VK) : PyData → Hp → Hp → Cu → Prop := fun d H' G' _ => ∀ v, Rp K G' v d → Q v H'
/-! ### the judgements -/
abbrev GE := En → Cu → Rs PyData
abbrev GT := En → Cu → Rs Bool
abbrev GA := En → Cu → Rs (List Sl)
inductive ArgRp (K : Kx) (c : Option Addr) (G : Hp) : List V → List Sl → Prop
  | nil : ArgRp K c G [] []
  | dat {v : V} {vs : List V} {d : PyData} {as : List Sl} : Rp K G v d → ArgRp K c G vs as → ArgRp K c G (v :: vs) (.dat d :: as)
  | cup {a : Addr} {vs : List V} {as : List Sl} : c = some a → ArgRp K c G vs as → ArgRp K c G (.ref a :: vs) (.cup :: as)
theorem ArgRp.mono {K : Kx} {c : Option Addr} {G G' : Hp} (k : ∀ b o, G b = some o → G' b = some o) : ∀ {vs : List V} {as : List Sl}, ArgRp K c G vs as → ArgRp K c G' vs as
  | _, _, .nil => .nil
  | _, _, .dat h r => .dat (h.mono k) (ArgRp.mono k r)
  | _, _, .cup h r => .cup h (ArgRp.mono k r)
theorem ArgRp.length {K : Kx} {c : Option Addr} {G : Hp} : ∀ {vs : List V} {as : List Sl}, ArgRp K c G vs as → vs.length = as.length
  | _, _, .nil => rfl
  | _, _, .dat _ r => congrArg (· + 1) r.length
  | _, _, .cup _ r => congrArg (· + 1) r.length
def SemE (K : Kx) (E : XK) (t : TE) (g : GE) : Prop := ∀ c H0 G0 σ H G ρ cu (Q : VK), SRep K c H0 G0 σ H G ρ cu → Post K E c H G (g ρ cu) (QD K Q) → t σ H Q
def SemT (K : Kx) (E : XK) (t : TT) (g : GT) : Prop := ∀ c H0 G0 σ H G ρ cu (Q : Bool → Hp → Prop), SRep K c H0 G0 σ H G ρ cu → Post K E c H G (g ρ cu) (fun b H' _ _ => Q b H') → t σ H Q
def SemA (K : Kx) (E : XK) (t : TA) (g : GA) : Prop := ∀ c H0 G0 σ H G ρ cu (Q : List V → Hp → Prop), SRep K c H0 G0 σ H G ρ cu → Post K E c H G (g ρ cu) (fun as H' G' _ => ∀ vs, ArgRp K c G' vs as → Q vs H') → t σ H Q
structure PD (X : Cx) (K : Kx) (E : XK) (e : Expr) (t : TE) (g : GE) : Prop where
  pe : PE X e t
  sem : SemE K E t g
structure PTD (X : Cx) (K : Kx) (E : XK) (e : Expr) (t : TT) (g : GT) : Prop where
  pt : PT X e t
  sem : SemT K E t g
structure PWD (X : Cx) (K : Kx) (E : XK) (e : Expr) (t : TT) (g : GT) : Prop where
  pw : PW X e t
  sem : SemT K E t g
structure PAD (X : Cx) (K : Kx) (E : XK) (es : List Expr) (t : TA) (g : GA) : Prop where
  pa : PA X es t
  sem : SemA K E t g
section
variable {X : Cx} {K : Kx} {E : XK} {a b e : Expr} {es : List Expr} {ta tb te : TE} {t : TA} {ga gb ge : GE} {g : GA} {pos : Pos}
/-! ### names, constants -/
def gVar (i : Nat) : GE := fun ρ cu => match ρ[i]? with
  | some (Sl.dat d) => .ok d cu
  | _ => .stuck
theorem pd_var {i : Nat} {x : Str} (h : PE X (.Name x pos) (tVar i)) : PD X K E (.Name x pos) (tVar i) (gVar i) := by
  refine ⟨h, fun c H0 G0 σ H G ρ cu Q s q => ?_⟩
  unfold gVar at q
  split at q
  · rename_i d e
    obtain ⟨v, e1, r⟩ := s.rep.dat i d e
    exact ⟨v, e1, q H G Ext.refl s.wd v r⟩
  · exact q.elim
def gC (d : PyData) : GE := fun _ cu => .ok d cu
theorem sem_c {v : V} {d : PyData} (r : ∀ G : Hp, Rp K G v d) : SemE K E (tC v) (gC d) := fun c H0 G0 σ H G ρ cu Q s q => q H G Ext.refl s.wd v (r G)
theorem pd_int {i : Int} {j : Nat} : PD X K E (.Constant (.int i) j pos) (tC (.int i)) (gC (.int i)) := ⟨pe_int, sem_c fun _ => .int i⟩
theorem pd_bl {i : Bool} {j : Nat} : PD X K E (.Constant (.bool i) j pos) (tC (.bl i)) (gC (.bool i)) := ⟨pe_bl, sem_c fun _ => .bl i⟩
theorem pd_non {j : Nat} : PD X K E (.Constant .none j pos) (tC .non) (gC .none) := ⟨pe_non, sem_c fun _ => .non⟩
theorem pd_str {x : Str} {j : Nat} : PD X K E (.Constant (.str x) j pos) (tC (.str x)) (gC (.str x)) := ⟨pe_str, sem_c fun _ => .str x⟩
theorem pd_globI {x : Str} {i : Int} {u : Tok} (hg : Gl X x) (hm : X.mg x = some (.int i u)) (hd : (x == ("__debug__" : Str)) = false := by decide) : PD X K E (.Name x pos) (tC (.int i)) (gC (.int i)) :=
  ⟨pe_glob hg hm ⟨u, rfl⟩ hd, sem_c fun _ => .int i⟩
/-! ### operators -/
def OpD (K : Kx) (r : R2) (f : PyData → PyData → Option PyData) : Prop := ∀ c H G cu v w d e z (Q : VK), Wd K c H G cu → Rp K G v d → Rp K G w e → f d e = some z →
  (∀ v' H' G', Ext c H G H' G' → Wd K c H' G' cu → Rp K G' v' z → Q v' H') → r v w H Q
def gBin (f : PyData → PyData → Option PyData) (ga gb : GE) : GE := fun ρ cu => (ga ρ cu).bind fun a cu1 => (gb ρ cu1).bind fun b cu2 => .ofO (f a b) cu2
theorem sem_op {r : R2} {f : PyData → PyData → Option PyData} (hf : OpD K r f) (ha : SemE K E ta ga) (hb : SemE K E tb gb) : SemE K E (tOp r ta tb) (gBin f ga gb) := by
  intro c H0 G0 σ H G ρ cu Q s q
  refine ha c H0 G0 σ H G ρ cu _ s (q.bind.imp fun a H1 G1 cu1 x1 w1 q1 v rv => ?_)
  have s1 := s.go x1 w1
  refine hb c H0 G0 σ H1 G1 ρ cu1 _ s1 (q1.bind.imp fun b H2 G2 cu2 x2 w2 q2 w rw' => ?_)
  obtain ⟨z, e, q3⟩ := q2.ofO
  exact hf c H2 G2 cu2 v w a b z Q w2 (rv.mono x2.g) rw' e fun v' H' G' x w => q3 H' G' x w v'
theorem pd_op {op : Operator} {r : R2} {f : PyData → PyData → Option PyData} (ho : OpR X (binaryOp op) r) (hf : OpD K r f) (ha : PD X K E a ta ga) (hb : PD X K E b tb gb) : PD X K E (.BinOp a op b pos) (tOp r ta tb) (gBin f ga gb) :=
  ⟨pe_op ho ha.pe hb.pe, sem_op hf ha.sem hb.sem⟩
theorem pd_cmp {op : CmpOp} {r : R2} {f : PyData → PyData → Option PyData} (ho : OpR X (compareOp op) r) (hf : OpD K r f) (ha : PD X K E a ta ga) (hb : PD X K E b tb gb) (hm : behindInMarks op b = false) : PD X K E (.Compare a [op] [b] pos) (tOp r ta tb) (gBin f ga gb) :=
  ⟨pe_cmpR ho ha.pe hb.pe hm, sem_op hf ha.sem hb.sem⟩
theorem pd_ix {r : R2} {f : PyData → PyData → Option PyData} (ho : IxR X r) (hf : OpD K r f) (ha : PD X K E a ta ga) (hb : PD X K E b tb gb) (hs : PlainIx b) : PD X K E (.Subscript a b pos) (tOp r ta tb) (gBin f ga gb) :=
  ⟨pe_ix ho ha.pe hb.pe hs, sem_op hf ha.sem hb.sem⟩
/-- two ways of one operator -/
theorem OpD.or {r r' : R2} {f f' : PyData → PyData → Option PyData} (h : OpD K r f) (h' : OpD K r' f') : OpD K (fun x y H Q => r x y H Q ∨ r' x y H Q) (fun d e => (f d e).or (f' d e)) := by
  intro c H G cu v w d e z Q wd r1 r2 hz q
  cases hf : f d e with
  | some y =>
    have hz' : (f d e).or (f' d e) = some z := hz
    rw [hf] at hz'
    exact .inl (h c H G cu v w d e z Q wd r1 r2 (by rw [hf]; exact hz') q)
  | none =>
    have hz' : (f d e).or (f' d e) = some z := hz
    rw [hf] at hz'
    exact .inr (h' c H G cu v w d e z Q wd r1 r2 hz' q)
def fI (C : Int → Int → Bool) (g : Int → Int → Int) : PyData → PyData → Option PyData
  | .int i, .int j => if C i j = true then some (.int (g i j)) else none
  | _, _ => none
def fI0 (g : Int → Int → Int) : PyData → PyData → Option PyData
  | .int i, .int j => some (.int (g i j))
  | _, _ => none
def fB0 (g : Int → Int → Bool) : PyData → PyData → Option PyData
  | .int i, .int j => some (.bool (g i j))
  | _, _ => none
theorem Rp.int_of {K : Kx} {G : Hp} {v : V} {i : Int} (r : Rp K G v (.int i)) : v = .int i := by cases r; rfl
theorem Rp.bl_of {K : Kx} {G : Hp} {v : V} {i : Bool} (r : Rp K G v (.bool i)) : v = .bl i := by cases r; rfl
theorem Rp.str_of {K : Kx} {G : Hp} {v : V} {i : Str} (r : Rp K G v (.str i)) : v = .str i := by cases r; rfl
theorem Rp.lst_of {K : Kx} {G : Hp} {v : V} {ds : List PyData} (r : Rp K G v (.list ds)) : ∃ a xs, v = .ref a ∧ G a = some (.lst xs) ∧ RpL K G xs ds := by cases r with | lst h r => exact ⟨_, _, rfl, h, r⟩
theorem Rp.tup_of {K : Kx} {G : Hp} {v : V} {ds : List PyData} (r : Rp K G v (.tuple ds)) : ∃ a xs, v = .ref a ∧ TupAt K.F G a xs ∧ RpL K G xs ds := by cases r with | tupA h r => exact ⟨_, _, rfl, h, r⟩
theorem opD_I0 {g : Int → Int → Int} : OpD K (rI0 fun i j => .int (g i j)) (fI0 g) := by
  intro c H G cu v w d e z Q wd r1 r2 hz q
  unfold fI0 at hz
  split at hz
  · cases hz
    exact ⟨_, _, r1.int_of, r2.int_of, q _ H G Ext.refl wd (.int _)⟩
  · cases hz
theorem opD_B0 {g : Int → Int → Bool} : OpD K (rI0 fun i j => .bl (g i j)) (fB0 g) := by
  intro c H G cu v w d e z Q wd r1 r2 hz q
  unfold fB0 at hz
  split at hz
  · cases hz
    exact ⟨_, _, r1.int_of, r2.int_of, q _ H G Ext.refl wd (.bl _)⟩
  · cases hz
theorem opD_I {C : Int → Int → Prop} {C' : Int → Int → Bool} {g : Int → Int → Int} (hC : ∀ i j, C' i j = true → C i j) : OpD K (rI C fun i j => .int (g i j)) (fI C' g) := by
  intro c H G cu v w d e z Q wd r1 r2 hz q
  unfold fI at hz
  split at hz
  · split at hz
    · rename_i hc
      cases hz
      exact ⟨_, _, r1.int_of, r2.int_of, hC _ _ hc, q _ H G Ext.refl wd (.int _)⟩
    · cases hz
  · cases hz
/-- a new object, not known -/
theorem Wd.newH {c : Option Addr} {H G : Hp} {cu : Cu} (w : Wd K c H G cu) {p : Addr} {o : HO} (hp : H p = none) (no : ∀ ps, o ≠ .tbl ps := by intro ps z; cases z) : Ext c H G (upd H p o) G ∧ Wd K c (upd H p o) G cu ∧ G p = none := by
  have gp : G p = none := by
    cases e : G p with
    | none => rfl
    | some u => have := w.sub _ _ e; rw [hp] at this; cases this
  have hk : ∀ b u, H b = some u → upd H p o b = some u := fun b u e => by rw [upd_ne (ne_of_none e hp)]; exact e
  refine ⟨⟨fun b u e _ _ => hk b u e, fun b u e n => ⟨u, hk b u e, n⟩, fun b u e => e, fun b u e _ n => n⟩, ⟨fun b u e => hk b u (w.sub _ _ e), w.tab.ext hk, w.nt, fun a ha => ?_⟩, gp⟩
  obtain ⟨h1, h2⟩ := w.cup a ha
  exact ⟨hk _ _ h1, h2⟩
/-- a known one -/
theorem Wd.know {c : Option Addr} {H G : Hp} {cu : Cu} (w : Wd K c H G cu) {p : Addr} {o : HO} (hp : H p = some o) (gp : G p = none) (hc : c ≠ some p) (no : ∀ ps, o ≠ .tbl ps := by intro ps z; cases z) : Wd K c H (upd G p o) cu := by
  refine ⟨fun b u e => ?_, w.tab, fun b ps e => ?_, fun a ha => ?_⟩
  · by_cases hb : b = p
    · rw [hb, upd_same] at e; rw [hb, hp]; exact e
    · rw [upd_ne hb] at e; exact w.sub _ _ e
  · by_cases hb : b = p
    · rw [hb, upd_same] at e; exact no ps (Option.some.inj e)
    · rw [upd_ne hb] at e; exact w.nt b ps e
  · obtain ⟨h1, h2⟩ := w.cup a ha
    exact ⟨h1, by rw [upd_ne (fun z => hc (by rw [← z]; exact ha))]; exact h2⟩
/-- a new object, known from now on -/
theorem Wd.new {c : Option Addr} {H G : Hp} {cu : Cu} (w : Wd K c H G cu) {p : Addr} {o : HO} (hp : H p = none) (no : ∀ ps, o ≠ .tbl ps := by intro ps z; cases z) : Ext c H G (upd H p o) (upd G p o) ∧ Wd K c (upd H p o) (upd G p o) cu := by
  obtain ⟨x, w', gp⟩ := w.newH hp no
  refine ⟨⟨x.h, x.hs, fun b u e => by rw [upd_ne (ne_of_none e gp)]; exact e, fun b u e _ n => ?_⟩, w'.know upd_same gp (fun z => ?_) no⟩
  · rw [upd_ne (ne_of_none e hp)]; exact n
  · have := (w.cup p z).1
    rw [hp] at this; cases this
theorem RpL.upd {K : Kx} {G : Hp} {xs : List V} {ds : List PyData} {p : Addr} {o : HO} (r : RpL K G xs ds) (gp : G p = none) : RpL K (upd G p o) xs ds := r.mono fun b u e => by rw [upd_ne (ne_of_none e gp)]; exact e
theorem Wd.gp {c : Option Addr} {H G : Hp} {cu : Cu} (w : Wd K c H G cu) {p : Addr} (hp : H p = none) : G p = none := by
  cases e : G p with
  | none => rfl
  | some u => have := w.sub _ _ e; rw [hp] at this; cases this
/-- a new tuple, a new list -/
theorem new_tup {c : Option Addr} {H G : Hp} {cu : Cu} {p : Addr} {xs : List V} {ds : List PyData} {Q : VK} (w : Wd K c H G cu) (r : RpL K G xs ds) (q : ∀ v' H' G', Ext c H G H' G' → Wd K c H' G' cu → Rp K G' v' (.tuple ds) → Q v' H') (hp : H p = none) : Q (.ref p) (upd H p (.tup xs)) :=
  q _ _ _ (w.new hp).1 (w.new hp).2 (.tup upd_same (r.upd (w.gp hp)))
theorem new_lst {c : Option Addr} {H G : Hp} {cu : Cu} {p : Addr} {xs : List V} {ds : List PyData} {Q : VK} (w : Wd K c H G cu) (r : RpL K G xs ds) (q : ∀ v' H' G', Ext c H G H' G' → Wd K c H' G' cu → Rp K G' v' (.list ds) → Q v' H') (hp : H p = none) : Q (.ref p) (upd H p (.lst xs)) :=
  q _ _ _ (w.new hp).1 (w.new hp).2 (.lst upd_same (r.upd (w.gp hp)))
end
end DL

set_option Elab.async false
set_option linter.all false
set_option maxRecDepth 100000
set_option autoImplicit false
namespace DL
open PySem PySem.Spec PyProof.Rows L2
section
variable {X : Cx} {K : Kx} {E : XK} {a b c e : Expr} {es : List Expr} {ta tb tc te : TE} {t : TA} {ga gb gc ge : GE} {g : GA} {pos : Pos}
/-! ### the operators -/
def dAdd : PyData → PyData → Option PyData
  | .int i, .int j => some (.int (i + j))
  | .tuple xs, .tuple ys => if xs.length + ys.length ≤ 16777216 then some (.tuple (xs ++ ys)) else none
  | .list xs, .list ys => if xs.length + ys.length ≤ 16777216 then some (.list (xs ++ ys)) else none
  | _, _ => none
def rAddD (F : PySem.W.Frag) : R2 := fun x y H Q => rI0 (fun i j => .int (i + j)) x y H Q ∨ (rCatA F x y H Q ∨ rCat x y H Q)
theorem op_addD : OpR X (binaryOp .Add) (rAddD X.K) := OpR.or op_add (OpR.or op_catA op_cat)
theorem opD_add (hKF : K.F = X.K := by assumption) : OpD K (rAddD X.K) dAdd := by
  intro c H G cu v w d e z Q wd r1 r2 hz q
  unfold dAdd at hz
  split at hz
  · cases hz
    exact .inl ⟨_, _, r1.int_of, r2.int_of, q _ H G Ext.refl wd (.int _)⟩
  · split at hz
    · rename_i hl
      cases hz
      obtain ⟨a, xs, rfl, ha, ra⟩ := r1.tup_of
      obtain ⟨b, ys, rfl, hb, rb⟩ := r2.tup_of
      refine .inr (.inl ⟨a, b, xs, ys, rfl, rfl, TupAt.sq' hKF (TupAt.mono wd.sub ha), TupAt.sq' hKF (TupAt.mono wd.sub hb), by rw [ra.length, rb.length, sizeLine_eq]; exact hl, ?_⟩)
      refine ⟨fun ex => ?_, fun hx ey => ?_, fun hx hy p hp => new_tup wd (ra.app rb) q hp⟩
      · subst ex
        cases ra
        exact q _ H G Ext.refl wd (.tupA hb rb)
      · subst ey
        cases rb
        rw [List.append_nil] at q
        exact q _ H G Ext.refl wd (.tupA ha ra)
    · cases hz
  · split at hz
    · rename_i hl
      cases hz
      obtain ⟨a, xs, rfl, ha, ra⟩ := r1.lst_of
      obtain ⟨b, ys, rfl, hb, rb⟩ := r2.lst_of
      exact .inr (.inr ⟨a, b, xs, ys, rfl, rfl, wd.sub _ _ ha, wd.sub _ _ hb, by rw [ra.length, rb.length, sizeLine_eq]; exact hl, fun p hp => new_lst wd (ra.app rb) q hp⟩)
    · cases hz
  · cases hz
theorem opD_sub : OpD K (rI0 fun i j => .int (i - j)) (fI0 fun i j => i - j) := opD_I0
def mulOk (i j : Int) : Bool := decide (i.natAbs < 2 ^ 64) || (decide (j.natAbs < 2 ^ 64) || decide (i.natAbs.log2 + j.natAbs.log2 < 1000000))
theorem RpL.rep {G : Hp} {xs : List V} {ds : List PyData} (r : RpL K G xs ds) : ∀ k : Nat, RpL K G (List.replicate k xs).flatten (List.replicate k ds).flatten
  | 0 => .nil
  | k + 1 => by rw [List.replicate_succ, List.replicate_succ, List.flatten_cons, List.flatten_cons]; exact r.app (RpL.rep r k)
def dMul : PyData → PyData → Option PyData
  | .int i, .int j => if mulOk i j = true then some (.int (i * j)) else none
  | .list xs, .int k => if k ≤ 1000 ∧ -1000 ≤ k ∧ xs.length ≤ 1000 then some (.list (List.replicate k.toNat xs).flatten) else none
  | _, _ => none
def CMulD (i j : Int) : Prop := mulOk i j = true
theorem op_mulD0 : OpR X (binaryOp .Mult) (rI CMulD fun i j => .int (i * j)) := by
  intro pins s σ H x y v u Q I rx ry h
  obtain ⟨i, j, e1, e2, hc, q⟩ := h
  unfold CMulD mulOk at hc
  rw [Bool.or_eq_true, Bool.or_eq_true, decide_eq_true_eq, decide_eq_true_eq, decide_eq_true_eq] at hc
  rcases hc with hc | hc | hc
  · exact op_mul pins s σ H x y v u Q I rx ry ⟨i, j, e1, e2, .inl (by omega), q⟩
  · exact op_mul pins s σ H x y v u Q I rx ry ⟨i, j, e1, e2, .inr (by omega), q⟩
  · exact op_mulW pins s σ H x y v u Q I rx ry ⟨i, j, e1, e2, hc, q⟩
def rMulD : R2 := fun x y H Q => rI CMulD (fun i j => .int (i * j)) x y H Q ∨ rRep x y H Q
theorem op_mulD : OpR X (binaryOp .Mult) rMulD := OpR.or op_mulD0 op_rep
theorem opD_mul : OpD K rMulD dMul := by
  intro c H G cu v w d e z Q wd r1 r2 hz q
  unfold dMul at hz
  split at hz
  · split at hz
    · rename_i hc
      cases hz
      exact .inl ⟨_, _, r1.int_of, r2.int_of, hc, q _ H G Ext.refl wd (.int _)⟩
    · cases hz
  · split at hz
    · rename_i xs k hc
      cases hz
      obtain ⟨a, vs, rfl, ha, ra⟩ := r1.lst_of
      have hl := ra.length
      refine .inr ⟨a, k, vs, rfl, r2.int_of, wd.sub _ _ ha, by omega, by omega, ?_, fun p hp => new_lst wd (ra.rep _) q hp⟩
      rw [hl, sizeLine_eq]
      have h1 : k.toNat ≤ 1000 := by omega
      calc xs.length * k.toNat ≤ 1000 * 1000 := Nat.mul_le_mul hc.2.2 h1
        _ ≤ 16777216 := by decide
    · cases hz
  · cases hz
def divOk (_ j : Int) : Bool := decide (j ≠ 0) && decide (j.natAbs.log2 < 9000)
def CDivD (i j : Int) : Prop := divOk i j = true
theorem op_divD : OpR X (binaryOp .FloorDiv) (rI CDivD fun i j => .int (i.fdiv j)) := opI fun i j _ _ _ _ _ hc q => by
  have hc : divOk i j = true := hc
  unfold divOk at hc
  rw [Bool.and_eq_true, decide_eq_true_eq, decide_eq_true_eq] at hc
  exact floordiv_int hc.1 q (.inl (PyProof.noPylong_of_log2 hc.2))
theorem opD_div : OpD K (rI CDivD fun i j => .int (i.fdiv j)) (fI divOk fun i j => i.fdiv j) := opD_I fun _ _ h => h
def modOk (_ j : Int) : Bool := decide (j ≠ 0)
theorem opD_mod : OpD K (rI (fun _ j => j ≠ 0) fun i j => .int (i.fmod j)) (fI modOk fun i j => i.fmod j) := opD_I fun _ _ h => of_decide_eq_true h
def powOk (i j : Int) : Bool := decide (0 ≤ j) && (decide (j ≤ 1000000) && decide (i.natAbs < 2 ^ 64))
theorem opD_pow : OpD K (rI CPow fun i j => .int (i ^ j.toNat)) (fI powOk fun i j => i ^ j.toNat) := opD_I fun i j h => by
  unfold powOk at h
  rw [Bool.and_eq_true, Bool.and_eq_true, decide_eq_true_eq, decide_eq_true_eq, decide_eq_true_eq] at h
  exact h
theorem opD_lt : OpD K (rI0 fun i j => .bl (decide (i < j))) (fB0 fun i j => decide (i < j)) := opD_B0
theorem opD_le : OpD K (rI0 fun i j => .bl (decide (i ≤ j))) (fB0 fun i j => decide (i ≤ j)) := opD_B0
theorem opD_gt : OpD K (rI0 fun i j => .bl (decide (j < i))) (fB0 fun i j => decide (j < i)) := opD_B0
theorem opD_ge : OpD K (rI0 fun i j => .bl (decide (j ≤ i))) (fB0 fun i j => decide (j ≤ i)) := opD_B0
/-! ==, != -/
def eqD : PyData → PyData → Option Bool
  | .int i, .int j => some (decide (i = j))
  | .str i, .str j => some (decide (i = j))
  | .bool i, .bool j => some (decide (i = j))
  | d, e => if SeqAt.shaped d = true ∧ SeqAt.shaped e = true then some (PyData.eqv d e) else none
def dEq (d e : PyData) : Option PyData := (eqD d e).map .bool
def dNe (d e : PyData) : Option PyData := (eqD d e).map fun b => .bool (!b)
def rEqX (F : PySem.W.Frag) : R2 := fun x y H Q => rEq x y H Q ∨ rEqD F x y H Q
def rNeX (F : PySem.W.Frag) : R2 := fun x y H Q => rNe x y H Q ∨ rNeD F x y H Q
theorem op_eqX (hu : X.A.units + 64 < cLine) : OpR X (compareOp .Eq) (rEqX X.K) := OpR.or op_eq (op_eqD hu)
theorem op_neX (hu : X.A.units + 64 < cLine) : OpR X (compareOp .NotEq) (rNeX X.K) := OpR.or op_ne (op_neD hu)
theorem eq_core {c : Option Addr} {H G : Hp} {cu : Cu} {v w : V} {d e : PyData} {k : Bool} {F : PySem.W.Frag} (hKF : K.F = F) (wd : Wd K c H G cu) (r1 : Rp K G v d) (r2 : Rp K G w e) (hk : eqD d e = some k) :
    (scal v w = true ∧ decide (v = w) = k) ∨ ∃ d' e', Dp F H v d' ∧ Dp F H w e' ∧ SeqAt.shaped d' = true ∧ SeqAt.shaped e' = true ∧ PyData.eqv d' e' = k := by
  unfold eqD at hk
  split at hk
  · cases hk; rw [r1.int_of, r2.int_of]; exact .inl ⟨rfl, by rw [dec_int, Bool.beq_eq_decide_eq]⟩
  · cases hk; rw [r1.str_of, r2.str_of]; exact .inl ⟨rfl, by rw [dec_str, Bool.beq_eq_decide_eq]⟩
  · cases hk; rw [r1.bl_of, r2.bl_of]; exact .inl ⟨rfl, by rw [dec_bl, Bool.beq_eq_decide_eq]⟩
  · split at hk
    · rename_i hs
      cases hk
      exact .inr ⟨_, _, (r1.mono wd.sub).dp hKF, (r2.mono wd.sub).dp hKF, hs.1, hs.2, rfl⟩
    · cases hk
theorem opD_eq (hKF : K.F = X.K := by assumption) : OpD K (rEqX X.K) dEq := by
  intro c H G cu v w d e z Q wd r1 r2 hz q
  unfold dEq at hz
  cases hk : eqD d e with
  | none => rw [hk] at hz; cases hz
  | some k =>
    rw [hk] at hz
    cases hz
    have q' := q (.bl k) H G Ext.refl wd (.bl _)
    rcases eq_core (F := X.K) hKF wd r1 r2 hk with ⟨h1, h2⟩ | ⟨d', e', h1, h2, h3, h4, h5⟩
    · exact .inl ⟨h1, by rw [h2]; exact q'⟩
    · exact .inr ⟨d', e', h1, h2, h3, h4, by rw [h5]; exact q'⟩
theorem opD_ne (hKF : K.F = X.K := by assumption) : OpD K (rNeX X.K) dNe := by
  intro c H G cu v w d e z Q wd r1 r2 hz q
  unfold dNe at hz
  cases hk : eqD d e with
  | none => rw [hk] at hz; cases hz
  | some k =>
    rw [hk] at hz
    cases hz
    have q' := q (.bl !k) H G Ext.refl wd (.bl _)
    rcases eq_core (F := X.K) hKF wd r1 r2 hk with ⟨h1, h2⟩ | ⟨d', e', h1, h2, h3, h4, h5⟩
    · exact .inl ⟨h1, by rw [h2]; exact q'⟩
    · exact .inr ⟨d', e', h1, h2, h3, h4, by rw [h5]; exact q'⟩
/-! is, is not of bools -/
def dIs : PyData → PyData → Option PyData
  | .bool i, .bool j => some (.bool (decide (i = j)))
  | _, _ => none
def dIsNot : PyData → PyData → Option PyData
  | .bool i, .bool j => some (.bool (!decide (i = j)))
  | _, _ => none
theorem opD_is : OpD K rIsB dIs := by
  intro c H G cu v w d e z Q wd r1 r2 hz q
  unfold dIs at hz
  split at hz
  · cases hz; exact ⟨_, _, r1.bl_of, r2.bl_of, q _ H G Ext.refl wd (.bl _)⟩
  · cases hz
theorem opD_isNot : OpD K rNotB dIsNot := by
  intro c H G cu v w d e z Q wd r1 r2 hz q
  unfold dIsNot at hz
  split at hz
  · cases hz; exact ⟨_, _, r1.bl_of, r2.bl_of, q _ H G Ext.refl wd (.bl _)⟩
  · cases hz
/-! xs[i] -/
def dIx : PyData → PyData → Option PyData
  | .tuple xs, .int i => atI xs i
  | .list xs, .int i => atI xs i
  | _, _ => none
theorem atI_rp {G : Hp} {xs : List V} {ds : List PyData} {i : Int} {d : PyData} (r : RpL K G xs ds) (h : atI ds i = some d) : ∃ v, atI xs i = some v ∧ Rp K G v d := by
  unfold atI at h ⊢
  rw [r.length]
  cases e : ixN ds.length i with
  | none => rw [e] at h; cases h
  | some j =>
    rw [e] at h
    exact r.get h
def rIxD (F : PySem.W.Frag) : R2 := fun x y H Q => rIxT F x y H Q ∨ rIxL F x y H Q
theorem ixR_D : IxR X (rIxD X.K) := IxR.or ix_tup ix_list
theorem opD_ix (hKF : K.F = X.K := by assumption) : OpD K (rIxD X.K) dIx := by
  intro c H G cu v w d e z Q wd r1 r2 hz q
  unfold dIx at hz
  split at hz
  · obtain ⟨a, xs, rfl, ha, ra⟩ := r1.tup_of
    obtain ⟨y, e1, ry⟩ := atI_rp ra hz
    exact .inl ⟨a, xs, _, y, rfl, r2.int_of, TupAt.sq' hKF (TupAt.mono wd.sub ha), e1, q _ H G Ext.refl wd ry⟩
  · obtain ⟨a, xs, rfl, ha, ra⟩ := r1.lst_of
    obtain ⟨y, e1, ry⟩ := atI_rp ra hz
    exact .inr ⟨a, xs, _, y, rfl, r2.int_of, SqL.of (wd.sub _ _ ha), e1, q _ H G Ext.refl wd ry⟩
  · cases hz
/-! slices -/
abbrev GO := En → Cu → Rs (Option Int)
def SemO (K : Kx) (E : XK) (t : TO) (g : GO) : Prop := ∀ c H0 G0 σ H G ρ cu (Q : Option Int → Hp → Prop), SRep K c H0 G0 σ H G ρ cu → Post K E c H G (g ρ cu) (fun o H' _ _ => Q o H') → t σ H Q
structure POD (X : Cx) (K : Kx) (E : XK) (e : Option Expr) (t : TO) (g : GO) : Prop where
  po : PO X e t
  sem : SemO K E t g
def gNoPart : GO := fun _ cu => .ok none cu
theorem pod_none : POD X K E none tNoPart gNoPart := ⟨po_none, fun c H0 G0 σ H G ρ cu Q s q => q H G Ext.refl s.wd⟩
def dInt : PyData → Option Int
  | .int i => some i
  | _ => none
def gPart (g : GE) : GO := fun ρ cu => (g ρ cu).bind fun d cu1 => .ofO ((dInt d).map some) cu1
theorem pod_some (h : PD X K E e te ge) : POD X K E (some e) (tPart te) (gPart ge) := by
  refine ⟨po_some h.pe, fun c H0 G0 σ H G ρ cu Q s q => ?_⟩
  refine h.sem c H0 G0 σ H G ρ cu _ s (q.bind.imp fun d H1 G1 cu1 x1 w1 q1 v rv => ?_)
  obtain ⟨o, e, q2⟩ := q1.ofO
  cases d with
  | int i =>
    cases e
    exact ⟨i, rv.int_of, q2 H1 G1 Ext.refl w1⟩
  | _ => cases e
def cutD (xs : List PyData) (lo hi : Option Int) : List PyData := (xs.drop (HT.sIx xs.length 0 lo)).take (HT.sIx xs.length xs.length hi - HT.sIx xs.length 0 lo)
theorem cut_rp {G : Hp} {xs : List V} {ds : List PyData} {lo hi : Option Int} (r : RpL K G xs ds) : RpL K G (cutV xs lo hi) (cutD ds lo hi) := by
  unfold cutV cutD
  rw [r.length]
  exact (r.drop _).take _
def dCut : PyData → Option Int → Option Int → Option PyData
  | .tuple xs, lo, hi => some (.tuple (cutD xs lo hi))
  | .list xs, lo, hi => some (.list (cutD xs lo hi))
  | _, _, _ => none
def gSlice (g : GE) (gl gh : GO) : GE := fun ρ cu => (g ρ cu).bind fun d cu1 => (gl ρ cu1).bind fun lo cu2 => (gh ρ cu2).bind fun hi cu3 => .ofO (dCut d lo hi) cu3
def rSlD (F : PySem.W.Frag) : V → Option Int → Option Int → Hp → VK → Prop := fun x lo hi H Q => rSlA F x lo hi H Q ∨ rSlL F x lo hi H Q
theorem pd_slice {lo hi : Option Expr} {tl th : TO} {gl gh : GO} {p2 : Pos} (he : PD X K E e te ge) (hl : POD X K E lo tl gl) (hh : POD X K E hi th gh) (hKF : K.F = X.K := by assumption) : PD X K E (.Subscript e (.Slice lo hi none p2) pos) (tSl (rSlD X.K) te tl th) (gSlice ge gl gh) := by
  refine ⟨pe_slice (SlR.or sl_tupA sl_list) he.pe hl.po hh.po, fun c H0 G0 σ H G ρ cu Q s q => ?_⟩
  refine he.sem c H0 G0 σ H G ρ cu _ s (q.bind.imp fun d H1 G1 cu1 x1 w1 q1 v rv => ?_)
  have s1 := s.go x1 w1
  refine hl.sem c H0 G0 σ H1 G1 ρ cu1 _ s1 (q1.bind.imp fun lo H2 G2 cu2 x2 w2 q2 => ?_)
  have s2 := s1.go x2 w2
  refine hh.sem c H0 G0 σ H2 G2 ρ cu2 _ s2 (q2.bind.imp fun hi H3 G3 cu3 x3 w3 q3 => ?_)
  obtain ⟨z, ez, q4⟩ := q3.ofO
  have rv3 := rv.mono fun b o e => x3.g _ _ (x2.g _ _ e)
  have q4 : ∀ v' H' G', Ext c H3 G3 H' G' → Wd K c H' G' cu3 → Rp K G' v' z → Q v' H' := fun v' H' G' x w r => q4 H' G' x w v' r
  cases d with
  | tuple ds =>
    cases ez
    obtain ⟨a, xs, rfl, ha, ra⟩ := rv3.tup_of
    refine .inl ⟨a, xs, rfl, TupAt.sq' hKF (TupAt.mono w3.sub ha), fun hw => ?_, fun _ p hp => new_tup w3 (cut_rp ra) q4 hp⟩
    have e : cutD ds lo hi = ds := by
      unfold cutD
      rw [← ra.length, hw.1, hw.2, List.drop_zero, Nat.sub_zero, ra.length, List.take_length]
    rw [e] at q4
    exact q4 _ H3 G3 Ext.refl w3 (.tupA ha ra)
  | list ds =>
    cases ez
    obtain ⟨a, xs, rfl, ha, ra⟩ := rv3.lst_of
    exact .inr ⟨a, xs, rfl, SqL.of (w3.sub _ _ ha), fun p hp => new_lst w3 (cut_rp ra) q4 hp⟩
  | _ => cases ez
/-! one-place operators -/
def dNeg : PyData → Option PyData
  | .int i => some (.int (-i))
  | _ => none
def gUn (f : PyData → Option PyData) (g : GE) : GE := fun ρ cu => (g ρ cu).bind fun d cu1 => .ofO (f d) cu1
theorem pd_neg (ha : PD X K E a ta ga) : PD X K E (.UnaryOp .USub a pos) (tUn (rU fun i => .int (-i)) ta) (gUn dNeg ga) := by
  refine ⟨pe_un un_neg ha.pe, fun c H0 G0 σ H G ρ cu Q s q => ?_⟩
  refine ha.sem c H0 G0 σ H G ρ cu _ s (q.bind.imp fun d H1 G1 cu1 x1 w1 q1 v rv => ?_)
  obtain ⟨z, ez, q2⟩ := q1.ofO
  cases d with
  | int i => cases ez; exact ⟨i, rv.int_of, q2 H1 G1 Ext.refl w1 _ (.int _)⟩
  | _ => cases ez
/-! ### arguments, displays -/
def gaNil : GA := fun _ cu => .ok [] cu
def gaCons (g : GE) (r : GA) : GA := fun ρ cu => (g ρ cu).bind fun d cu1 => (r ρ cu1).bind fun as cu2 => .ok (.dat d :: as) cu2
def gaCup (i : Nat) (r : GA) : GA := fun ρ cu => match ρ[i]? with
  | some .cup => (r ρ cu).bind fun as cu2 => .ok (.cup :: as) cu2
  | _ => .stuck
theorem pad_nil : PAD X K E [] tNil gaNil := ⟨pa_nil, fun c H0 G0 σ H G ρ cu Q s q => q H G Ext.refl s.wd [] .nil⟩
theorem pad_cons (ha : PD X K E e te ge) (hr : PAD X K E es t g) (hs : starEach (e :: es) X.env = (false, eval e X.env) :: starEach es X.env := by rfl) : PAD X K E (e :: es) (tCons te t) (gaCons ge g) := by
  refine ⟨pa_cons ha.pe hr.pa hs, fun c H0 G0 σ H G ρ cu Q s q => ?_⟩
  refine ha.sem c H0 G0 σ H G ρ cu _ s (q.bind.imp fun d H1 G1 cu1 x1 w1 q1 v rv => ?_)
  refine hr.sem c H0 G0 σ H1 G1 ρ cu1 _ (s.go x1 w1) (q1.bind.imp fun as H2 G2 cu2 x2 w2 q2 vs rvs => ?_)
  exact q2 H2 G2 Ext.refl w2 _ (.dat (rv.mono x2.g) rvs)
theorem pad_cup {i : Nat} {x : Str} (h : PE X (.Name x pos) (tVar i)) (hr : PAD X K E es t g) (hs : starEach (.Name x pos :: es) X.env = (false, eval (.Name x pos) X.env) :: starEach es X.env := by rfl) : PAD X K E (.Name x pos :: es) (tCons (tVar i) t) (gaCup i g) := by
  refine ⟨pa_cons h hr.pa hs, fun c H0 G0 σ H G ρ cu Q s q => ?_⟩
  unfold gaCup at q
  split at q
  · rename_i e
    obtain ⟨a, e1, e2⟩ := s.rep.cup i e
    refine ⟨_, e2, hr.sem c H0 G0 σ H G ρ cu _ s (q.bind.imp fun as H2 G2 cu2 x2 w2 q2 vs rvs => ?_)⟩
    exact q2 H2 G2 Ext.refl w2 _ (.cup e1 rvs)
  · exact q.elim
def dats : List Sl → Option (List PyData)
  | [] => some []
  | .dat d :: r => (dats r).map fun ds => d :: ds
  | _ :: _ => none
theorem dats_rp {c : Option Addr} {G : Hp} : ∀ {as : List Sl} {vs : List V} {ds : List PyData}, ArgRp K c G vs as → dats as = some ds → RpL K G vs ds
  | [], _, _, .nil, e => by cases e; exact .nil
  | .dat d :: r, _, ds, .dat h hr, e => by
    have e' : (dats r).map (fun ds => d :: ds) = some ds := e
    cases e2 : dats r with
    | none => rw [e2] at e'; cases e'
    | some ds' =>
      rw [e2] at e'
      cases e'
      exact .cons h (dats_rp hr e2)
  | .cup :: _, _, _, _, e => by cases e
def gDisp (mk : List PyData → PyData) (g : GA) : GE := fun ρ cu => (g ρ cu).bind fun as cu1 => .ofO ((dats as).bind fun ds => if ds.length ≤ 16777216 then some (mk ds) else none) cu1
theorem disp_of {mk : List PyData → PyData} {as : List Sl} {z : PyData} (h : ((dats as).bind fun ds => if ds.length ≤ 16777216 then some (mk ds) else none) = some z) : ∃ ds, dats as = some ds ∧ ds.length ≤ 16777216 ∧ z = mk ds := by
  cases e : dats as with
  | none => rw [e] at h; cases h
  | some ds =>
    rw [e] at h
    have h' : (if ds.length ≤ 16777216 then some (mk ds) else none) = some z := h
    split at h'
    · rename_i hl; cases h'; exact ⟨ds, rfl, hl, rfl⟩
    · cases h'
theorem pd_tup {x1 : Nat} (h : PAD X K E es t g) : PD X K E (.Tuple es x1 pos) (tTup t) (gDisp .tuple g) := by
  refine ⟨pe_tup h.pa, fun c H0 G0 σ H G ρ cu Q s q => ?_⟩
  refine h.sem c H0 G0 σ H G ρ cu _ s (q.bind.imp fun as H1 G1 cu1 x1 w1 q1 vs rvs => ?_)
  obtain ⟨z, ez, q2⟩ := q1.ofO
  obtain ⟨ds, e1, e2, rfl⟩ := disp_of ez
  have r := dats_rp rvs e1
  exact ⟨by rw [r.length, sizeLine_eq]; exact e2, fun p hp => new_tup w1 r (fun v' H' G' x w rr => q2 H' G' x w v' rr) hp⟩
theorem pd_lst (h : PAD X K E es t g) : PD X K E (.List es pos) (tLst t) (gDisp .list g) := by
  refine ⟨pe_lst h.pa, fun c H0 G0 σ H G ρ cu Q s q => ?_⟩
  refine h.sem c H0 G0 σ H G ρ cu _ s (q.bind.imp fun as H1 G1 cu1 x1 w1 q1 vs rvs => ?_)
  obtain ⟨z, ez, q2⟩ := q1.ofO
  obtain ⟨ds, e1, e2, rfl⟩ := disp_of ez
  have r := dats_rp rvs e1
  exact ⟨by rw [r.length, sizeLine_eq]; exact e2, fun p hp => new_lst w1 r (fun v' H' G' x w rr => q2 H' G' x w v' rr) hp⟩
/-! ### built-ins -/
def CallD (K : Kx) (r : List V → Hp → VK → Prop) (f : List PyData → Option PyData) : Prop := ∀ c H G cu vs ds z (Q : VK), Wd K c H G cu → RpL K G vs ds → f ds = some z →
  (∀ v' H' G', Ext c H G H' G' → Wd K c H' G' cu → Rp K G' v' z → Q v' H') → r vs H Q
def gCall (f : List PyData → Option PyData) (g : GA) : GE := fun ρ cu => (g ρ cu).bind fun as cu1 => .ofO ((dats as).bind f) cu1
theorem sem_callB {r : List V → Hp → VK → Prop} {f : List PyData → Option PyData} (hf : CallD K r f) (h : SemA K E t g) : SemE K E (tCB r t) (gCall f g) := by
  intro c H0 G0 σ H G ρ cu Q s q
  refine h c H0 G0 σ H G ρ cu _ s (q.bind.imp fun as H1 G1 cu1 x1 w1 q1 vs rvs => ?_)
  obtain ⟨z, ez, q2⟩ := q1.ofO
  cases e : dats as with
  | none => rw [e] at ez; cases ez
  | some ds =>
    rw [e] at ez
    exact hf c H1 G1 cu1 vs ds z Q w1 (dats_rp rvs e) ez fun v' H' G' x w rr => q2 H' G' x w v' rr
theorem pd_callB {id : String} {x : Str} {p : Pos} {r : List V → Hp → VK → Prop} {f : List PyData → Option PyData} (hc : CallR X (.builtin id) r) (hf : CallD K r f) (hg : Gl X x) (hm : X.mg x = none) (hv : bootBuiltins x = some (.builtin id)) (ha : PAD X K E (e :: es) t g)
    (hn : x ≠ "__name__" := by decide) (hdb : (x == ("__debug__" : Str)) = false := by decide)
    (he : starEach (e :: es) X.env = (false, eval e X.env) :: starEach es X.env := by rfl) (hpl : (backTo pos (starEach es X.env)).any (·.1) = false := by rfl) : PD X K E (.Call (.Name x p) (e :: es) [] pos) (tCB r t) (gCall f g) :=
  ⟨pe_callB hc hg hm hv ha.pa hn hdb he hpl, sem_callB hf ha.sem⟩
theorem pd_callTy {T : String} {x : Str} {p : Pos} {r : List V → Hp → VK → Prop} {f : List PyData → Option PyData} (hc : CallR X (.type T) r) (hf : CallD K r f) (hg : Gl X x) (hm : X.mg x = none) (hv : bootBuiltins x = some (.type T)) (ha : PAD X K E (e :: es) t g)
    (hn : x ≠ "__name__" := by decide) (hdb : (x == ("__debug__" : Str)) = false := by decide)
    (he : starEach (e :: es) X.env = (false, eval e X.env) :: starEach es X.env := by rfl) (hpl : (backTo pos (starEach es X.env)).any (·.1) = false := by rfl) : PD X K E (.Call (.Name x p) (e :: es) [] pos) (tCB r t) (gCall f g) :=
  ⟨pe_callTy hc hg hm hv ha.pa hn hdb he hpl, sem_callB hf ha.sem⟩
theorem RpL.one {G : Hp} {vs : List V} {d : PyData} (r : RpL K G vs [d]) : ∃ v, vs = [v] ∧ Rp K G v d := by cases r with | cons h r => cases r; exact ⟨_, rfl, h⟩
theorem RpL.two {G : Hp} {vs : List V} {d e : PyData} (r : RpL K G vs [d, e]) : ∃ v w, vs = [v, w] ∧ Rp K G v d ∧ Rp K G w e := by
  cases r with
  | cons h r => obtain ⟨w, rfl, h2⟩ := r.one; exact ⟨_, _, rfl, h, h2⟩
def dAbs : List PyData → Option PyData
  | [.int i] => some (.int (if i < 0 then -i else i))
  | _ => none
theorem callD_abs : CallD K (fun xs H Q => ∃ i, xs = [.int i] ∧ Q (.int (if i < 0 then -i else i)) H) dAbs := by
  intro c H G cu vs ds z Q wd r hz q
  unfold dAbs at hz
  split at hz
  · cases hz; obtain ⟨v, rfl, rv⟩ := r.one; rw [rv.int_of]; exact ⟨_, rfl, q _ H G Ext.refl wd (.int _)⟩
  · cases hz
def dLen : List PyData → Option PyData
  | [.tuple xs] => some (.int (xs.length : Int))
  | [.list xs] => some (.int (xs.length : Int))
  | _ => none
theorem callD_len (hKF : K.F = X.K := by assumption) : CallD K (fun xs H Q => ∃ p ys, xs = [.ref p] ∧ (SqL X.K H p ys ∨ SqT X.K H p ys) ∧ Q (.int ys.length) H) dLen := by
  intro c H G cu vs ds z Q wd r hz q
  unfold dLen at hz
  split at hz
  · cases hz
    obtain ⟨v, rfl, rv⟩ := r.one
    obtain ⟨a, xs, rfl, ha, ra⟩ := rv.tup_of
    exact ⟨a, xs, rfl, .inr (TupAt.sq' hKF (TupAt.mono wd.sub ha)), by rw [ra.length]; exact q _ H G Ext.refl wd (.int _)⟩
  · cases hz
    obtain ⟨v, rfl, rv⟩ := r.one
    obtain ⟨a, xs, rfl, ha, ra⟩ := rv.lst_of
    exact ⟨a, xs, rfl, .inl (SqL.of (wd.sub _ _ ha)), by rw [ra.length]; exact q _ H G Ext.refl wd (.int _)⟩
  · cases hz
def dToInt : List PyData → Option PyData
  | [.int i] => some (.int i)
  | [.bool k] => some (.int (if k then 1 else 0))
  | _ => none
theorem callD_int : CallD K (fun xs H Q => (∃ i, xs = [.int i] ∧ Q (.int i) H) ∨ ∃ k, xs = [.bl k] ∧ Q (.int (if k then 1 else 0)) H) dToInt := by
  intro c H G cu vs ds z Q wd r hz q
  unfold dToInt at hz
  split at hz
  · cases hz; obtain ⟨v, rfl, rv⟩ := r.one; rw [rv.int_of]; exact .inl ⟨_, rfl, q _ H G Ext.refl wd (.int _)⟩
  · cases hz; obtain ⟨v, rfl, rv⟩ := r.one; rw [rv.bl_of]; exact .inr ⟨_, rfl, q _ H G Ext.refl wd (.int _)⟩
  · cases hz
def dMin2 : List PyData → Option PyData
  | [.int i, .int j] => some (.int (if j < i then j else i))
  | _ => none
def dMax2 : List PyData → Option PyData
  | [.int i, .int j] => some (.int (if j > i then j else i))
  | _ => none
theorem callD_min2 : CallD K (fun xs H Q => ∃ i j, xs = [.int i, .int j] ∧ Q (.int (if j < i then j else i)) H) dMin2 := by
  intro c H G cu vs ds z Q wd r hz q
  unfold dMin2 at hz
  split at hz
  · cases hz; obtain ⟨v, w, rfl, rv, rw'⟩ := r.two; rw [rv.int_of, rw'.int_of]; exact ⟨_, _, rfl, q _ H G Ext.refl wd (.int _)⟩
  · cases hz
theorem callD_max2 : CallD K (fun xs H Q => ∃ i j, xs = [.int i, .int j] ∧ Q (.int (if j > i then j else i)) H) dMax2 := by
  intro c H G cu vs ds z Q wd r hz q
  unfold dMax2 at hz
  split at hz
  · cases hz; obtain ⟨v, w, rfl, rv, rw'⟩ := r.two; rw [rv.int_of, rw'.int_of]; exact ⟨_, _, rfl, q _ H G Ext.refl wd (.int _)⟩
  · cases hz
def dToTup : List PyData → Option PyData
  | [.list xs] => some (.tuple xs)
  | [.tuple xs] => some (.tuple xs)
  | _ => none
theorem callD_tuple (hKF : K.F = X.K := by assumption) : CallD K (fun xs H Q => ∃ p ys, xs = [.ref p] ∧ ((SqL X.K H p ys ∧ ∀ l, H l = none → Q (.ref l) (upd H l (.tup ys))) ∨ (SqT X.K H p ys ∧ Q (.ref p) H))) dToTup := by
  intro c H G cu vs ds z Q wd r hz q
  unfold dToTup at hz
  split at hz
  · cases hz
    obtain ⟨v, rfl, rv⟩ := r.one
    obtain ⟨a, xs, rfl, ha, ra⟩ := rv.lst_of
    exact ⟨a, xs, rfl, .inl ⟨SqL.of (wd.sub _ _ ha), fun p hp => new_tup wd ra q hp⟩⟩
  · cases hz
    obtain ⟨v, rfl, rv⟩ := r.one
    obtain ⟨a, xs, rfl, ha, ra⟩ := rv.tup_of
    exact ⟨a, xs, rfl, .inr ⟨TupAt.sq' hKF (TupAt.mono wd.sub ha), q _ H G Ext.refl wd (.tupA ha ra)⟩⟩
  · cases hz
def dToLst : List PyData → Option PyData
  | [.list xs] => some (.list xs)
  | [.tuple xs] => some (.list xs)
  | _ => none
theorem callD_list (hKF : K.F = X.K := by assumption) : CallD K (fun xs H Q => ∃ p ys, xs = [.ref p] ∧ (SqL X.K H p ys ∨ SqT X.K H p ys) ∧ ∀ l, H l = none → Q (.ref l) (upd H l (.lst ys))) dToLst := by
  intro c H G cu vs ds z Q wd r hz q
  unfold dToLst at hz
  split at hz
  · cases hz
    obtain ⟨v, rfl, rv⟩ := r.one
    obtain ⟨a, xs, rfl, ha, ra⟩ := rv.lst_of
    exact ⟨a, xs, rfl, .inl (SqL.of (wd.sub _ _ ha)), fun p hp => new_lst wd ra q hp⟩
  · cases hz
    obtain ⟨v, rfl, rv⟩ := r.one
    obtain ⟨a, xs, rfl, ha, ra⟩ := rv.tup_of
    exact ⟨a, xs, rfl, .inr (TupAt.sq' hKF (TupAt.mono wd.sub ha)), fun p hp => new_lst wd ra q hp⟩
  · cases hz
/-! isinstance -/
def tyName : PyData → Option String
  | .none => some "NoneType"
  | .bool _ => some "bool"
  | .int _ => some "int"
  | .str _ => some "str"
  | .list _ => some "list"
  | .tuple _ => some "tuple"
  | .dict _ => none
def isiOf (T : String) (d : PyData) : Option Bool := (tyName d).bind fun n => kitB n T
def gIsi (T : String) (g : GE) : GE := fun ρ cu => (g ρ cu).bind fun d cu1 => .ofO ((isiOf T d).map .bool) cu1
theorem tyX_of {F : PySem.W.Frag} (hKF : K.F = F) {H : Hp} {v : V} {d : PyData} {n : String} (r : Rp K H v d) (h : tyName d = some n) : TyX F H v (.type n) := by
  cases r with
  | non => cases h; exact .base .non
  | bl b => cases h; exact .base (.bl b)
  | int i => cases h; exact .base (.int i)
  | str x => cases h; exact .base (.str x)
  | lst e _ => cases h; exact .base (.lst e)
  | tupA e _ =>
    cases h
    rcases e with e | ⟨o, its, n, hk, hc, _⟩
    · exact .base (.tup e)
    · exact .kTuple (hKF ▸ hk) hc
theorem pd_isi {T : String} {x : Str} {p p' : Pos} (he : PD X K E e te ge) (hg : Gl X "isinstance") (hm : X.mg "isinstance" = none) (hT : Gl X x) (hmT : X.mg x = none) (hv : bootBuiltins x = some (.type T)) (hn : x ≠ "__name__" := by decide) (hdb : (x == ("__debug__" : Str)) = false := by decide)
    (h1 : starEach [e, .Name x p'] X.env = (false, eval e X.env) :: starEach [.Name x p'] X.env := by rfl) (h2 : starEach [.Name x p'] X.env = (false, eval (.Name x p') X.env) :: starEach [] X.env := by rfl) (hpl : (backTo pos (starEach [.Name x p'] X.env)).any (·.1) = false := by rfl) (hKF : K.F = X.K := by assumption) :
    PD X K E (.Call (.Name "isinstance" p) [e, .Name x p'] [] pos) (tCB (rIsi X.K) (tCons te (tCons (tC (.ty T)) tNil))) (gIsi T ge) := by
  refine ⟨pe_callB call_isi hg hm (by decide +kernel) (pa_cons he.pe (pa_cons (pe_bltn hT hmT hv rfl hn hdb) pa_nil h2) h1) (by decide) (by decide) h1 hpl, fun c H0 G0 σ H G ρ cu Q s q => ?_⟩
  refine he.sem c H0 G0 σ H G ρ cu _ s (q.bind.imp fun d H1 G1 cu1 x1 w1 q1 v rv => ?_)
  obtain ⟨z, ez, q2⟩ := q1.ofO
  unfold isiOf at ez
  cases e1 : tyName d with
  | none => rw [e1] at ez; cases ez
  | some n =>
    rw [e1] at ez
    cases e2 : kitB n T with
    | none =>
      have ez' : (kitB n T).map PyData.bool = some z := ez
      rw [e2] at ez'; cases ez'
    | some k =>
      have ez' : (kitB n T).map PyData.bool = some z := ez
      rw [e2] at ez'
      cases ez'
      exact ⟨v, .ty T, _, _, k, rfl, .ty T, tyX_of hKF (rv.mono w1.sub) e1, kit_ty e2, q2 H1 G1 Ext.refl w1 _ (.bl _)⟩
end
end DL

set_option Elab.async false
set_option linter.all false
set_option maxRecDepth 100000
set_option autoImplicit false
namespace DL
open PySem PySem.Spec PyProof.Rows L2
section
variable {X : Cx} {K : Kx} {E : XK} {a b c e : Expr} {es rest : List Expr} {ta tb tc te : TE} {tt tu : TT} {t : TA} {ga gb gc ge : GE} {gt gu : GT} {g : GA} {pos : Pos}
/-! ### tests -/
def dTru : PyData → Option Bool
  | .none => some false
  | .bool b => some b
  | .int i => some (i != 0)
  | .list xs => some (!xs.isEmpty)
  | .tuple xs => some (!xs.isEmpty)
  | _ => none
theorem tru_of {F : PySem.W.Frag} (hKF : K.F = F) {H : Hp} {v : V} {d : PyData} {k : Bool} (r : Rp K H v d) (h : dTru d = some k) : TruV F v H k := by
  have hem : ∀ {xs : List V} {ds : List PyData}, RpL K H xs ds → (!ds.isEmpty) = !xs.isEmpty := fun r => by cases r <;> rfl
  cases r with
  | non => cases h; rfl
  | bl b => cases h; rfl
  | int i => cases h; rfl
  | str x => cases h
  | lst e r => cases h; exact .inl ⟨_, SqL.of e, hem r⟩
  | tupA e r => cases h; exact .inr (.inl ⟨_, e.sq' hKF, hem r⟩)
def gTru (g : GE) : GT := fun ρ cu => (g ρ cu).bind fun d cu1 => .ofO (dTru d) cu1
theorem ptd_truth (h : PD X K E e te ge) (he : ∀ whole, isTrue e X.env whole = (do let v ← whole; standAt e.pos; holding [v] (truthy v)) := by intro _; rfl) (hKF : K.F = X.K := by assumption) :
    PTD X K E e (fun σ H Q => te σ H fun x H' => ∃ k, TruV X.K x H' k ∧ Q k H') (gTru ge) := by
  refine ⟨pt_truth h.pe he, fun c H0 G0 σ H G ρ cu Q s q => ?_⟩
  refine h.sem c H0 G0 σ H G ρ cu _ s (q.bind.imp fun d H1 G1 cu1 x1 w1 q1 v rv => ?_)
  obtain ⟨k, ek, q2⟩ := q1.ofO
  exact ⟨k, tru_of hKF (rv.mono w1.sub) ek, q2 H1 G1 Ext.refl w1⟩
def dBool : PyData → Option Bool
  | .bool b => some b
  | _ => none
def gBool (g : GE) : GT := fun ρ cu => (g ρ cu).bind fun d cu1 => .ofO (dBool d) cu1
theorem sem_test (h : SemE K E te ge) : SemT K E (tTest te) (gBool ge) := by
  intro c H0 G0 σ H G ρ cu Q s q
  refine h c H0 G0 σ H G ρ cu _ s (q.bind.imp fun d H1 G1 cu1 x1 w1 q1 v rv => ?_)
  obtain ⟨k, ek, q2⟩ := q1.ofO
  cases d with
  | bool b => cases ek; exact ⟨_, rv.bl_of, q2 H1 G1 Ext.refl w1⟩
  | _ => cases ek
theorem ptd_cmp {op : CmpOp} {r : R2} {f : PyData → PyData → Option PyData} (ho : OpR X (compareOp op) r) (hf : OpD K r f) (ha : PD X K E a ta ga) (hb : PD X K E b tb gb) (hm : behindInMarks op b = false) : PTD X K E (.Compare a [op] [b] pos) (tTest (tOp r ta tb)) (gBool (gBin f ga gb)) :=
  ⟨pt_cmpR ho ha.pe hb.pe hm, sem_test (sem_op hf ha.sem hb.sem)⟩
def gChain (f f' : PyData → PyData → Option PyData) (ga gb gc : GE) : GE := fun ρ cu => (ga ρ cu).bind fun a cu1 => (gb ρ cu1).bind fun b cu2 => (Rs.ofO ((f a b).bind dBool) cu2).bind fun k cu3 =>
  if k = true then (gc ρ cu3).bind fun d cu4 => .ofO (f' b d) cu4 else .ok (.bool false) cu3
theorem sem_chain {r r' : R2} {f f' : PyData → PyData → Option PyData} (hf : OpD K r f) (hf' : OpD K r' f') (ha : SemE K E ta ga) (hb : SemE K E tb gb) (hc : SemE K E tc gc) : SemE K E (tChain r r' ta tb tc) (gChain f f' ga gb gc) := by
  intro c H0 G0 σ H G ρ cu Q s q
  refine ha c H0 G0 σ H G ρ cu _ s (q.bind.imp fun a H1 G1 cu1 x1 w1 q1 v rv => ?_)
  have s1 := s.go x1 w1
  refine hb c H0 G0 σ H1 G1 ρ cu1 _ s1 (q1.bind.imp fun b H2 G2 cu2 x2 w2 q2 w rw' => ?_)
  have s2 := s1.go x2 w2
  obtain ⟨k, ek, q3⟩ := q2.bind.ofO
  cases ez : f a b with
  | none => rw [ez] at ek; cases ek
  | some z =>
    rw [ez] at ek
    have ek : dBool z = some k := ek
    cases z with
    | bool kk =>
      cases ek
      refine hf c H2 G2 cu2 v w a b _ _ w2 (rv.mono x2.g) rw' ez fun v' H3 G3 x3 w3 rz => ?_
      refine ⟨k, rz.bl_of, ?_⟩
      have q4 := q3 H3 G3 x3 w3
      cases k with
      | true =>
        rw [if_pos rfl] at q4 ⊢
        refine hc c H0 G0 σ H3 G3 ρ cu2 _ (s2.go x3 w3) (q4.bind.imp fun d H4 G4 cu4 x4 w4 q5 y ry => ?_)
        obtain ⟨z, e, q6⟩ := q5.ofO
        exact hf' c H4 G4 cu4 w y b d z Q w4 (rw'.mono fun b o e => x4.g _ _ (x3.g _ _ e)) ry e fun v' H' G' x w => q6 H' G' x w v'
      | false =>
        rw [if_neg Bool.false_ne_true] at q4 ⊢
        exact q4 H3 G3 Ext.refl w3 _ (.bl _)
    | _ => cases ek
theorem pd_chain {op op' : CmpOp} {r r' : R2} {f f' : PyData → PyData → Option PyData} (ho : OpR X (compareOp op) r) (hf : OpD K r f) (ho' : OpR X (compareOp op') r') (hf' : OpD K r' f') (ha : PD X K E a ta ga) (hb : PD X K E b tb gb) (hc : PD X K E c tc gc)
    (hm : lastMarks [op, op'] [b, c] = false := by with_unfolding_all rfl) : PD X K E (.Compare a [op, op'] [b, c] pos) (tChain r r' ta tb tc) (gChain f f' ga gb gc) := ⟨pe_chain ho ho' ha.pe hb.pe hc.pe hm, sem_chain hf hf' ha.sem hb.sem hc.sem⟩
theorem ptd_chain {op op' : CmpOp} {r r' : R2} {f f' : PyData → PyData → Option PyData} (ho : OpR X (compareOp op) r) (hf : OpD K r f) (ho' : OpR X (compareOp op') r') (hf' : OpD K r' f') (ha : PD X K E a ta ga) (hb : PD X K E b tb gb) (hc : PD X K E c tc gc)
    (hm : lastMarks [op, op'] [b, c] = false := by with_unfolding_all rfl) : PTD X K E (.Compare a [op, op'] [b, c] pos) (tTest (tChain r r' ta tb tc)) (gBool (gChain f f' ga gb gc)) := ⟨pt_chain ho ho' ha.pe hb.pe hc.pe hm, sem_test (sem_chain hf hf' ha.sem hb.sem hc.sem)⟩
/-! and, or, not -/
def gAnd (g u : GT) : GT := fun ρ cu => (g ρ cu).bind fun b cu1 => if b = true then u ρ cu1 else .ok false cu1
def gOr (g u : GT) : GT := fun ρ cu => (g ρ cu).bind fun b cu1 => if b = true then .ok true cu1 else u ρ cu1
def gNot (g : GT) : GT := fun ρ cu => (g ρ cu).bind fun b cu1 => .ok (!b) cu1
theorem PWD.pt {e : Expr} (h : PWD X K E e tt gt) : PTD X K E e tt gt := ⟨h.pw.pt, h.sem⟩
theorem pwd_and1 (h : PTD X K E a tt gt) : PWD X K E (.BoolOp .And [a] pos) tt gt := ⟨pw_and1 h.pt, h.sem⟩
theorem pwd_or1 (h : PTD X K E a tt gt) : PWD X K E (.BoolOp .Or [a] pos) tt gt := ⟨pw_or1 h.pt, h.sem⟩
theorem pwd_and (h : PTD X K E a tt gt) (h' : PWD X K E (.BoolOp .And (b :: rest) pos) tu gu) : PWD X K E (.BoolOp .And (a :: b :: rest) pos) (tAnd tt tu) (gAnd gt gu) := by
  refine ⟨pw_and h.pt h'.pw, fun c H0 G0 σ H G ρ cu Q s q => ?_⟩
  refine h.sem c H0 G0 σ H G ρ cu _ s (q.bind.imp fun k H1 G1 cu1 x1 w1 q1 => ?_)
  cases k with
  | true => rw [if_pos rfl] at q1 ⊢; exact h'.sem c H0 G0 σ H1 G1 ρ cu1 _ (s.go x1 w1) q1
  | false => rw [if_neg Bool.false_ne_true] at q1 ⊢; exact q1 H1 G1 Ext.refl w1
theorem pwd_or (h : PTD X K E a tt gt) (h' : PWD X K E (.BoolOp .Or (b :: rest) pos) tu gu) : PWD X K E (.BoolOp .Or (a :: b :: rest) pos) (tOr tt tu) (gOr gt gu) := by
  refine ⟨pw_or h.pt h'.pw, fun c H0 G0 σ H G ρ cu Q s q => ?_⟩
  refine h.sem c H0 G0 σ H G ρ cu _ s (q.bind.imp fun k H1 G1 cu1 x1 w1 q1 => ?_)
  cases k with
  | true => rw [if_pos rfl] at q1 ⊢; exact q1 H1 G1 Ext.refl w1
  | false => rw [if_neg Bool.false_ne_true] at q1 ⊢; exact h'.sem c H0 G0 σ H1 G1 ρ cu1 _ (s.go x1 w1) q1
theorem ptd_not (h : PTD X K E a tt gt) : PTD X K E (.UnaryOp .Not a pos) (tNot tt) (gNot gt) := by
  refine ⟨pt_not h.pt, fun c H0 G0 σ H G ρ cu Q s q => ?_⟩
  exact h.sem c H0 G0 σ H G ρ cu _ s (q.bind.imp fun k H1 G1 cu1 x1 w1 q1 => q1 H1 G1 Ext.refl w1)
/-! .. as values -/
def gAndV (ga gb : GE) : GE := fun ρ cu => (ga ρ cu).bind fun d cu1 => (Rs.ofO (dBool d) cu1).bind fun k cu2 => if k = true then gb ρ cu2 else .ok (.bool false) cu2
def gOrV (ga gb : GE) : GE := fun ρ cu => (ga ρ cu).bind fun d cu1 => (Rs.ofO (dBool d) cu1).bind fun k cu2 => if k = true then .ok (.bool true) cu2 else gb ρ cu2
theorem pd_one {op : BoolOp} (h : PD X K E a ta ga) : PD X K E (.BoolOp op [a] pos) ta ga := ⟨pe_one h.pe, h.sem⟩
theorem pd_and (h : PD X K E a ta ga) (h' : PD X K E (.BoolOp .And (b :: rest) pos) tb gb) : PD X K E (.BoolOp .And (a :: b :: rest) pos) (tAndV ta tb) (gAndV ga gb) := by
  refine ⟨pe_and h.pe h'.pe, fun c H0 G0 σ H G ρ cu Q s q => ?_⟩
  refine h.sem c H0 G0 σ H G ρ cu _ s (q.bind.imp fun d H1 G1 cu1 x1 w1 q1 v rv => ?_)
  obtain ⟨k, ek, q2⟩ := q1.bind.ofO
  cases d with
  | bool kk =>
    cases ek
    refine ⟨k, rv.bl_of, ?_⟩
    have q3 := q2 H1 G1 Ext.refl w1
    cases k with
    | true => rw [if_pos rfl] at q3 ⊢; exact h'.sem c H0 G0 σ H1 G1 ρ cu1 _ (s.go x1 w1) q3
    | false => rw [if_neg Bool.false_ne_true] at q3 ⊢; exact q3 H1 G1 Ext.refl w1 _ (.bl _)
  | _ => cases ek
theorem pd_or (h : PD X K E a ta ga) (h' : PD X K E (.BoolOp .Or (b :: rest) pos) tb gb) : PD X K E (.BoolOp .Or (a :: b :: rest) pos) (tOrV ta tb) (gOrV ga gb) := by
  refine ⟨pe_or h.pe h'.pe, fun c H0 G0 σ H G ρ cu Q s q => ?_⟩
  refine h.sem c H0 G0 σ H G ρ cu _ s (q.bind.imp fun d H1 G1 cu1 x1 w1 q1 v rv => ?_)
  obtain ⟨k, ek, q2⟩ := q1.bind.ofO
  cases d with
  | bool kk =>
    cases ek
    refine ⟨k, rv.bl_of, ?_⟩
    have q3 := q2 H1 G1 Ext.refl w1
    cases k with
    | true => rw [if_pos rfl] at q3 ⊢; exact q3 H1 G1 Ext.refl w1 _ (.bl _)
    | false => rw [if_neg Bool.false_ne_true] at q3 ⊢; exact h'.sem c H0 G0 σ H1 G1 ρ cu1 _ (s.go x1 w1) q3
  | _ => cases ek
def gNotV (ga : GE) : GE := fun ρ cu => (ga ρ cu).bind fun d cu1 => (Rs.ofO (dBool d) cu1).bind fun k cu2 => .ok (.bool (!k)) cu2
theorem pd_not (h : PD X K E a ta ga) : PD X K E (.UnaryOp .Not a pos) (tNotV ta) (gNotV ga) := by
  refine ⟨pe_not h.pe, fun c H0 G0 σ H G ρ cu Q s q => ?_⟩
  refine h.sem c H0 G0 σ H G ρ cu _ s (q.bind.imp fun d H1 G1 cu1 x1 w1 q1 v rv => ?_)
  obtain ⟨k, ek, q2⟩ := q1.bind.ofO
  cases d with
  | bool kk =>
    cases ek
    exact ⟨k, rv.bl_of, q2 H1 G1 Ext.refl w1 H1 G1 Ext.refl w1 _ (.bl _)⟩
  | _ => cases ek
def gIfE (gt : GT) (ga gb : GE) : GE := fun ρ cu => (gt ρ cu).bind fun k cu1 => if k = true then ga ρ cu1 else gb ρ cu1
theorem pd_ifExp (hc : PTD X K E c tt gt) (ha : PD X K E a ta ga) (hb : PD X K E b tb gb) : PD X K E (.IfExp c a b pos) (tIf tt ta tb) (gIfE gt ga gb) := by
  refine ⟨pe_ifExp hc.pt ha.pe hb.pe, fun c H0 G0 σ H G ρ cu Q s q => ?_⟩
  refine hc.sem c H0 G0 σ H G ρ cu _ s (q.bind.imp fun k H1 G1 cu1 x1 w1 q1 => ?_)
  cases k with
  | true => rw [if_pos rfl] at q1 ⊢; exact ha.sem c H0 G0 σ H1 G1 ρ cu1 _ (s.go x1 w1) q1
  | false => rw [if_neg Bool.false_ne_true] at q1 ⊢; exact hb.sem c H0 G0 σ H1 G1 ρ cu1 _ (s.go x1 w1) q1
/-! ### the cup read -/
def gCup (i : Nat) (k : Bool) : GE := fun ρ cu => match ρ[i]? with
  | some .cup => .ok (.int (if k = true then cu.2 else cu.1)) cu
  | _ => .stuck
theorem pd_cup {i : Nat} {x : Str} {p p2 : Pos} {j : Nat} (h : PE X (.Name x p) (tVar i)) (k : Bool) {z : Int} (hz : z = (if k = true then 1 else 0)) (hs : PlainIx (.Constant (.int z) j p2)) :
    PD X K E (.Subscript (.Name x p) (.Constant (.int z) j p2) pos) (tOp (rIxL X.K) (tVar i) (tC (.int z))) (gCup i k) := by
  refine ⟨pe_ix ix_list h pe_int hs, fun c H0 G0 σ H G ρ cu Q s q => ?_⟩
  unfold gCup at q
  split at q
  · rename_i e
    obtain ⟨a, e1, e2⟩ := s.rep.cup i e
    obtain ⟨h1, h2⟩ := s.wd.cup a e1
    refine ⟨_, e2, a, _, z, .int (if k = true then cu.2 else cu.1), rfl, rfl, SqL.of h1, ?_, q H G Ext.refl s.wd _ (.int _)⟩
    subst hz
    cases k with
    | true => exact atI_nat (j := 1) rfl
    | false => exact atI_nat (j := 0) rfl
  · exact q.elim
/-! ### calls of defs -/
/-- what a def keeps -/
abbrev GF := List Sl → Cu → Rs PyData
def spG (K : Kx) (n : Nat) (g : GF) : Sp := fun vs H Q E => ∃ c G as cu, as.length = n ∧ Wd K c H G cu ∧ ArgRp K c G vs as ∧ Post K E c H G (g as cu) (QD K Q)
def gApp (n : Nat) (f : GF) (g : GA) : GE := fun ρ cu => (g ρ cu).bind fun as cu1 => if as.length = n then f as cu1 else .stuck
theorem pd_call {k n : Nat} {f : Addr} {fd : FuncData} {ps : List Str} {x : Str} {p : Pos} {gf : GF} (F : FnOk X.prog X.w X.K X.mg X.base (L2.CX X.prog X.w) k f fd ps (spG K n gf)) (hr : Room k X.A) (hg : Gl X x) (hm : X.mg x = some (.ref f)) (hk : PySem.W.keepIn X.K (.ref f) = true) (hb : Binds X.K fd ps [])
    (hx : Passes (L2.CX X.prog X.w) X E) (ha : PAD X K E (e :: es) t g) (hdb : (x == ("__debug__" : Str)) = false := by decide) (he : starEach (e :: es) X.env = (false, eval e X.env) :: starEach es X.env := by rfl) (hpl : (backTo pos (starEach es X.env)).any (·.1) = false := by rfl) :
    PD X K E (.Call (.Name x p) (e :: es) [] pos) (tCall (spG K n gf) [] E t) (gApp n gf g) := by
  refine ⟨pe_call F hr hg hm hk hb .nil hx ha.pa hdb he hpl, fun c H0 G0 σ H G ρ cu Q s q => ?_⟩
  refine ha.sem c H0 G0 σ H G ρ cu _ s (q.bind.imp fun as H1 G1 cu1 x1 w1 q1 vs rvs => ?_)
  split at q1
  · rename_i hn
    exact ⟨c, G1, as, cu1, hn, w1, by rw [List.append_nil]; exact rvs, q1⟩
  · exact q1.elim
theorem pd_call0 {k : Nat} {f : Addr} {fd : FuncData} {ps : List Str} {x : Str} {p : Pos} {gf : GF} (F : FnOk X.prog X.w X.K X.mg X.base (L2.CX X.prog X.w) k f fd ps (spG K 0 gf)) (hr : Room k X.A) (hg : Gl X x) (hm : X.mg x = some (.ref f)) (hk : PySem.W.keepIn X.K (.ref f) = true) (hb : Binds X.K fd ps [])
    (hx : Passes (L2.CX X.prog X.w) X E) (hdb : (x == ("__debug__" : Str)) = false := by decide) : PD X K E (.Call (.Name x p) [] [] pos) (tCall (spG K 0 gf) [] E tNil) (fun _ cu => gf [] cu) := by
  refine ⟨pe_call0 F hr hg hm hk hb .nil hx hdb, fun c H0 G0 σ H G ρ cu Q s q => ?_⟩
  exact ⟨c, G, [], cu, rfl, s.wd, .nil, q⟩
end

/-! ### statements -/
inductive Ou where
  | nx (ρ : En) | ret (d : PyData) | brk (ρ : En) | ct (ρ : En)
abbrev GS := En → Cu → Rs Ou
def PostS (K : Kx) (E : XK) (c : Option Addr) (H0 G0 : Hp) (r : Rs Ou) (D : Ends) : Prop := match r with
  | .stuck => False
  | .exc k cu' => ∀ H' G', Ext c H0 G0 H' G' → Wd K c H' G' cu' → E (.ref (K.CL k)) none H'
  | .ok (.nx ρ') cu' => ∀ σ' H' G', SRep K c H0 G0 σ' H' G' ρ' cu' → D.nx σ' H'
  | .ok (.ret d) cu' => ∀ v H' G', Ext c H0 G0 H' G' → Wd K c H' G' cu' → Rp K G' v d → D.rt v H'
  | .ok (.brk ρ') cu' => ∀ σ' H' G', SRep K c H0 G0 σ' H' G' ρ' cu' → D.bk σ' H'
  | .ok (.ct ρ') cu' => ∀ σ' H' G', SRep K c H0 G0 σ' H' G' ρ' cu' → D.ct σ' H'
def SemS (K : Kx) (E : XK) (t : TS) (g : GS) : Prop := ∀ c H0 G0 σ H G ρ cu D, SRep K c H0 G0 σ H G ρ cu → PostS K E c H0 G0 (g ρ cu) D → t D σ H
structure PSD (X : Cx) (K : Kx) (E : XK) (st : Stmt) (t : TS) (g : GS) : Prop where
  ps : PS X st t
  sem : SemS K E t g
structure PSsD (X : Cx) (K : Kx) (E : XK) (st : List Stmt) (t : TS) (g : GS) : Prop where
  ps : PSs X st t
  sem : SemS K E t g
theorem PostS.exp {K : Kx} {E : XK} {c : Option Addr} {H0 G0 H G : Hp} {σ : L2.St} {ρ : En} {cu : Cu} {α : Type} {r : Rs α} {f : α → Cu → Rs Ou} {D : Ends} (s : SRep K c H0 G0 σ H G ρ cu) (h : PostS K E c H0 G0 (r.bind f) D) :
    Post K E c H G r (fun a _ _ cu' => PostS K E c H0 G0 (f a cu') D) := by
  cases r with
  | stuck => exact h
  | exc k cu => exact fun H' G' x w => h H' G' (s.ext.trans x) w
  | ok a cu => exact fun _ _ _ _ => h
theorem PostS.ofO {K : Kx} {E : XK} {c : Option Addr} {H0 G0 : Hp} {α : Type} {o : Option α} {cu : Cu} {f : α → Cu → Rs Ou} {D : Ends} (h : PostS K E c H0 G0 ((Rs.ofO o cu).bind f) D) : ∃ a, o = some a ∧ PostS K E c H0 G0 (f a cu) D := by
  cases o with
  | none => exact h.elim
  | some a => exact ⟨a, rfl, h⟩
section
variable {X : Cx} {K : Kx} {E : XK} {st : Stmt} {sts : List Stmt} {t u : TS} {g g' : GS} {e : Expr} {te : TE} {ge : GE} {tt : TT} {gt : GT} {ta : TA} {ga : GA} {pos : Pos}
def gSkip : GS := fun ρ cu => .ok (.nx ρ) cu
theorem pssd_nil : PSsD X K E [] tNext gSkip := ⟨pss_nil, fun c H0 G0 σ H G ρ cu D s q => q σ H G s⟩
def gSeq (g g' : GS) : GS := fun ρ cu => (g ρ cu).bind fun o cu1 => match o with
  | .nx ρ' => g' ρ' cu1
  | o => .ok o cu1
theorem pssd_cons (h : PSD X K E st t g) (h' : PSsD X K E sts u g') : PSsD X K E (st :: sts) (tSeq t u) (gSeq g g') := by
  refine ⟨pss_cons h.ps h'.ps, fun c H0 G0 σ H G ρ cu D s q => ?_⟩
  refine h.sem c H0 G0 σ H G ρ cu _ s ?_
  unfold gSeq at q
  cases hr : g ρ cu with
  | stuck => rw [hr] at q; exact q
  | exc k cu1 => rw [hr] at q; exact q
  | ok o cu1 =>
    rw [hr] at q
    cases o with
    | nx ρ' => exact fun σ' H' G' s' => h'.sem c H0 G0 σ' H' G' ρ' cu1 D s' q
    | ret d => exact q
    | brk ρ' => exact q
    | ct ρ' => exact q
theorem pssd_one (h : PSD X K E st t g) : PSsD X K E [st] t g := ⟨pss_one h.ps, h.sem⟩
theorem psd_pass : PSD X K E (.Pass pos) tNext gSkip := ⟨ps_pass, fun c H0 G0 σ H G ρ cu D s q => q σ H G s⟩
def gBrk : GS := fun ρ cu => .ok (.brk ρ) cu
def gCt : GS := fun ρ cu => .ok (.ct ρ) cu
theorem psd_break : PSD X K E (.Break pos) tBreak gBrk := ⟨ps_break, fun c H0 G0 σ H G ρ cu D s q => q σ H G s⟩
theorem psd_continue : PSD X K E (.Continue pos) tCont gCt := ⟨ps_continue, fun c H0 G0 σ H G ρ cu D s q => q σ H G s⟩
/-! values into slots -/
theorem Rep.set {c : Option Addr} {H0 : Hp} {σ : L2.St} {H G : Hp} {ρ : En} {i : Nat} {v : V} {d : PyData} (r : Rep K c H0 σ H G ρ) (rv : Rp K G v d) : Rep K c H0 (σ.set i (some v)) H G (ρ.set i (.dat d)) := by
  have ne : ∀ (j : Nat) (s : Sl), s ≠ .dat d → (ρ.set i (.dat d))[j]? = some s → ρ[j]? = some s ∧ j ≠ i := fun j s hs e => by
    by_cases hj : i = j
    · subst hj
      by_cases hi : i < ρ.length
      · rw [List.getElem?_set_self hi] at e
        cases e
        exact (hs rfl).elim
      · rw [List.getElem?_eq_none (by simpa using hi)] at e; cases e
    · rw [List.getElem?_set_ne hj] at e
      exact ⟨e, Ne.symm hj⟩
  refine ⟨by rw [List.length_set, List.length_set]; exact r.len, fun j d' e => ?_, fun j e => ?_, ?_⟩
  · by_cases hj : i = j
    · subst hj
      by_cases hi : i < ρ.length
      · rw [List.getElem?_set_self hi] at e
        cases e
        exact ⟨v, List.getElem?_set_self (by rw [← r.len]; exact hi), rv⟩
      · rw [List.getElem?_eq_none (by simpa using hi)] at e; cases e
    · rw [List.getElem?_set_ne hj] at e ⊢
      exact r.dat j d' e
  · obtain ⟨e, hj⟩ := ne j Sl.cup (fun z => nomatch z) e
    rw [List.getElem?_set_ne (Ne.symm hj)]
    exact r.cup j e
  · obtain ⟨A, h1, h2⟩ := r.own
    refine ⟨A, fun j ds e => ?_, fun j k ds es e1 e2 => ?_⟩
    · obtain ⟨e, hj⟩ := ne j (Sl.own ds) (fun z => nomatch z) e
      rw [List.getElem?_set_ne (Ne.symm hj)]
      exact h1 j ds e
    · obtain ⟨e1, _⟩ := ne j (Sl.own ds) (fun z => nomatch z) e1
      obtain ⟨e2, _⟩ := ne k (Sl.own es) (fun z => nomatch z) e2
      exact h2 j k ds es e1 e2
theorem SRep.set {c : Option Addr} {H0 G0 : Hp} {σ : L2.St} {H G : Hp} {ρ : En} {cu : Cu} {i : Nat} {v : V} {d : PyData} (s : SRep K c H0 G0 σ H G ρ cu) (rv : Rp K G v d) : SRep K c H0 G0 (σ.set i (some v)) H G (ρ.set i (.dat d)) cu := ⟨s.wd, s.ext, s.rep.set rv⟩
def gSet (i : Nat) (g : GE) : GS := fun ρ cu => (g ρ cu).bind fun d cu1 => .ok (.nx (ρ.set i (.dat d))) cu1
theorem psd_set {i : Nat} {x : Str} {pos' : Pos} (hN : X.N.Nodup) (hi : X.N[i]? = some x) (hx : Loc X.env.scope x) (he : PD X K E e te ge) (hs : swapsWith e (some (.Name x pos')) pos.line X.env = pure false := by rfl) (hf : X.fn x = true ∨ X.env.scope.names.lookup x = some .local := by first | exact .inl rfl | exact .inr rfl | assumption) :
    PSD X K E (.Assign [.Name x pos'] e pos) (tAsg te (gName i)) (gSet i ge) := by
  refine ⟨ps_set hN hi hx he.pe hs hf, fun c H0 G0 σ H G ρ cu D s q => ?_⟩
  exact he.sem c H0 G0 σ H G ρ cu _ s ((q.exp s).imp fun d H1 G1 cu1 x1 w1 q1 v rv => q1 _ H1 G1 ((s.go x1 w1).set rv))
/-! targets -/
abbrev GG := PyData → En → Option En
abbrev GGs := List PyData → En → Option En
def SemG (K : Kx) (t : TG) (g : GG) (ws : List Nat) : Prop := ∀ c H0 G0 σ H G ρ cu v d ρ' (Q : L2.St → Hp → Prop), SRep K c H0 G0 σ H G ρ cu → Rp K G v d → g d ρ = some ρ' →
  (∀ σ', SRep K c H0 G0 σ' H G ρ' cu → σ'.length = σ.length → (∀ j : Nat, j ∉ ws → σ'[j]? = σ[j]?) → Q σ' H) → t v σ H Q
def SemGs (K : Kx) (t : TGs) (g : GGs) (ws : List Nat) : Prop := ∀ c H0 G0 σ H G ρ cu vs ds ρ' (Q : L2.St → Hp → Prop), SRep K c H0 G0 σ H G ρ cu → RpL K G vs ds → g ds ρ = some ρ' →
  (∀ σ', SRep K c H0 G0 σ' H G ρ' cu → σ'.length = σ.length → (∀ j : Nat, j ∉ ws → σ'[j]? = σ[j]?) → Q σ' H) → t vs σ H Q
structure PGD (X : Cx) (K : Kx) (tg : Expr) (t : TG) (g : GG) (ws : List Nat) : Prop where
  pg : PG X tg t
  sem : SemG K t g ws
structure PGsD (X : Cx) (K : Kx) (tgs : List Expr) (t : TGs) (g : GGs) (ws : List Nat) : Prop where
  pg : PGs X tgs t
  sem : SemGs K t g ws
def ggName (i : Nat) : GG := fun d ρ => some (ρ.set i (.dat d))
theorem pgd_name {i : Nat} {x : Str} (hN : X.N.Nodup) (hi : X.N[i]? = some x) (hx : Loc X.env.scope x) (hf : X.fn x = true ∨ X.env.scope.names.lookup x = some .local := by first | exact .inl rfl | exact .inr rfl | assumption) : PGD X K (.Name x pos) (gName i) (ggName i) [i] := by
  refine ⟨pg_name hN hi hx hf, fun c H0 G0 σ H G ρ cu v d ρ' Q s rv e q => ?_⟩
  cases e
  exact q _ (s.set rv) (List.length_set ..) fun j hj => List.getElem?_set_ne (fun z => hj (by rw [z]; exact List.mem_singleton_self _))
def ggNil : GGs := fun ds ρ => match ds with
  | [] => some ρ
  | _ => none
def ggCons (g : GG) (r : GGs) : GGs := fun ds ρ => match ds with
  | d :: ds => (g d ρ).bind fun ρ1 => r ds ρ1
  | [] => none
theorem pgsd_nil : PGsD X K [] gNil ggNil [] := by
  refine ⟨pgs_nil, fun c H0 G0 σ H G ρ cu vs ds ρ' Q s rv e q => ?_⟩
  cases rv with
  | nil => cases e; exact ⟨rfl, q σ s rfl fun _ _ => rfl⟩
  | cons _ _ => cases e
theorem pgsd_cons {tg : Expr} {tgs : List Expr} {t1 : TG} {u1 : TGs} {g1 : GG} {r1 : GGs} {ws ws' : List Nat} (h : PGD X K tg t1 g1 ws) (h' : PGsD X K tgs u1 r1 ws')
    (hs : (assignEach (tg :: tgs) X.env).map (·.2) = assign tg X.env :: (assignEach tgs X.env).map (·.2) := by rfl) : PGsD X K (tg :: tgs) (gCons t1 u1) (ggCons g1 r1) (ws ++ ws') := by
  refine ⟨pgs_cons h.pg h'.pg hs, fun c H0 G0 σ H G ρ cu vs ds ρ' Q s rv e q => ?_⟩
  cases rv with
  | nil => cases e
  | @cons v vs d ds rv rvs =>
    have e : (g1 d ρ).bind (fun ρ1 => r1 ds ρ1) = some ρ' := e
    cases e1 : g1 d ρ with
    | none => rw [e1] at e; cases e
    | some ρ1 =>
      rw [e1] at e
      refine ⟨v, vs, rfl, h.sem c H0 G0 σ H G ρ cu v d ρ1 _ s rv e1 fun σ1 s1 l1 k1 => ?_⟩
      refine h'.sem c H0 G0 σ1 H G ρ1 cu vs ds ρ' _ s1 rvs e fun σ2 s2 l2 k2 => ?_
      exact q σ2 s2 (l2.trans l1) fun j hj => (k2 j fun z => hj (List.mem_append_right _ z)).trans (k1 j fun z => hj (List.mem_append_left _ z))
def ggTup (n : Nat) (g : GGs) : GG := fun d ρ => match d with
  | .tuple ds => if ds.length = n then g ds ρ else none
  | _ => none
theorem pgd_tup {tgs : List Expr} {k n : Nat} {t1 : TGs} {g1 : GGs} {ws : List Nat} (hc : X.calm = true) (h : PGsD X K tgs t1 g1 ws) (hn : (assignEach tgs X.env).length = n := by rfl) (hst : (assignEach tgs X.env).findIdx? (·.1) = none := by rfl) (hKF : K.F = X.K := by assumption) :
    PGD X K (.Tuple tgs k pos) (gTup X.K n t1) (ggTup n g1) ws := by
  refine ⟨pg_tup hc h.pg hn hst, fun c H0 G0 σ H G ρ cu v d ρ' Q s rv e q => ?_⟩
  cases d with
  | tuple ds =>
    have e : (if ds.length = n then g1 ds ρ else none) = some ρ' := e
    obtain ⟨a, xs, rfl, ha, ra⟩ := rv.tup_of
    split at e
    · rename_i hl
      exact ⟨a, xs, rfl, TupAt.sq' hKF (TupAt.mono s.wd.sub ha), by rw [ra.length]; exact hl, h.sem c H0 G0 σ H G ρ cu xs ds ρ' Q s ra e q⟩
    · cases e
  | _ => cases e
def gAsg (g : GE) (gg : GG) : GS := fun ρ cu => (g ρ cu).bind fun d cu1 => (Rs.ofO (gg d ρ) cu1).bind fun ρ' cu2 => .ok (.nx ρ') cu2
theorem psd_asg {tg : Expr} {t1 : TG} {g1 : GG} {ws : List Nat} (he : PD X K E e te ge) (hg : PGD X K tg t1 g1 ws) (hs : swapsWithSole [tg] e pos.line X.env = pure false := by rfl) (hw : swappedStores [tg] e X.env = pure none := by rfl)
    (h1 : (assignEach [tg] X.env).map (·.2) = [assign tg X.env] := by rfl) : PSD X K E (.Assign [tg] e pos) (tAsg te t1) (gAsg ge g1) := by
  refine ⟨ps_asg he.pe hg.pg hs hw h1, fun c H0 G0 σ H G ρ cu D s q => ?_⟩
  refine he.sem c H0 G0 σ H G ρ cu _ s ((q.exp s).imp fun d H1 G1 cu1 x1 w1 q1 v rv => ?_)
  obtain ⟨ρ', e1, q2⟩ := q1.ofO
  exact hg.sem c H0 G0 σ H1 G1 ρ cu1 v d ρ' _ (s.go x1 w1) rv e1 fun σ' s' _ _ => q2 σ' H1 G1 s'
def gPar (i j : Nat) (g : GA) : GS := fun ρ cu => (g ρ cu).bind fun as cu1 => match as with
  | [.dat d, .dat e] => .ok (.nx ((ρ.set i (.dat d)).set j (.dat e))) cu1
  | _ => .stuck
theorem psd_par {i j : Nat} {x y : Str} {a b : Expr} {px py pt : Pos} {kt k2 : Nat} {pt2 : Pos} (hc : X.calm = true) (hN : X.N.Nodup) (hi : X.N[i]? = some x) (hj : X.N[j]? = some y) (hij : i ≠ j)
    (hx : X.env.scope.names.lookup x = some .local) (hy : X.env.scope.names.lookup y = some .local) (ha : PAD X K E [a, b] ta ga)
    (hw : swappedStores [.Tuple [.Name x px, .Name y py] kt pt] (.Tuple [a, b] k2 pt2) X.env = pure (some [x, y]) := by rfl)
    (hs : swapsWithSole [.Tuple [.Name x px, .Name y py] kt pt] (.Tuple [a, b] k2 pt2) pos.line X.env = pure false := by rfl) :
    PSD X K E (.Assign [.Tuple [.Name x px, .Name y py] kt pt] (.Tuple [a, b] k2 pt2) pos) (tPar i j ta) (gPar i j ga) := by
  refine ⟨ps_par hc hN hi hj hij hx hy ha.pa hw hs, fun c H0 G0 σ H G ρ cu D s q => ?_⟩
  refine ha.sem c H0 G0 σ H G ρ cu _ s ((q.exp s).imp fun as H1 G1 cu1 x1 w1 q1 vs rvs => ?_)
  split at q1
  · cases rvs with
    | dat r1 rr => cases rr with
      | dat r2 rr => cases rr with
        | nil => exact ⟨_, _, rfl, q1 _ H1 G1 (((s.go x1 w1).set r1).set r2)⟩
  · exact q1.elim
def gPar3 (i j l : Nat) (g : GA) : GS := fun ρ cu => (g ρ cu).bind fun as cu1 => match as with
  | [.dat d, .dat e, .dat f] => .ok (.nx (((ρ.set i (.dat d)).set j (.dat e)).set l (.dat f))) cu1
  | _ => .stuck
theorem psd_par3 {i j l : Nat} {x y z : Str} {a b c : Expr} {px py pz pt : Pos} {kt k2 : Nat} {pt2 : Pos} (hc : X.calm = true) (hN : X.N.Nodup) (hi : X.N[i]? = some x) (hj : X.N[j]? = some y) (hl : X.N[l]? = some z) (hij : i ≠ j) (hil : i ≠ l) (hjl : j ≠ l)
    (hx : X.env.scope.names.lookup x = some .local) (hy : X.env.scope.names.lookup y = some .local) (hz : X.env.scope.names.lookup z = some .local) (ha : PAD X K E [a, b, c] ta ga)
    (hw : swappedStores [.Tuple [.Name x px, .Name y py, .Name z pz] kt pt] (.Tuple [a, b, c] k2 pt2) X.env = pure (some [x, y, z]) := by rfl)
    (hs : swapsWithSole [.Tuple [.Name x px, .Name y py, .Name z pz] kt pt] (.Tuple [a, b, c] k2 pt2) pos.line X.env = pure false := by rfl) :
    PSD X K E (.Assign [.Tuple [.Name x px, .Name y py, .Name z pz] kt pt] (.Tuple [a, b, c] k2 pt2) pos) (tPar3 i j l ta) (gPar3 i j l ga) := by
  refine ⟨ps_par3 hc hN hi hj hl hij hil hjl hx hy hz ha.pa hw hs, fun c H0 G0 σ H G ρ cu D s q => ?_⟩
  refine ha.sem c H0 G0 σ H G ρ cu _ s ((q.exp s).imp fun as H1 G1 cu1 x1 w1 q1 vs rvs => ?_)
  split at q1
  · cases rvs with
    | dat r1 rr => cases rr with
      | dat r2 rr => cases rr with
        | dat r3 rr => cases rr with
          | nil => exact ⟨_, _, _, rfl, q1 _ H1 G1 ((((s.go x1 w1).set r1).set r2).set r3)⟩
  · exact q1.elim
def gDrop (g : GE) : GS := fun ρ cu => (g ρ cu).bind fun _ cu1 => .ok (.nx ρ) cu1
theorem psd_expr (he : PD X K E e te ge) (hs : swapsWith e none pos.line X.env = pure false := by rfl) : PSD X K E (.Expr e pos) (tDrop te) (gDrop ge) := by
  refine ⟨ps_expr he.pe hs, fun c H0 G0 σ H G ρ cu D s q => ?_⟩
  exact he.sem c H0 G0 σ H G ρ cu _ s ((q.exp s).imp fun d H1 G1 cu1 x1 w1 q1 v rv => q1 σ H1 G1 (s.go x1 w1))
def gRet (g : GE) : GS := fun ρ cu => (g ρ cu).bind fun d cu1 => .ok (.ret d) cu1
theorem psd_ret (he : PD X K E e te ge) : PSD X K E (.Return (some e) pos) (tRet te) (gRet ge) := by
  refine ⟨ps_ret he.pe, fun c H0 G0 σ H G ρ cu D s q => ?_⟩
  exact he.sem c H0 G0 σ H G ρ cu _ s ((q.exp s).imp fun d H1 G1 cu1 x1 w1 q1 v rv => q1 v H1 G1 (s.ext.trans x1) w1 rv)
def gIf (gt : GT) (g g' : GS) : GS := fun ρ cu => (gt ρ cu).bind fun b cu1 => if b = true then g ρ cu1 else g' ρ cu1
theorem psd_if {c : Expr} {a b : List Stmt} (hc : PTD X K E c tt gt) (ha : PSsD X K E a t g) (hb : PSsD X K E b u g') : PSD X K E (.If c a b pos) (tIfS tt t u) (gIf gt g g') := by
  refine ⟨ps_if hc.pt ha.ps hb.ps, fun c H0 G0 σ H G ρ cu D s q => ?_⟩
  refine hc.sem c H0 G0 σ H G ρ cu _ s ((q.exp s).imp fun k H1 G1 cu1 x1 w1 q1 => ?_)
  cases k with
  | true => rw [if_pos rfl] at q1 ⊢; exact ha.sem c H0 G0 σ H1 G1 ρ cu1 D (s.go x1 w1) q1
  | false => rw [if_neg Bool.false_ne_true] at q1 ⊢; exact hb.sem c H0 G0 σ H1 G1 ρ cu1 D (s.go x1 w1) q1
/-! raise X('..') -/
def gRaise (k : Nat) : GS := fun _ cu => .exc k cu
theorem psd_raise {k : Nat} {tr : L2.St → Hp → XK → Prop} (hc : X.calm = true) (tk : Takes X (fun cls d _ H => E cls d H)) (he : PMk X e tr) (hq : ∀ σ H (Q : XK), Q (.ref (K.CL k)) none H → tr σ H Q) :
    PSD X K E (.Raise (some e) none pos) (fun _ σ H => tr σ H fun cls d H' => E cls d H') (gRaise k) :=
  ⟨ps_raise hc tk he, fun c H0 G0 σ H G ρ cu D s q => hq _ _ _ (q H G s.ext s.wd)⟩
/-! the cup written -/
def gCupSet (i : Nat) (k : Bool) (g : GE) : GS := fun ρ cu => (g ρ cu).bind fun d cu1 => match ρ[i]?, d with
  | some .cup, .int z => .ok (.nx ρ) (if k = true then (cu1.1, z) else (z, cu1.2))
  | _, _ => .stuck
theorem psd_cupSet {i : Nat} {x : Str} {p p2 p3 : Pos} {j : Nat} (k : Bool) {z : Int} (hz : z = (if k = true then 1 else 0)) (h : PE X (.Name x p) (tVar i)) (he : PD X K E e te ge)
    (ha : ∀ v, assign (.Subscript (.Name x p) (.Constant (.int z) j p2) p3) X.env v = (do
      let ov ← holding [v] (eval (.Name x p) X.env)
      let iv ← holding [v, ov] (eval (.Constant (.int z) j p2) X.env)
      standAt p3
      holding [v, ov, iv] (setItem ov iv v)
      release [v, ov, iv] []) := by intro _; rfl)
    (hs : swapsWithSole [.Subscript (.Name x p) (.Constant (.int z) j p2) p3] e pos.line X.env = pure false := by rfl) (hw : swappedStores [.Subscript (.Name x p) (.Constant (.int z) j p2) p3] e X.env = pure none := by rfl)
    (h1 : (assignEach [.Subscript (.Name x p) (.Constant (.int z) j p2) p3] X.env).map (·.2) = [assign (.Subscript (.Name x p) (.Constant (.int z) j p2) p3) X.env] := by rfl) :
    PSD X K E (.Assign [.Subscript (.Name x p) (.Constant (.int z) j p2) p3] e pos) (tAsg te (gSub (tVar i) (tC (.int z)) rSetL)) (gCupSet i k ge) := by
  refine ⟨ps_asg he.pe (pg_sub h pe_int set_list ha) hs hw h1, fun c H0 G0 σ H G ρ cu D s q => ?_⟩
  refine he.sem c H0 G0 σ H G ρ cu _ s ((q.exp s).imp fun d H1 G1 cu1 x1 w1 q1 v rv => ?_)
  have s1 := s.go x1 w1
  split at q1
  · rename_i zz e
    obtain ⟨a, e1, e2⟩ := s1.rep.cup i e
    obtain ⟨c1, c2⟩ := w1.cup a e1
    refine ⟨_, e2, a, _, z, (if k = true then 1 else 0), rfl, rfl, c1, by subst hz; cases k <;> rfl, ?_⟩
    rw [rv.int_of]
    generalize hn : (([V.int cu1.1, V.int cu1.2] : List V).set (if k = true then 1 else 0) (V.int zz)) = nl
    have en : nl = [.int (if k = true then (cu1.1, zz) else (zz, cu1.2)).1, .int (if k = true then (cu1.1, zz) else (zz, cu1.2)).2] := by subst hn; cases k <;> rfl
    rw [en]
    have hk : ∀ b u, c ≠ some b → H1 b = some u → upd H1 a (.lst [.int (if k = true then (cu1.1, zz) else (zz, cu1.2)).1, .int (if k = true then (cu1.1, zz) else (zz, cu1.2)).2]) b = some u := fun b u hb e => by
      rw [upd_ne (fun z => hb (by rw [z]; exact e1))]; exact e
    have x2 : Ext c H1 G1 (upd H1 a (.lst [.int (if k = true then (cu1.1, zz) else (zz, cu1.2)).1, .int (if k = true then (cu1.1, zz) else (zz, cu1.2)).2])) G1 := by
      refine ⟨fun b u e _ hb => hk b u hb e, fun b u e n => ?_, fun b u e => e, fun b u _ _ n => n⟩
      by_cases hb : b = a
      · rw [hb]; exact ⟨_, upd_same, nt_lst⟩
      · exact ⟨u, by rw [upd_ne hb]; exact e, n⟩
    have nel : ∀ b u, H1 b = some u → (∀ xs, u ≠ .lst xs) → b ≠ a := fun b u e n z => by rw [z, c1] at e; exact n _ (Option.some.inj e).symm
    refine q1 σ _ G1 (s1.go x2 ⟨fun b u e => ?_, fun p hp => ?_, w1.nt, fun b hb => ?_⟩)
    · rw [upd_ne (fun z => by rw [z, c2] at e; cases e)]; exact w1.sub _ _ e
    · obtain ⟨ps, h1, h2, h3⟩ := w1.tab p hp
      refine ⟨ps, by rw [upd_ne (nel _ _ h1 fun xs z => nomatch z)]; exact h1, h2, fun pos cv hcv => ?_⟩
      obtain ⟨c0, e3, e4⟩ := h3 pos cv hcv
      exact ⟨c0, e3, by rw [upd_ne (nel _ _ e4 fun xs z => nomatch z)]; exact e4⟩
    · rw [e1] at hb
      cases hb
      exact ⟨upd_same, c2⟩
  · exact q1.elim
/-! while -/
def gWhileF (gt : GT) (g : GS) : Nat → GS
  | 0 => fun _ _ => .stuck
  | n + 1 => fun ρ cu => (gt ρ cu).bind fun b cu1 => if b = true then (g ρ cu1).bind fun o cu2 => match o with
      | .nx ρ' => gWhileF gt g n ρ' cu2
      | .ct ρ' => gWhileF gt g n ρ' cu2
      | .brk ρ' => .ok (.nx ρ') cu2
      | .ret d => .ok (.ret d) cu2 else .ok (.nx ρ) cu1
def gWhile (m : En → Cu → Nat) (gt : GT) (g : GS) : GS := fun ρ cu => gWhileF gt g (m ρ cu) ρ cu
theorem psd_while {c : Expr} {body : List Stmt} (m : En → Cu → Nat) (hp : PassesOwn (model X.prog X.w) X.A X.env X.xe) (hc : PTD X K E c tt gt) (hb : PSsD X K E body t g) : PSD X K E (.While c body [] pos) (tWhile tt t) (gWhile m gt g) := by
  refine ⟨ps_while hp hc.pt hb.ps, fun c H0 G0 σ H G ρ cu D s q => ?_⟩
  refine ⟨fun n σ H => ∃ G ρ cu, SRep K c H0 G0 σ H G ρ cu ∧ PostS K E c H0 G0 (gWhileF gt g n ρ cu) D, ⟨m ρ cu, G, ρ, cu, s, q⟩, ?_⟩
  rintro n σ H ⟨G, ρ, cu, s, q⟩
  cases n with
  | zero => exact q.elim
  | succ n =>
    refine hc.sem c H0 G0 σ H G ρ cu _ s ((PostS.exp s (show PostS K E c H0 G0 ((gt ρ cu).bind _) D from q)).imp fun k H1 G1 cu1 x1 w1 q1 => ?_)
    cases k with
    | true =>
      rw [if_pos rfl] at q1 ⊢
      refine ⟨fun σ' H' => ∃ G ρ cu, SRep K c H0 G0 σ' H' G ρ cu ∧ PostS K E c H0 G0 (gWhileF gt g n ρ cu) D, fun σ' H' h => ⟨n, Nat.lt_succ_self n, h⟩, ?_⟩
      refine hb.sem c H0 G0 σ H1 G1 ρ cu1 _ (s.go x1 w1) ?_
      cases hr : g ρ cu1 with
      | stuck => rw [hr] at q1; exact q1
      | exc k cu1 => rw [hr] at q1; exact q1
      | ok o cu2 =>
        rw [hr] at q1
        cases o with
        | nx ρ' => exact fun σ' H' G' s' => ⟨G', ρ', cu2, s', q1⟩
        | ct ρ' => exact fun σ' H' G' s' => ⟨G', ρ', cu2, s', q1⟩
        | brk ρ' => exact q1
        | ret d => exact q1
    | false =>
      rw [if_neg Bool.false_ne_true] at q1 ⊢
      exact q1 σ H1 G1 (s.go x1 w1)
end
end DL

set_option Elab.async false
set_option linter.all false
set_option maxRecDepth 100000
set_option autoImplicit false
namespace DL
open PySem PySem.Spec PyProof.Rows L2
/-! ### what is walked -/
def Wk (K : Kx) (J : It) (G1 : Hp) (items : List PyData) : Prop := ∀ c H G cu, (∀ b o, G1 b = some o → G b = some o) → Wd K c H G cu →
  (∀ (i : Nat) d, items[i]? = some d → J.go i H ∧ ∀ x H', J.yld i H x H' → ∃ G', Ext c H G H' G' ∧ Wd K c H' G' cu ∧ Rp K G' x d) ∧ J.stop items.length H
abbrev GI := En → Cu → Rs (List PyData)
def SemI (K : Kx) (E : XK) (wi : TI) (g : GI) : Prop := ∀ c H0 G0 σ H G ρ cu (R : It → Hp → Prop), SRep K c H0 G0 σ H G ρ cu → Post K E c H G (g ρ cu) (fun items H' G' _ => ∀ J, Wk K J G' items → R J H') → wi σ H R
structure PID (X : Cx) (K : Kx) (E : XK) (tg iter : Expr) (wi : TI) (g : GI) : Prop where
  pi : PI X tg iter wi
  sem : SemI K E wi g
theorem ofI {H : Hp} {a : Addr} {xs ys : List V} {F : PySem.W.Frag} (h : H a = some (.lst xs)) (hK : F.lookup a = none) (q : SqL F H a ys) : ys = xs := by
  rcases q with (q | ⟨o, q⟩) | ⟨o, its, n, hk, _⟩
  · rw [h] at q; cases q; rfl
  · rw [h] at q; cases q
  · rw [hK] at hk; cases hk
section
variable {X : Cx} {K : Kx} {E : XK} {st : Stmt} {sts : List Stmt} {t u : TS} {g g' : GS} {a b e iter tg : Expr} {es : List Expr} {te : TE} {ge : GE} {tt : TT} {gt : GT} {ta : TA} {ga : GA} {pos : Pos}
def dLst : PyData → Option (List PyData)
  | .list ds => some ds
  | _ => none
def dTup : PyData → Option (List PyData)
  | .tuple ds => some ds
  | _ => none
def giLst (g : GE) : GI := fun ρ cu => (g ρ cu).bind fun d cu1 => .ofO (dLst d) cu1
def giTup (g : GE) : GI := fun ρ cu => (g ρ cu).bind fun d cu1 => .ofO (dTup d) cu1
/-- at most one reading of a known list or tuple: by the words of the iterators themselves -/
def iList' (F : PySem.W.Frag) (tl : TE) : TI := fun σ H R => tl σ H fun x H1 => ∃ a, x = .ref a ∧ (∃ xs, SqL F H1 a xs) ∧ R (Itl F a) H1
theorem wk_lst {F : PySem.W.Frag} {G1 : Hp} {a : Addr} {xs : List V} {ds : List PyData} (h : G1 a = some (.lst xs)) (r : RpL K G1 xs ds) : Wk K (Itl F a) G1 ds := by
  intro c H G cu k w
  have hH : SqL F H a xs := SqL.of (w.sub _ _ (k _ _ h))
  refine ⟨fun i d e => ?_, ⟨xs, hH, Nat.le_of_eq r.length⟩⟩
  obtain ⟨v, e1, rv⟩ := r.get e
  refine ⟨⟨xs, v, hH, e1⟩, fun x H' y => ?_⟩
  obtain ⟨rfl, y⟩ := y
  have ev : v = x := Option.some.inj (e1.symm.trans (y xs hH))
  subst ev
  exact ⟨G, Ext.refl, w, rv.mono k⟩
theorem wk_tup {F : PySem.W.Frag} (hKF : K.F = F) {G1 : Hp} {a : Addr} {xs : List V} {ds : List PyData} (h : TupAt K.F G1 a xs) (r : RpL K G1 xs ds) : Wk K (Itt F a) G1 ds := by
  intro c H G cu k w
  have hH : SqT F H a xs := TupAt.sq' hKF ((h.mono k).mono w.sub)
  refine ⟨fun i d e => ?_, ⟨xs, hH, Nat.le_of_eq r.length⟩⟩
  obtain ⟨v, e1, rv⟩ := r.get e
  refine ⟨⟨xs, v, hH, e1⟩, fun x H' y => ?_⟩
  obtain ⟨rfl, y⟩ := y
  have ev : v = x := Option.some.inj (e1.symm.trans (y xs hH))
  subst ev
  exact ⟨G, Ext.refl, w, rv.mono k⟩
theorem pid_lst (h : PD X K E iter te ge) : PID X K E tg iter (iList X.K te) (giLst ge) := by
  refine ⟨pi_list h.pe, fun c H0 G0 σ H G ρ cu R s q => ?_⟩
  refine h.sem c H0 G0 σ H G ρ cu _ s (q.bind.imp fun d H1 G1 cu1 x1 w1 q1 v rv => ?_)
  obtain ⟨ds, ed, q2⟩ := q1.ofO
  cases d with
  | list ds' =>
    cases ed
    obtain ⟨a, xs, rfl, ha, ra⟩ := rv.lst_of
    exact ⟨a, rfl, ⟨xs, SqL.of (w1.sub _ _ ha)⟩, q2 H1 G1 Ext.refl w1 _ (wk_lst ha ra)⟩
  | _ => cases ed
theorem pid_tup (h : PD X K E iter te ge) (hKF : K.F = X.K := by assumption) : PID X K E tg iter (iTup X.K te) (giTup ge) := by
  refine ⟨pi_tup h.pe, fun c H0 G0 σ H G ρ cu R s q => ?_⟩
  refine h.sem c H0 G0 σ H G ρ cu _ s (q.bind.imp fun d H1 G1 cu1 x1 w1 q1 v rv => ?_)
  obtain ⟨ds, ed, q2⟩ := q1.ofO
  cases d with
  | tuple ds' =>
    cases ed
    obtain ⟨a, xs, rfl, ha, ra⟩ := rv.tup_of
    exact ⟨a, rfl, ⟨xs, TupAt.sq' hKF (TupAt.mono w1.sub ha)⟩, q2 H1 G1 Ext.refl w1 _ (wk_tup hKF ha ra)⟩
  | _ => cases ed
/-! range -/
def rngD (lo : Int) (n : Nat) : List PyData := (List.range n).map fun (i : Nat) => .int (lo + (i : Int))
theorem wk_rng {G1 : Hp} (lo : Int) (n : Nat) : Wk K (Itr lo n) G1 (rngD lo n) := by
  intro c H G cu k w
  have hl : (rngD lo n).length = n := by unfold rngD; rw [List.length_map, List.length_range]
  refine ⟨fun i d e => ?_, by rw [hl]; exact Nat.le_refl n⟩
  have hi : i < n := by rw [← hl]; exact (List.getElem?_eq_some_iff.mp e).1
  unfold rngD at e
  rw [List.getElem?_map, List.getElem?_range hi] at e
  cases e
  refine ⟨hi, fun x H' y => ?_⟩
  obtain ⟨rfl, rfl⟩ := y
  exact ⟨G, Ext.refl, w, .int _⟩
def dRng1 : List PyData → Option (List PyData)
  | [.int j] => if -(2 ^ 62) ≤ j ∧ j < 2 ^ 62 then some (rngD 0 j.toNat) else none
  | _ => none
def dRng2 : List PyData → Option (List PyData)
  | [.int i, .int j] => if -(2 ^ 62) ≤ i ∧ i < 2 ^ 62 ∧ -(2 ^ 62) ≤ j ∧ j < 2 ^ 62 then some (rngD i (j - i).toNat) else none
  | _ => none
def giArg (f : List PyData → Option (List PyData)) (g : GA) : GI := fun ρ cu => (g ρ cu).bind fun as cu1 => .ofO ((dats as).bind f) cu1
theorem pid_rng1 {p : Pos} (hg : Gl X "range") (hm : X.mg "range" = none) (ha : PAD X K E [a] ta ga) (hs : starEach [a] X.env = [(false, eval a X.env)] := by rfl) : PID X K E tg (.Call (.Name "range" p) [a] [] pos) (iRng1 ta) (giArg dRng1 ga) := by
  refine ⟨pi_range1 hg hm ha.pa hs, fun c H0 G0 σ H G ρ cu R s q => ?_⟩
  refine ha.sem c H0 G0 σ H G ρ cu _ s (q.bind.imp fun as H1 G1 cu1 x1 w1 q1 vs rvs => ?_)
  obtain ⟨items, ez, q2⟩ := q1.ofO
  cases e : dats as with
  | none => rw [e] at ez; cases ez
  | some ds =>
    rw [e] at ez
    have ez : dRng1 ds = some items := ez
    have r := dats_rp rvs e
    unfold dRng1 at ez
    split at ez
    · split at ez
      · rename_i hb
        cases ez
        obtain ⟨v, rfl, rv⟩ := r.one
        rw [rv.int_of]
        exact ⟨_, rfl, hb.1, hb.2, q2 H1 G1 Ext.refl w1 _ (wk_rng _ _)⟩
      · cases ez
    · cases ez
theorem pid_rng2 {p : Pos} (hg : Gl X "range") (hm : X.mg "range" = none) (ha : PAD X K E [a, b] ta ga) (hs : starEach [a, b] X.env = [(false, eval a X.env), (false, eval b X.env)] := by rfl) (hs2 : starEach [b] X.env = [(false, eval b X.env)] := by rfl) : PID X K E tg (.Call (.Name "range" p) [a, b] [] pos) (iRng2 ta) (giArg dRng2 ga) := by
  refine ⟨pi_range2 hg hm ha.pa hs hs2, fun c H0 G0 σ H G ρ cu R s q => ?_⟩
  refine ha.sem c H0 G0 σ H G ρ cu _ s (q.bind.imp fun as H1 G1 cu1 x1 w1 q1 vs rvs => ?_)
  obtain ⟨items, ez, q2⟩ := q1.ofO
  cases e : dats as with
  | none => rw [e] at ez; cases ez
  | some ds =>
    rw [e] at ez
    have ez : dRng2 ds = some items := ez
    have r := dats_rp rvs e
    unfold dRng2 at ez
    split at ez
    · split at ez
      · rename_i hb
        cases ez
        obtain ⟨v, w, rfl, rv, rw'⟩ := r.two
        rw [rv.int_of, rw'.int_of]
        exact ⟨_, _, rfl, hb, q2 H1 G1 Ext.refl w1 _ (wk_rng _ _)⟩
      · cases ez
    · cases ez
/-! zip -/
def zipD (xs ys : List PyData) : List PyData := List.zipWith (fun a b => .tuple [a, b]) xs ys
def dZip : List PyData → Option (List PyData)
  | [.tuple xs, .tuple ys] => some (zipD xs ys)
  | [.list xs, .list ys] => some (zipD xs ys)
  | _ => none
theorem zipD_length (xs ys : List PyData) : (zipD xs ys).length = min xs.length ys.length := by unfold zipD; exact List.length_zipWith
theorem zipD_get {xs ys : List PyData} {i : Nat} {d : PyData} (h : (zipD xs ys)[i]? = some d) : ∃ x y, xs[i]? = some x ∧ ys[i]? = some y ∧ d = .tuple [x, y] := by
  unfold zipD at h
  rw [List.getElem?_zipWith] at h
  cases e1 : xs[i]? with
  | none => rw [e1] at h; simp at h
  | some x =>
    cases e2 : ys[i]? with
    | none => rw [e1, e2] at h; simp at h
    | some y => rw [e1, e2] at h; simp at h; exact ⟨x, y, rfl, rfl, h.symm⟩
theorem wk_zipL {F : PySem.W.Frag} {G1 : Hp} {a b : Addr} {xs ys : List V} {ds es : List PyData} (h : G1 a = some (.lst xs)) (r : RpL K G1 xs ds) (h' : G1 b = some (.lst ys)) (r' : RpL K G1 ys es) : Wk K (Itz F a b) G1 (zipD ds es) := by
  intro c H G cu k w
  have hA : SqL F H a xs := SqL.of (w.sub _ _ (k _ _ h))
  have hB : SqL F H b ys := SqL.of (w.sub _ _ (k _ _ h'))
  refine ⟨fun i d e => ?_, ⟨xs, ys, hA, hB, by rw [zipD_length, r.length, r'.length]; omega⟩⟩
  obtain ⟨x, y, e1, e2, rfl⟩ := zipD_get e
  obtain ⟨v, e1, rv⟩ := r.get e1
  obtain ⟨u, e2, ru⟩ := r'.get e2
  refine ⟨⟨xs, ys, v, u, hA, hB, e1, e2⟩, fun z H' y => ?_⟩
  obtain ⟨T, x1, x2, rfl, hT, rfl, f1, f2⟩ := y
  have ev : v = x1 := Option.some.inj (e1.symm.trans (f1 xs hA))
  have eu : u = x2 := Option.some.inj (e2.symm.trans (f2 ys hB))
  subst ev eu
  obtain ⟨n1, n2⟩ := w.new (o := .tup [v, u]) hT
  exact ⟨_, n1, n2, .tup upd_same (RpL.upd (.cons (rv.mono k) (.cons (ru.mono k) .nil)) (w.gp hT))⟩
theorem wk_zipT {F : PySem.W.Frag} (hKF : K.F = F) {G1 : Hp} {a b : Addr} {xs ys : List V} {ds es : List PyData} (h : TupAt K.F G1 a xs) (r : RpL K G1 xs ds) (h' : TupAt K.F G1 b ys) (r' : RpL K G1 ys es) : Wk K (RZ.ItzT F a b) G1 (zipD ds es) := by
  intro c H G cu k w
  have hA : SqT F H a xs := TupAt.sq' hKF ((h.mono k).mono w.sub)
  have hB : SqT F H b ys := TupAt.sq' hKF ((h'.mono k).mono w.sub)
  refine ⟨fun i d e => ?_, ⟨xs, ys, hA, hB, by rw [zipD_length, r.length, r'.length]; omega⟩⟩
  obtain ⟨x, y, e1, e2, rfl⟩ := zipD_get e
  obtain ⟨v, e1, rv⟩ := r.get e1
  obtain ⟨u, e2, ru⟩ := r'.get e2
  refine ⟨⟨xs, ys, v, u, hA, hB, e1, e2⟩, fun z H' y => ?_⟩
  obtain ⟨T, x1, x2, rfl, hT, rfl, f1, f2⟩ := y
  have ev : v = x1 := Option.some.inj (e1.symm.trans (f1 xs hA))
  have eu : u = x2 := Option.some.inj (e2.symm.trans (f2 ys hB))
  subst ev eu
  obtain ⟨n1, n2⟩ := w.new (o := .tup [v, u]) hT
  exact ⟨_, n1, n2, .tup upd_same (RpL.upd (.cons (rv.mono k) (.cons (ru.mono k) .nil)) (w.gp hT))⟩
theorem pid_zip {elts : List Expr} {kk : Nat} {tpos p : Pos} (hg : Gl X "zip") (hm : X.mg "zip" = none) (ha : PAD X K E [a, b] ta ga)
    (hp : PA X [a, b] ta → PI X (.Tuple elts kk tpos) (.Call (.Name "zip" p) [a, b] [] pos) (RZ.iZipA X.K ta)) (hKF : K.F = X.K := by assumption) :
    PID X K E (.Tuple elts kk tpos) (.Call (.Name "zip" p) [a, b] [] pos) (RZ.iZipA X.K ta) (giArg dZip ga) := by
  refine ⟨hp ha.pa, fun c H0 G0 σ H G ρ cu R s q => ?_⟩
  refine ha.sem c H0 G0 σ H G ρ cu _ s (q.bind.imp fun as H1 G1 cu1 x1 w1 q1 vs rvs => ?_)
  obtain ⟨items, ez, q2⟩ := q1.ofO
  cases e : dats as with
  | none => rw [e] at ez; cases ez
  | some ds =>
    rw [e] at ez
    have ez : dZip ds = some items := ez
    have r := dats_rp rvs e
    unfold dZip at ez
    split at ez
    · cases ez
      obtain ⟨v, w, rfl, rv, rw'⟩ := r.two
      obtain ⟨a, xs, rfl, ha, ra⟩ := rv.tup_of
      obtain ⟨b, ys, rfl, hb, rb⟩ := rw'.tup_of
      exact ⟨a, b, xs, ys, rfl, .inr ⟨TupAt.sq' hKF (TupAt.mono w1.sub ha), TupAt.sq' hKF (TupAt.mono w1.sub hb), q2 H1 G1 Ext.refl w1 _ (wk_zipT hKF ha ra hb rb)⟩⟩
    · cases ez
      obtain ⟨v, w, rfl, rv, rw'⟩ := r.two
      obtain ⟨a, xs, rfl, ha, ra⟩ := rv.lst_of
      obtain ⟨b, ys, rfl, hb, rb⟩ := rw'.lst_of
      exact ⟨a, b, xs, ys, rfl, .inl ⟨SqL.of (w1.sub _ _ ha), SqL.of (w1.sub _ _ hb), q2 H1 G1 Ext.refl w1 _ (wk_zipL ha ra hb rb)⟩⟩
    · cases ez
/-! ### another entry -/
theorem Ext.un {c : Option Addr} {H0 G0 H1 G1 H G : Hp} (a : Ext c H0 G0 H1 G1) (b : Ext c H0 G1 H G) : Ext c H0 G0 H G := ⟨b.h, b.hs, fun x o e => b.g x o (a.g x o e), fun x o e m n => b.n x o e m (a.n x o e m n)⟩
theorem SRep.un {c : Option Addr} {H0 G0 H1 G1 H G : Hp} {σ : L2.St} {ρ : En} {cu : Cu} (a : Ext c H0 G0 H1 G1) (s : SRep K c H0 G1 σ H G ρ cu) : SRep K c H0 G0 σ H G ρ cu := ⟨s.wd, a.un s.ext, s.rep⟩
theorem SRep.re {c : Option Addr} {H0 G0 H1 G1 H G : Hp} {σ : L2.St} {ρ : En} {cu : Cu} (a : Ext c H0 G0 H1 G1) (k : ∀ b o, G1 b = some o → G b = some o) (s : SRep K c H0 G0 σ H G ρ cu) : SRep K c H0 G1 σ H G ρ cu := by
  refine ⟨s.wd, ⟨s.ext.h, s.ext.hs, k, fun b o e m n => s.ext.n b o e m ?_⟩, s.rep⟩
  cases q : G0 b with
  | none => rfl
  | some o => rw [a.g b o q] at n; cases n
/-! ### for -/
def gForL (gg : GG) (g : GS) : List PyData → GS
  | [] => fun ρ cu => .ok (.nx ρ) cu
  | d :: r => fun ρ cu => (Rs.ofO (gg d ρ) cu).bind fun ρ1 cu1 => (g ρ1 cu1).bind fun o cu2 => match o with
      | .nx ρ' => gForL gg g r ρ' cu2
      | .ct ρ' => gForL gg g r ρ' cu2
      | .brk ρ' => .ok (.nx ρ') cu2
      | .ret d => .ok (.ret d) cu2
def gFor (gi : GI) (gg : GG) (g : GS) : GS := fun ρ cu => (gi ρ cu).bind fun items cu1 => gForL gg g items ρ cu1
theorem psd_for {body : List Stmt} {wi : TI} {gi : GI} {t1 : TG} {gg : GG} {ws : List Nat} (hp : PassesOwn (model X.prog X.w) X.A X.env X.xe) (hc : X.calm = true) (hi : PID X K E tg iter wi gi) (hg : PGD X K tg t1 gg ws) (hb : PSsD X K E body t g)
    (hs : ∀ x, foldedSetIterable iter X.env x = pure x := by intro _; rfl) : PSD X K E (.For tg iter body [] pos) (tFor wi t1 t) (gFor gi gg g) := by
  refine ⟨ps_for hp hc hi.pi hg.pg hb.ps hs, fun c H0 G0 σ H G ρ cu D s q => ?_⟩
  refine hi.sem c H0 G0 σ H G ρ cu _ s ((q.exp s).imp fun items H1 G1 cu1 x1 w1 q1 J wk => ?_)
  have x01 : Ext c H0 G0 H1 G1 := s.ext.trans x1
  refine ⟨fun i m σ H => ∃ G ρ cu, SRep K c H0 G0 σ H G ρ cu ∧ (∀ b o, G1 b = some o → G b = some o) ∧ m = items.length - i ∧ i ≤ items.length ∧ PostS K E c H0 G0 (gForL gg g (items.drop i) ρ cu) D,
    ⟨items.length, G1, ρ, cu1, s.go x1 w1, fun _ _ e => e, by simp, Nat.zero_le _, by rw [List.drop_zero]; exact q1⟩, ?_⟩
  rintro i m σ H ⟨G, ρ, cu, s, k, rfl, hle, q⟩
  obtain ⟨wk1, wk2⟩ := wk c H G cu k s.wd
  by_cases hlt : i < items.length
  · have e0 : items[i]? = some items[i] := List.getElem?_eq_getElem hlt
    obtain ⟨go, yl⟩ := wk1 i _ e0
    refine .inr ⟨go, fun σ' H' => ∃ G ρ cu, SRep K c H0 G0 σ' H' G ρ cu ∧ (∀ b o, G1 b = some o → G b = some o) ∧ PostS K E c H0 G0 (gForL gg g (items.drop (i + 1)) ρ cu) D, fun σ' H' h => ?_, fun x H' y => ?_⟩
    · obtain ⟨G', ρ', cu', s', k', q'⟩ := h
      exact ⟨items.length - (i + 1), by omega, G', ρ', cu', s', k', rfl, hlt, q'⟩
    · obtain ⟨G', x2, w2, rx⟩ := yl x H' y
      rw [List.drop_eq_getElem_cons hlt] at q
      have q : PostS K E c H0 G0 ((Rs.ofO (gg items[i] ρ) cu).bind _) D := q
      obtain ⟨ρ1, e1, q⟩ := q.ofO
      refine hg.sem c H0 G0 σ H' G' ρ cu x items[i] ρ1 _ (s.go x2 w2) rx e1 fun σ2 s2 _ _ => ?_
      have x01 : Ext c H0 G0 H1 G1 := x01
      refine hb.sem c H0 G1 σ2 H' G' ρ1 cu _ (s2.re x01 fun b o e => x2.g _ _ (k b o e)) ?_
      cases hr : g ρ1 cu with
      | stuck => rw [hr] at q; exact q
      | exc k cu1 => rw [hr] at q; exact fun H' G' x w => q H' G' (x01.un x) w
      | ok o cu2 =>
        rw [hr] at q
        cases o with
        | nx ρ' => exact fun σ' H3 G3 s3 => ⟨G3, ρ', cu2, s3.un x01, s3.ext.g, q⟩
        | ct ρ' => exact fun σ' H3 G3 s3 => ⟨G3, ρ', cu2, s3.un x01, s3.ext.g, q⟩
        | brk ρ' => exact fun σ' H3 G3 s3 => q σ' H3 G3 (s3.un x01)
        | ret d => exact fun v H3 G3 x w r => q v H3 G3 (x01.un x) w r
  · have e : i = items.length := by omega
    subst e
    rw [List.drop_length] at q
    exact .inl ⟨wk2, q σ H G s⟩
end
end DL

set_option Elab.async false
set_option linter.all false
set_option maxRecDepth 100000
set_option autoImplicit false
namespace DL
open PySem PySem.Spec PyProof.Rows L2
section
variable {X : Cx} {K : Kx} {E : XK} {a b e iter tg elt : Expr} {es ifs : List Expr} {te : TE} {ge : GE} {tt : TT} {gt : GT} {ta : TA} {ga : GA} {pos : Pos}
/-! ### a list of one's own -/
theorem Wd.updL {c : Option Addr} {H G : Hp} {cu : Cu} {p : Addr} {xs ys : List V} (w : Wd K c H G cu) (hp : H p = some (.lst xs)) (gp : G p = none) (hc : c ≠ some p) : Wd K c (upd H p (.lst ys)) G cu := by
  have nel : ∀ b u, H b = some u → (∀ xs, u ≠ .lst xs) → upd H p (.lst ys) b = some u := fun b u e n => by
    rw [upd_ne (fun z => by rw [z, hp] at e; exact n _ (Option.some.inj e).symm)]; exact e
  refine ⟨fun b u e => ?_, fun q hq => ?_, w.nt, fun a ha => ?_⟩
  · rw [upd_ne (fun z => by rw [z, gp] at e; cases e)]; exact w.sub _ _ e
  · obtain ⟨ps, h1, h2, h3⟩ := w.tab q hq
    refine ⟨ps, nel _ _ h1 (fun xs z => nomatch z), h2, fun pos cv hcv => ?_⟩
    obtain ⟨c0, e3, e4⟩ := h3 pos cv hcv
    exact ⟨c0, e3, nel _ _ e4 (fun xs z => nomatch z)⟩
  · obtain ⟨h1, h2⟩ := w.cup a ha
    exact ⟨by rw [upd_ne (fun z => hc (by rw [← z]; exact ha))]; exact h1, h2⟩
theorem Ext.updL {c : Option Addr} {H0 G0 H G : Hp} {p : Addr} {o : HO} (x : Ext c H0 G0 H G) (hp : Fre H0 p) : Ext c H0 G0 (upd H p o) G := by
  refine ⟨fun b u e n k => ?_, fun b u e n => ?_, x.g, x.n⟩
  · rw [upd_ne (hp.ne e n)]; exact x.h b u e n k
  · rw [upd_ne (hp.ne e n)]; exact x.hs b u e n
theorem Wd.nc {c : Option Addr} {H G : Hp} {cu : Cu} (w : Wd K c H G cu) {p : Addr} (hp : Fre H p) : c ≠ some p := fun z => hp _ (w.cup p z).1 nt_lst
/-- a list that nothing else knows -/
def SemF (K : Kx) (E : XK) (t : TE) (g : GI) : Prop := ∀ c H0 G0 σ H G ρ cu (Q : VK), SRep K c H0 G0 σ H G ρ cu →
  Post K E c H G (g ρ cu) (fun ds H' G' _ => ∀ a xs, Fre H a → H' a = some (.lst xs) → RpL K G' xs ds → G' a = none → Q (.ref a) H') → t σ H Q
structure PFD (X : Cx) (K : Kx) (E : XK) (e : Expr) (t : TE) (g : GI) : Prop where
  pe : PE X e t
  sem : SemF K E t g
def gL (g : GI) : GE := fun ρ cu => (g ρ cu).bind fun ds cu1 => .ok (.list ds) cu1
theorem SemF.toE {t : TE} {g : GI} (h : SemF K E t g) : SemE K E t (gL g) := by
  intro c H0 G0 σ H G ρ cu Q s q
  refine h c H0 G0 σ H G ρ cu Q s ?_
  unfold gL at q
  cases hr : g ρ cu with
  | stuck => rw [hr] at q; exact q
  | exc k cu1 => rw [hr] at q; exact q
  | ok ds cu1 =>
    rw [hr] at q
    intro H' G' x w a xs ha ha' r ga
    have hk : ∀ b o, G' b = some o → upd G' a (.lst xs) b = some o := fun b o e => by rw [upd_ne (ne_of_none e ga)]; exact e
    refine q H' (upd G' a (.lst xs)) ⟨x.h, x.hs, fun b o e => hk _ _ (x.g b o e), fun b o e m n => ?_⟩ (w.know ha' ga (s.wd.nc ha)) _ (.lst upd_same (r.mono hk))
    rw [upd_ne (ha.ne e m)]; exact x.n b o e m n
theorem PFD.toD {t : TE} {g : GI} (h : PFD X K E e t g) : PD X K E e t (gL g) := ⟨h.pe, h.sem.toE⟩
def gfDisp (g : GA) : GI := fun ρ cu => (g ρ cu).bind fun as cu1 => .ofO ((dats as).bind fun ds => if ds.length ≤ 16777216 then some ds else none) cu1
theorem fdisp_of {as : List Sl} {z : List PyData} (h : ((dats as).bind fun ds => if ds.length ≤ 16777216 then some ds else none) = some z) : dats as = some z ∧ z.length ≤ 16777216 := by
  cases e : dats as with
  | none => rw [e] at h; cases h
  | some ds =>
    rw [e] at h
    have h' : (if ds.length ≤ 16777216 then some ds else none) = some z := h
    split at h'
    · rename_i hl; cases h'; exact ⟨rfl, hl⟩
    · cases h'
theorem pf_lst (h : PAD X K E es ta ga) : PFD X K E (.List es pos) (tLst ta) (gfDisp ga) := by
  refine ⟨pe_lst h.pa, fun c H0 G0 σ H G ρ cu Q s q => ?_⟩
  refine h.sem c H0 G0 σ H G ρ cu _ s (q.bind.imp fun as H1 G1 cu1 x1 w1 q1 vs rvs => ?_)
  obtain ⟨ds, ez, q2⟩ := q1.ofO
  obtain ⟨e1, e2⟩ := fdisp_of ez
  have r := dats_rp rvs e1
  refine ⟨by rw [r.length, sizeLine_eq]; exact e2, fun p hp => ?_⟩
  obtain ⟨x2, w2, gp⟩ := w1.newH (o := .lst vs) hp
  exact q2 _ _ x2 w2 p vs (x1.free (.of hp)) upd_same r gp
/-- a list of one's own, or a known one, and a known one behind it -/
def catL : PyData → List PyData → Option (List PyData)
  | .list ys, xs => if xs.length + ys.length ≤ 16777216 then some (xs ++ ys) else none
  | _, _ => none
def gfCat (i : Nat) (g : GE) : GI := fun ρ cu => match ρ[i]? with
  | some (.own xs) => (g ρ cu).bind fun d cu1 => .ofO (catL d xs) cu1
  | some (.dat (.list xs)) => (g ρ cu).bind fun d cu1 => .ofO (catL d xs) cu1
  | _ => .stuck
theorem catL_of {d : PyData} {xs zs : List PyData} (h : catL d xs = some zs) : ∃ ys, d = .list ys ∧ xs.length + ys.length ≤ 16777216 ∧ zs = xs ++ ys := by
  cases d with
  | list ys =>
    have h : (if xs.length + ys.length ≤ 16777216 then some (xs ++ ys) else none) = some zs := h
    split at h
    · rename_i hl; cases h; exact ⟨ys, rfl, hl, rfl⟩
    · cases h
  | _ => cases h
theorem pf_cat {i : Nat} {x : Str} {p : Pos} (h : PE X (.Name x p) (tVar i)) (hb : PD X K E b te ge) : PFD X K E (.BinOp (.Name x p) .Add b pos) (tOp rCat (tVar i) te) (gfCat i ge) := by
  refine ⟨pe_op op_cat h hb.pe, fun c H0 G0 σ H G ρ cu Q s q => ?_⟩
  have go : ∀ (a : Addr) (vs : List V) (xs : List PyData), H a = some (.lst vs) → RpL K G vs xs → c ≠ some a → σ[i]? = some (some (V.ref a)) → Post K E c H G ((ge ρ cu).bind fun d cu1 => .ofO (catL d xs) cu1)
      (fun ds H' G' _ => ∀ a xs, Fre H a → H' a = some (.lst xs) → RpL K G' xs ds → G' a = none → Q (.ref a) H') → tOp rCat (tVar i) te σ H Q := by
    intro a vs xs h1 r1 hc e2 q
    refine ⟨_, e2, hb.sem c H0 G0 σ H G ρ cu _ s (q.bind.imp fun d H1 G1 cu1 x1 w1 q1 v rv => ?_)⟩
    obtain ⟨zs, ez, q2⟩ := q1.ofO
    obtain ⟨ys, rfl, hl, rfl⟩ := catL_of ez
    obtain ⟨b', us, rfl, hb', rb⟩ := rv.lst_of
    refine ⟨a, b', vs, us, rfl, rfl, x1.h _ _ h1 nt_lst hc, w1.sub _ _ hb', by rw [r1.length, rb.length, sizeLine_eq]; exact hl, fun p hp => ?_⟩
    obtain ⟨x2, w2, gp⟩ := w1.newH (o := .lst (vs ++ us)) hp
    exact q2 _ _ x2 w2 p _ (x1.free (.of hp)) upd_same ((r1.mono x1.g).app rb) gp
  unfold gfCat at q
  split at q
  · rename_i xs e
    obtain ⟨A, h1, _⟩ := s.rep.own
    obtain ⟨e1, ⟨vs, e2, e3⟩, _, _, e6⟩ := h1 i xs e
    exact go _ vs xs e2 e3 e6 e1 q
  · rename_i xs e
    obtain ⟨v, e1, rv⟩ := s.rep.dat i _ e
    obtain ⟨a, vs, rfl, ha, ra⟩ := rv.lst_of
    refine go a vs xs (s.wd.sub _ _ ha) ra (fun z => ?_) e1 q
    have := (s.wd.cup a z).2
    rw [ha] at this; cases this
  · exact q.elim
/-- the own list into its slot -/
theorem SRep.setO {c : Option Addr} {H0 G0 H G H' G' : Hp} {σ : L2.St} {ρ : En} {cu cu' : Cu} {i : Nat} {a : Addr} {xs : List V} {ds : List PyData} (s : SRep K c H0 G0 σ H G ρ cu) (x : Ext c H G H' G') (w : Wd K c H' G' cu')
    (ha : Fre H a) (ha' : H' a = some (.lst xs)) (r : RpL K G' xs ds) (ga : G' a = none) : SRep K c H0 G0 (σ.set i (some (.ref a))) H' G' (ρ.set i (.own ds)) cu' := by
  have s' := s.go x w
  have ne : ∀ (j : Nat) (t : Sl), (ρ.set i (.own ds))[j]? = some t → j ≠ i → ρ[j]? = some t := fun j t e hj => by rw [List.getElem?_set_ne (Ne.symm hj)] at e; exact e
  have at_ : ∀ (t : Sl), (ρ.set i (.own ds))[i]? = some t → t = .own ds ∧ i < ρ.length := fun t e => by
    by_cases hi : i < ρ.length
    · rw [List.getElem?_set_self hi] at e; cases e; exact ⟨rfl, hi⟩
    · rw [List.getElem?_eq_none (by simpa using hi)] at e; cases e
  refine ⟨w, s'.ext, by rw [List.length_set, List.length_set]; exact s.rep.len, fun j d e => ?_, fun j e => ?_, ?_⟩
  · by_cases hj : j = i
    · subst hj; cases (at_ _ e).1
    · rw [List.getElem?_set_ne (Ne.symm hj)]; exact s'.rep.dat j d (ne j _ e hj)
  · by_cases hj : j = i
    · subst hj; cases (at_ _ e).1
    · rw [List.getElem?_set_ne (Ne.symm hj)]; exact s'.rep.cup j (ne j _ e hj)
  · obtain ⟨A, h1, h2⟩ := s.rep.own
    obtain ⟨A', h1', h2'⟩ := s'.rep.own
    have H0a : Fre H0 a := s.ext.free ha
    have nA : ∀ (j : Nat) (es : List PyData), ρ[j]? = some (.own es) → A j ≠ a := fun j es e z => by
      obtain ⟨_, ⟨_, e2, _⟩, _⟩ := h1 j es e
      exact ha.ne e2 nt_lst z
    refine ⟨fun j => if j = i then a else A j, fun j es e => ?_, fun j k es fs e1 e2 hjk => ?_⟩
    · by_cases hj : j = i
      · subst hj
        obtain ⟨e0, hi⟩ := at_ _ e
        cases e0
        dsimp only
        rw [if_pos rfl]
        exact ⟨List.getElem?_set_self (by rw [← s.rep.len]; exact hi), ⟨xs, ha', r⟩, ga, H0a, s.wd.nc ha⟩
      · dsimp only
        rw [if_neg hj, List.getElem?_set_ne (Ne.symm hj)]
        obtain ⟨q1, ⟨ys, q2, q3⟩, q4, q5, q6⟩ := h1 j es (ne j _ e hj)
        exact ⟨q1, ⟨ys, x.h _ _ q2 nt_lst q6, q3.mono x.g⟩, x.n _ _ q2 nt_lst q4, q5, q6⟩
    · show (if j = i then a else A j) ≠ (if k = i then a else A k)
      by_cases hj : j = i
      · have hk : k ≠ i := fun z => hjk (hj.trans z.symm)
        rw [if_pos hj, if_neg hk]
        exact fun z => nA k fs (ne k _ e2 hk) z.symm
      · rw [if_neg hj]
        by_cases hk : k = i
        · rw [if_pos hk]; exact nA j es (ne j _ e1 hj)
        · rw [if_neg hk]; exact h2 j k es fs (ne j _ e1 hj) (ne k _ e2 hk) hjk
def gSetO (i : Nat) (g : GI) : GS := fun ρ cu => (g ρ cu).bind fun ds cu1 => .ok (.nx (ρ.set i (.own ds))) cu1
theorem sem_setO {i : Nat} {t : TE} {g : GI} (h : SemF K E t g) : SemS K E (tAsg t (gName i)) (gSetO i g) := by
  intro c H0 G0 σ H G ρ cu D s q
  exact h c H0 G0 σ H G ρ cu _ s ((q.exp s).imp fun ds H1 G1 cu1 x1 w1 q1 a xs ha ha' r ga => q1 _ H1 G1 (s.setO x1 w1 ha ha' r ga))
theorem psd_setO {i : Nat} {x : Str} {pos' : Pos} {g : GI} (hN : X.N.Nodup) (hi : X.N[i]? = some x) (hx : Loc X.env.scope x) (he : PFD X K E e te g) (hs : swapsWith e (some (.Name x pos')) pos.line X.env = pure false := by rfl) (hf : X.fn x = true ∨ X.env.scope.names.lookup x = some .local := by first | exact .inl rfl | exact .inr rfl | assumption) :
    PSD X K E (.Assign [.Name x pos'] e pos) (tAsg te (gName i)) (gSetO i g) := ⟨ps_set hN hi hx he.pe hs hf, sem_setO he.sem⟩
/-- x.append(e) -/
def gApd (i : Nat) (g : GE) : GS := fun ρ cu => match ρ[i]? with
  | some (.own xs) => (g ρ cu).bind fun d cu1 => if xs.length < 16777216 then .ok (.nx (ρ.set i (.own (xs ++ [d])))) cu1 else .stuck
  | _ => .stuck
theorem psd_append {i : Nat} {x : Str} {p ap cp : Pos} (h : PE X (.Name x p) (tVar i)) (he : PD X K E e te ge)
    (hpe : PA X [e] (tCons te tNil) → PE X (.Call (.Attribute (.Name x p) "append" ap) [e] [] cp) (tBM X.K "list" rAppend (tVar i) (tCons te tNil)))
    (hs0 : starEach [e] X.env = (false, eval e X.env) :: starEach [] X.env := by rfl)
    (hs : swapsWith (.Call (.Attribute (.Name x p) "append" ap) [e] [] cp) none pos.line X.env = pure false := by rfl) :
    PSD X K E (.Expr (.Call (.Attribute (.Name x p) "append" ap) [e] [] cp) pos) (tDrop (tBM X.K "list" rAppend (tVar i) (tCons te tNil))) (gApd i ge) := by
  refine ⟨ps_expr (hpe (pa_cons he.pe pa_nil hs0)) hs, fun c H0 G0 σ H G ρ cu D s q => ?_⟩
  unfold gApd at q
  split at q
  · rename_i xs e
    obtain ⟨A, h1, h2⟩ := s.rep.own
    obtain ⟨e1, ⟨vs, e2, e3⟩, e4, e5, e6⟩ := h1 i xs e
    refine ⟨_, e1, .inl ⟨rfl, _, SqL.of e2⟩, ?_⟩
    refine he.sem c H0 G0 σ H G ρ cu _ s ((q.exp s).imp fun d H1 G1 cu1 x1 w1 q1 v rv => ?_)
    split at q1
    · rename_i hl
      have a1 := x1.h _ _ e2 nt_lst e6
      have g1 : G1 (A i) = none := x1.n _ _ e2 nt_lst e4
      refine ⟨A i, vs, v, rfl, rfl, a1, by rw [e3.length, sizeLine_eq]; exact hl, q1 σ _ G1 ⟨w1.updL a1 g1 e6, (s.ext.trans x1).updL e5, ?_⟩⟩
      have s1 := (s.go x1 w1).rep
      have ne : ∀ (j : Nat) (t : Sl), (ρ.set i (.own (xs ++ [d])))[j]? = some t → j ≠ i → ρ[j]? = some t := fun j t e hj => by rw [List.getElem?_set_ne (Ne.symm hj)] at e; exact e
      have at_ : ∀ (t : Sl), (ρ.set i (.own (xs ++ [d])))[i]? = some t → t = .own (xs ++ [d]) := fun t e => by
        by_cases hi : i < ρ.length
        · rw [List.getElem?_set_self hi] at e; cases e; rfl
        · rw [List.getElem?_eq_none (by simpa using hi)] at e; cases e
      refine ⟨by rw [List.length_set]; exact s.rep.len, fun j d' e => ?_, fun j e => ?_, A, fun j es e => ?_, fun j k es fs q1 q2 hjk => ?_⟩
      · by_cases hj : j = i
        · subst hj; cases at_ _ e
        · exact s1.dat j d' (ne j _ e hj)
      · by_cases hj : j = i
        · subst hj; cases at_ _ e
        · exact s1.cup j (ne j _ e hj)
      · by_cases hj : j = i
        · subst hj
          cases at_ _ e
          exact ⟨e1, ⟨_, upd_same, (e3.mono x1.g).app (.cons rv .nil)⟩, g1, e5, e6⟩
        · have e0 := ne j _ e hj
          obtain ⟨q1, ⟨ys, q2, q3⟩, q4, q5, q6⟩ := h1 j es e0
          have nij : A j ≠ A i := h2 j i es xs e0 (by assumption) hj
          exact ⟨q1, ⟨ys, by rw [upd_ne nij]; exact x1.h _ _ q2 nt_lst q6, q3.mono x1.g⟩, x1.n _ _ q2 nt_lst q4, q5, q6⟩
      · by_cases hj : j = i
        · subst hj
          have hk : k ≠ j := fun z => hjk z.symm
          exact h2 j k xs fs (by assumption) (ne k _ q2 hk) hjk
        · by_cases hk : k = i
          · subst hk; exact h2 j k es xs (ne j _ q1 hj) (by assumption) hjk
          · exact h2 j k es fs (ne j _ q1 hj) (ne k _ q2 hk) hjk
    · exact q1.elim
  · exact q.elim
/-- from here on the list may be known -/
def gFrz (i : Nat) (g : GS) : GS := fun ρ cu => match ρ[i]? with
  | some (.own ds) => g (ρ.set i (.dat (.list ds))) cu
  | _ => g ρ cu
theorem pssd_frz {sts : List Stmt} {t : TS} {g : GS} (i : Nat) (h : PSsD X K E sts t g) : PSsD X K E sts t (gFrz i g) := by
  refine ⟨h.ps, fun c H0 G0 σ H G ρ cu D s q => ?_⟩
  unfold gFrz at q
  split at q
  · rename_i ds e
    obtain ⟨A, h1, h2⟩ := id s.rep.own
    obtain ⟨e1, ⟨vs, e2, e3⟩, e4, e5, e6⟩ := h1 i ds e
    have hi : i < ρ.length := (List.getElem?_eq_some_iff.mp e).1
    have hk : ∀ b o, G b = some o → upd G (A i) (.lst vs) b = some o := fun b o z => by rw [upd_ne (ne_of_none z e4)]; exact z
    have ne : ∀ (j : Nat) (t : Sl), (ρ.set i (.dat (.list ds)))[j]? = some t → j ≠ i → ρ[j]? = some t := fun j t e hj => by rw [List.getElem?_set_ne (Ne.symm hj)] at e; exact e
    have at_ : ∀ (t : Sl), (ρ.set i (.dat (.list ds)))[i]? = some t → t = .dat (.list ds) := fun t e => by rw [List.getElem?_set_self hi] at e; cases e; rfl
    refine h.sem c H0 G0 σ H (upd G (A i) (.lst vs)) _ cu D ⟨s.wd.know e2 e4 e6, ⟨s.ext.h, s.ext.hs, fun b o z => hk _ _ (s.ext.g b o z), fun b o z m n => ?_⟩, by rw [List.length_set]; exact s.rep.len, fun j d z => ?_, fun j z => ?_, A, fun j es z => ?_, fun j k es fs z1 z2 hjk => ?_⟩ q
    · rw [upd_ne (e5.ne z m)]; exact s.ext.n b o z m n
    · by_cases hj : j = i
      · subst hj; cases at_ _ z; exact ⟨_, e1, .lst upd_same (e3.mono hk)⟩
      · obtain ⟨v, y1, y2⟩ := s.rep.dat j d (ne j _ z hj)
        exact ⟨v, y1, y2.mono hk⟩
    · by_cases hj : j = i
      · subst hj; cases at_ _ z
      · exact s.rep.cup j (ne j _ z hj)
    · by_cases hj : j = i
      · subst hj; cases at_ _ z
      · have z0 := ne j _ z hj
        obtain ⟨q1, ⟨ys, q2, q3⟩, q4, q5, q6⟩ := h1 j es z0
        exact ⟨q1, ⟨ys, q2, q3.mono hk⟩, by rw [upd_ne (h2 j i es ds z0 e hj)]; exact q4, q5, q6⟩
    · by_cases hj : j = i
      · subst hj; cases at_ _ z1
      · by_cases hk' : k = i
        · subst hk'; cases at_ _ z2
        · exact h2 j k es fs (ne j _ z1 hj) (ne k _ z2 hk') hjk
  · exact h.sem c H0 G0 σ H G ρ cu D s q
/-! ### comprehensions -/
def wipeE (ρ : En) : List Nat → En
  | [] => ρ
  | v :: vs => (wipeE ρ vs).set v .un
theorem Rep.setUn {c : Option Addr} {H0 : Hp} {σ : L2.St} {H G : Hp} {ρ : En} {i : Nat} (r : Rep K c H0 σ H G ρ) : Rep K c H0 (σ.set i none) H G (ρ.set i .un) := by
  have ne : ∀ (j : Nat) (s : Sl), s ≠ .un → (ρ.set i .un)[j]? = some s → ρ[j]? = some s ∧ j ≠ i := fun j s hs e => by
    by_cases hj : i = j
    · subst hj
      by_cases hi : i < ρ.length
      · rw [List.getElem?_set_self hi] at e
        cases e
        exact (hs rfl).elim
      · rw [List.getElem?_eq_none (by simpa using hi)] at e; cases e
    · rw [List.getElem?_set_ne hj] at e
      exact ⟨e, Ne.symm hj⟩
  refine ⟨by rw [List.length_set, List.length_set]; exact r.len, fun j d' e => ?_, fun j e => ?_, ?_⟩
  · obtain ⟨e, hj⟩ := ne j (Sl.dat d') (fun z => nomatch z) e
    rw [List.getElem?_set_ne (Ne.symm hj)]
    exact r.dat j d' e
  · obtain ⟨e, hj⟩ := ne j Sl.cup (fun z => nomatch z) e
    rw [List.getElem?_set_ne (Ne.symm hj)]
    exact r.cup j e
  · obtain ⟨A, h1, h2⟩ := r.own
    refine ⟨A, fun j ds e => ?_, fun j k ds es e1 e2 => ?_⟩
    · obtain ⟨e, hj⟩ := ne j (Sl.own ds) (fun z => nomatch z) e
      rw [List.getElem?_set_ne (Ne.symm hj)]
      exact h1 j ds e
    · obtain ⟨e1, _⟩ := ne j (Sl.own ds) (fun z => nomatch z) e1
      obtain ⟨e2, _⟩ := ne k (Sl.own es) (fun z => nomatch z) e2
      exact h2 j k ds es e1 e2
theorem Rep.wipe {c : Option Addr} {H0 : Hp} {σ : L2.St} {H G : Hp} {ρ : En} (r : Rep K c H0 σ H G ρ) : ∀ vs : List Nat, Rep K c H0 (wipe σ vs) H G (wipeE ρ vs)
  | [] => r
  | v :: vs => (Rep.wipe r vs).setUn
theorem wipe_in {σ : L2.St} {i : Nat} : ∀ {vs : List Nat}, i ∈ vs → (wipe σ vs)[i]? = if i < σ.length then some none else none
  | v :: vs, h => by
    unfold L2.wipe
    by_cases hi : v = i
    · subst hi
      by_cases hl : v < σ.length
      · rw [if_pos hl, List.getElem?_set_self (by rw [wipe_length]; exact hl)]
      · rw [if_neg hl, List.getElem?_eq_none (by rw [List.length_set, wipe_length]; omega)]
    · rw [List.getElem?_set_ne hi]
      rcases List.mem_cons.mp h with e | e
      · exact absurd e.symm hi
      · exact wipe_in e
theorem wipe_eq {σ σ2 : L2.St} {vs ws : List Nat} (hl : σ2.length = (wipe σ vs).length) (hk : ∀ j : Nat, j ∉ ws → σ2[j]? = (wipe σ vs)[j]?) (hw : ∀ j ∈ ws, j ∈ vs) : wipe σ2 vs = wipe σ vs := by
  apply List.ext_getElem?
  intro j
  rw [wipe_length] at hl
  by_cases hj : j ∈ vs
  · rw [wipe_in hj, wipe_in hj, hl]
  · rw [wipe_out hj, hk j fun z => hj (hw j z)]
def Rs.nox {α : Type} (r : Rs α) : Rs α := match r with
  | .exc _ _ => .stuck
  | r => r
theorem Post.nox {c : Option Addr} {H G H1 G1 : Hp} {α β : Type} {r : Rs α} {f : α → Cu → Rs β} {Q : β → Hp → Hp → Cu → Prop} (h : Post K E c H1 G1 (r.nox.bind f) Q) : Post K E0 c H G r (fun a _ _ cu' => Post K E c H1 G1 (f a cu') Q) := by
  cases r with
  | stuck => exact h
  | exc k cu => exact h.elim
  | ok a cu => exact fun _ _ _ _ => h
theorem Rs.bind_assoc {α β γ : Type} (r : Rs α) (f : α → Cu → Rs β) (g : β → Cu → Rs γ) : (r.bind f).bind g = r.bind fun a cu => (f a cu).bind g := by cases r <;> rfl
def gLcL (gg : GG) (gt : GT) (ge : GE) : List PyData → En → Cu → Rs (List PyData)
  | [] => fun _ cu => .ok [] cu
  | d :: r => fun ρ cu => (Rs.ofO (gg d ρ) cu).bind fun ρ1 cu1 => (gt ρ1 cu1).nox.bind fun b cu2 => if b = true then (ge ρ1 cu2).nox.bind fun y cu3 => (gLcL gg gt ge r ρ cu3).bind fun ys cu4 => .ok (y :: ys) cu4 else gLcL gg gt ge r ρ cu2
def gLc (gi : GI) (vs : List Nat) (gg : GG) (gt : GT) (ge : GE) : GI := fun ρ cu => (gi ρ cu).bind fun items cu1 => if items.length < 16777216 then gLcL gg gt ge items (wipeE ρ vs) cu1 else .stuck
structure PTsD (X : Cx) (K : Kx) (E : XK) (ifs : List Expr) (t : TT) (g : GT) : Prop where
  pts : PTs X ifs t
  sem : SemT K E t g
def gYes : GT := fun _ cu => .ok true cu
theorem ptsd_nil : PTsD X K E [] tYes gYes := ⟨pts_nil, fun c H0 G0 σ H G ρ cu Q s q => q H G Ext.refl s.wd⟩
theorem ptsd_one {c : Expr} (h : PTD X K E c tt gt) : PTsD X K E [c] tt gt := ⟨pts_one h.pt, h.sem⟩
theorem sem_lc {wi : TI} {gi : GI} {t1 : TG} {gg : GG} {ws vs : List Nat} (hi : SemI K E wi gi) (hg : SemG K t1 gg ws) (hw : ∀ j ∈ ws, j ∈ vs) (ht : SemT K E0 tt gt) (he : SemE K E0 te ge) : SemF K E (tLc wi t1 tt te vs) (gLc gi vs gg gt ge) := by
  intro c H0 G0 σ H G ρ cu Q s q
  refine hi c H0 G0 σ H G ρ cu _ s (q.bind.imp fun items H1 G1 cu1 x1 w1 q1 J wk Dd hD => ?_)
  split at q1
  case isFalse => exact q1.elim
  case isTrue hlen =>
  have s1 : SRep K c H0 G0 (wipe σ vs) H1 G1 (wipeE ρ vs) cu1 := ⟨w1, s.ext.trans x1, (s.go x1 w1).rep.wipe vs⟩
  have hc : c ≠ some Dd := w1.nc (.of hD)
  obtain ⟨x0, w0, g0⟩ := w1.newH (o := .lst []) hD
  refine ⟨fun i m H' => ∃ G' cu' acc accD, Ext c H1 G1 H' G' ∧ Wd K c H' G' cu' ∧ m = items.length - i ∧ i ≤ items.length ∧ H' Dd = some (.lst acc) ∧ RpL K G' acc accD ∧ G' Dd = none ∧ accD.length ≤ i ∧
      Post K E c H1 G1 ((gLcL gg gt ge (items.drop i) (wipeE ρ vs) cu').bind fun ys cu2 => .ok (accD ++ ys) cu2) (fun ds H' G' _ => ∀ a xs, Fre H a → H' a = some (.lst xs) → RpL K G' xs ds → G' a = none → Q (.ref a) H'),
    ⟨items.length, G1, cu1, [], [], x0, w0, by simp, Nat.zero_le _, upd_same, .nil, g0, Nat.zero_le _, ?_⟩, ?_⟩
  · rw [List.drop_zero]
    have e : ((gLcL gg gt ge items (wipeE ρ vs) cu1).bind fun ys cu2 => Rs.ok ([] ++ ys) cu2) = gLcL gg gt ge items (wipeE ρ vs) cu1 := by
      cases gLcL gg gt ge items (wipeE ρ vs) cu1 <;> rfl
    rw [e]
    exact q1
  · rintro i m H' ⟨G', cu', acc, accD, x', w', rfl, hle, hDd, rD, gD, hac, q⟩
    obtain ⟨wk1, wk2⟩ := wk c H' G' cu' x'.g w'
    by_cases hlt : i < items.length
    · obtain ⟨go, yl⟩ := wk1 i _ (List.getElem?_eq_getElem hlt)
      refine .inr ⟨go, fun H' => ∃ G' cu' acc accD, Ext c H1 G1 H' G' ∧ Wd K c H' G' cu' ∧ H' Dd = some (.lst acc) ∧ RpL K G' acc accD ∧ G' Dd = none ∧ accD.length ≤ i + 1 ∧
        Post K E c H1 G1 ((gLcL gg gt ge (items.drop (i + 1)) (wipeE ρ vs) cu').bind fun ys cu2 => .ok (accD ++ ys) cu2) (fun ds H' G' _ => ∀ a xs, Fre H a → H' a = some (.lst xs) → RpL K G' xs ds → G' a = none → Q (.ref a) H'),
        fun H2 h => ?_, fun x H2 y => ?_⟩
      · obtain ⟨G2, cu2, acc, accD, h1, h2, h3, h4, h5, h6, h7⟩ := h
        exact ⟨items.length - (i + 1), by omega, G2, cu2, acc, accD, h1, h2, rfl, hlt, h3, h4, h5, h6, h7⟩
      · obtain ⟨G2, x2, w2, rx⟩ := yl x H2 y
        have x12 := x'.trans x2
        have d2 : H2 Dd = some (.lst acc) := x2.h _ _ hDd nt_lst hc
        have g2 : G2 Dd = none := x2.n _ _ hDd nt_lst gD
        rw [List.drop_eq_getElem_cons hlt] at q
        have q : Post K E c H1 G1 (((Rs.ofO (gg items[i] (wipeE ρ vs)) cu').bind fun ρ1 cu1 => (gt ρ1 cu1).nox.bind fun b cu2 => if b = true then (ge ρ1 cu2).nox.bind fun y cu3 => (gLcL gg gt ge (items.drop (i + 1)) (wipeE ρ vs) cu3).bind fun ys cu4 => .ok (y :: ys) cu4 else gLcL gg gt ge (items.drop (i + 1)) (wipeE ρ vs) cu2).bind fun ys cu2 => .ok (accD ++ ys) cu2)
          (fun ds H' G' _ => ∀ a xs, Fre H a → H' a = some (.lst xs) → RpL K G' xs ds → G' a = none → Q (.ref a) H') := q
        cases eρ : gg items[i] (wipeE ρ vs) with
        | none => rw [eρ] at q; exact q.elim
        | some ρ1 =>
          rw [eρ] at q
          rw [show (Rs.ofO (some ρ1) cu' : Rs En) = .ok ρ1 cu' from rfl] at q
          have q : Post K E c H1 G1 (((gt ρ1 cu').nox.bind fun b cu2 => if b = true then (ge ρ1 cu2).nox.bind fun y cu3 => (gLcL gg gt ge (items.drop (i + 1)) (wipeE ρ vs) cu3).bind fun ys cu4 => .ok (y :: ys) cu4 else gLcL gg gt ge (items.drop (i + 1)) (wipeE ρ vs) cu2).bind fun ys cu2 => .ok (accD ++ ys) cu2)
            (fun ds H' G' _ => ∀ a xs, Fre H a → H' a = some (.lst xs) → RpL K G' xs ds → G' a = none → Q (.ref a) H') := q
          rw [Rs.bind_assoc] at q
          refine hg c H0 G0 (wipe σ vs) H2 G2 (wipeE ρ vs) cu' x items[i] ρ1 _ (s1.go x12 w2) rx eρ fun σ2 s2 l2 k2 => ⟨wipe_eq l2 k2 hw, ?_⟩
          refine ht c H0 G0 σ2 H2 G2 ρ1 cu' _ s2 (q.nox.imp fun k H3 G3 cu3 x3 w3 q3 => ?_)
          have x13 := x12.trans x3
          have d3 : H3 Dd = some (.lst acc) := x3.h _ _ d2 nt_lst hc
          have g3 : G3 Dd = none := x3.n _ _ d2 nt_lst g2
          cases k with
          | true =>
            rw [if_pos rfl] at q3 ⊢
            rw [Rs.bind_assoc] at q3
            refine he c H0 G0 σ2 H3 G3 ρ1 cu3 _ (s2.go x3 w3) (q3.nox.imp fun yd H4 G4 cu4 x4 w4 q4 v rv => ?_)
            have d4 : H4 Dd = some (.lst acc) := x4.h _ _ d3 nt_lst hc
            have g4 : G4 Dd = none := x4.n _ _ d3 nt_lst g3
            have r4 : RpL K G4 acc accD := rD.mono fun b o e => x4.g _ _ (x3.g _ _ (x2.g _ _ e))
            refine ⟨acc, d4, by rw [r4.length, sizeLine_eq]; omega, G4, cu4, acc ++ [v], accD ++ [yd], (x13.trans x4).updL (.of hD), w4.updL d4 g4 hc, upd_same, r4.app (.cons rv .nil), g4, by rw [List.length_append]; simp only [List.length_singleton]; omega, ?_⟩
            rw [Rs.bind_assoc] at q4
            have e : ((gLcL gg gt ge (items.drop (i + 1)) (wipeE ρ vs) cu4).bind fun ys cu2 => Rs.ok (accD ++ [yd] ++ ys) cu2) = ((gLcL gg gt ge (items.drop (i + 1)) (wipeE ρ vs) cu4).bind fun a cu => (Rs.ok (yd :: a) cu).bind fun ys cu2 => Rs.ok (accD ++ ys) cu2) := by
              cases gLcL gg gt ge (items.drop (i + 1)) (wipeE ρ vs) cu4 with
              | stuck => rfl
              | exc k cu => rfl
              | ok a cu =>
                show Rs.ok (accD ++ [yd] ++ a) cu = Rs.ok (accD ++ (yd :: a)) cu
                rw [List.append_assoc]
                rfl
            rw [e]
            exact q4
          | false =>
            rw [if_neg Bool.false_ne_true] at q3 ⊢
            exact ⟨G3, cu3, acc, accD, x13, w3, d3, rD.mono fun b o e => x3.g _ _ (x2.g _ _ e), g3, by omega, q3⟩
    · have e : i = items.length := by omega
      subst e
      rw [List.drop_length] at q
      have q := q H' G' x' w' Dd acc (x1.free (.of hD)) hDd (by rw [List.append_nil]; exact rD) gD
      exact .inl ⟨wk2, q⟩
/-! trees that only the function tells -/
def tOf (K : Kx) (E : XK) (g : GE) : TE := fun σ H Q => ∃ c H0 G0 G ρ cu, SRep K c H0 G0 σ H G ρ cu ∧ Post K E c H G (g ρ cu) (QD K Q)
def ttOf (K : Kx) (E : XK) (g : GT) : TT := fun σ H Q => ∃ c H0 G0 G ρ cu, SRep K c H0 G0 σ H G ρ cu ∧ Post K E c H G (g ρ cu) (fun b H' _ _ => Q b H')
def tgOf (K : Kx) (g : GG) (ws : List Nat) : TG := fun v σ H Q => ∃ c H0 G0 G ρ cu d ρ', SRep K c H0 G0 σ H G ρ cu ∧ Rp K G v d ∧ g d ρ = some ρ' ∧ ∀ σ', SRep K c H0 G0 σ' H G ρ' cu → σ'.length = σ.length → (∀ j : Nat, j ∉ ws → σ'[j]? = σ[j]?) → Q σ' H
theorem sem_of (K : Kx) (E : XK) (g : GE) : SemE K E (tOf K E g) g := fun c H0 G0 σ H G ρ cu Q s q => ⟨c, H0, G0, G, ρ, cu, s, q⟩
theorem semT_of (K : Kx) (E : XK) (g : GT) : SemT K E (ttOf K E g) g := fun c H0 G0 σ H G ρ cu Q s q => ⟨c, H0, G0, G, ρ, cu, s, q⟩
theorem semG_of (K : Kx) (g : GG) (ws : List Nat) : SemG K (tgOf K g ws) g ws := fun c H0 G0 σ H G ρ cu v d ρ' Q s r e q => ⟨c, H0, G0, G, ρ, cu, d, ρ', s, r, e, q⟩
theorem PD.canon {X : Cx} (h : PD X K E e te ge) : PE X e (tOf K E ge) := ⟨fun pins s σ H Q I ⟨c, H0, G0, G, ρ, cu, r, q⟩ => h.pe.run pins s σ H Q I (h.sem c H0 G0 σ H G ρ cu Q r q)⟩
theorem PTsD.canon {X : Cx} (h : PTsD X K E ifs tt gt) : PTs X ifs (ttOf K E gt) := ⟨fun pins s σ H Q I ⟨c, H0, G0, G, ρ, cu, r, q⟩ => h.pts.run pins s σ H Q I (h.sem c H0 G0 σ H G ρ cu Q r q)⟩
theorem PGD.canon {X : Cx} {t1 : TG} {gg : GG} {ws : List Nat} (h : PGD X K tg t1 gg ws) : PG X tg (tgOf K gg ws) := ⟨fun pins s σ H v u Q I rv ⟨c, H0, G0, G, ρ, cu, d, ρ', r, rd, e, q⟩ => h.pg.run pins s σ H v u Q I rv (h.sem c H0 G0 σ H G ρ cu v d ρ' Q r rd e q)⟩
theorem pf_lc {scope : Scope} {own : List (Str × Nat)} {wi : TI} {gi : GI} {gg : GG} {ws : List Nat} (hc : X.calm = true) (hN : X.N.Nodup) (hi : PID X K E tg iter wi gi) (ok : BlkOk X.N X.env.scope scope own)
    (hg : ∀ (s : Shared) (H : Hp) (C : Addr) (cl : List (Str × Addr)) (fp : List Addr), ∃ t1, PGD (X.blk s H scope (compEnvC scope cl C X.env) fp) K tg t1 gg ws)
    (ht : ∀ (s : Shared) (H : Hp) (C : Addr) (cl : List (Str × Addr)) (fp : List Addr), ∃ tt, PTsD (X.blk s H scope (compEnvC scope cl C X.env) fp) K E0 ifs tt gt)
    (he : ∀ (s : Shared) (H : Hp) (C : Addr) (cl : List (Str × Addr)) (fp : List Addr), ∃ te, PD (X.blk s H scope (compEnvC scope cl C X.env) fp) K E0 elt te ge)
    (hw : ∀ j ∈ ws, j ∈ own.map (·.2) := by decide) (hs : ∀ x, foldedSetIterable iter X.env x = pure x := by intro _; rfl) :
    PFD X K E (.ListComp elt [⟨tg, iter, ifs, 0⟩] scope pos) (tLc wi (tgOf K gg ws) (ttOf K E0 gt) (tOf K E0 ge) (own.map (·.2))) (gLc gi (own.map (·.2)) gg gt ge) :=
  ⟨pe_lc hc hN hi.pi ok (fun s H C cl fp => let ⟨_, h⟩ := hg s H C cl fp; h.canon) (fun s H C cl fp => let ⟨_, h⟩ := ht s H C cl fp; h.canon) (fun s H C cl fp => let ⟨_, h⟩ := he s H C cl fp; h.canon) hs,
    sem_lc hi.sem (semG_of K gg ws) hw (semT_of K E0 gt) (sem_of K E0 ge)⟩
/-- name = [..]: known from now on -/
theorem SemF.set {i : Nat} {t : TE} {g : GI} (h : SemF K E t g) : SemS K E (tAsg t (gName i)) (gSet i (gL g)) := by
  intro c H0 G0 σ H G ρ cu D s q
  exact h.toE c H0 G0 σ H G ρ cu _ s ((q.exp s).imp fun d H1 G1 cu1 x1 w1 q1 v rv => q1 _ H1 G1 ((s.go x1 w1).set rv))
theorem psd_lcSet {i : Nat} {y : Str} {py spos : Pos} {scope : Scope} {own : List (Str × Nat)} {wi : TI} {gi : GI} {gg : GG} {ws : List Nat} (hc : X.calm = true) (hN : X.N.Nodup) (hy : X.N[i]? = some y) (hyl : X.env.scope.names.lookup y = some .local)
    (hsw : swapsWith (.ListComp elt [⟨tg, iter, ifs, 0⟩] scope pos) (some (.Name y py)) spos.line X.env = pure true) (hi : PID X K E tg iter wi gi) (ok : BlkOk X.N X.env.scope scope own)
    (hg : ∀ (s : Shared) (H : Hp) (C : Addr) (cl : List (Str × Addr)) (fp : List Addr), ∃ t1, PGD (X.blk s H scope (compEnvC scope cl C X.env) fp) K tg t1 gg ws)
    (ht : ∀ (s : Shared) (H : Hp) (C : Addr) (cl : List (Str × Addr)) (fp : List Addr), ∃ tt, PTsD (X.blk s H scope (compEnvC scope cl C X.env) fp) K E0 ifs tt gt)
    (he : ∀ (s : Shared) (H : Hp) (C : Addr) (cl : List (Str × Addr)) (fp : List Addr), ∃ te, PD (X.blk s H scope (compEnvC scope cl C X.env) fp) K E0 elt te ge)
    (hw : ∀ j ∈ ws, j ∈ own.map (·.2) := by decide) (hs : ∀ x, foldedSetIterable iter X.env x = pure x := by intro _; rfl) :
    PSD X K E (.Assign [.Name y py] (.ListComp elt [⟨tg, iter, ifs, 0⟩] scope pos) spos) (tAsg (tLc wi (tgOf K gg ws) (ttOf K E0 gt) (tOf K E0 ge) (own.map (·.2))) (gName i)) (gSet i (gL (gLc gi (own.map (·.2)) gg gt ge))) :=
  ⟨ps_setLc hc hN hy hyl hsw hi.pi ok (fun s H C cl fp => let ⟨_, h⟩ := hg s H C cl fp; h.canon) (fun s H C cl fp => let ⟨_, h⟩ := ht s H C cl fp; h.canon) (fun s H C cl fp => let ⟨_, h⟩ := he s H C cl fp; h.canon) hs,
    SemF.set (sem_lc hi.sem (semG_of K gg ws) hw (semT_of K E0 gt) (sem_of K E0 ge))⟩
end
/-! ### a def -/
def gFn (n : Nat) (g : GS) : GF := fun as cu => (g (as ++ List.replicate (n - as.length) .un) cu).bind fun o cu1 => match o with
  | .ret d => .ok d cu1
  | .nx _ => .ok .none cu1
  | _ => .stuck
theorem rep_start {K : Kx} {c : Option Addr} {H G : Hp} {N : List Str} {vs : List V} {as : List Sl} (r : ArgRp K c G vs as) : Rep K c H (L2.start N vs) H G (as ++ List.replicate (N.length - as.length) .un) := by
  have hl := r.length
  have un : ∀ (i : Nat) (s : Sl), s ≠ .un → (as ++ List.replicate (N.length - as.length) Sl.un)[i]? = some s → as[i]? = some s ∧ i < as.length := fun i s hs e => by
    by_cases hi : i < as.length
    · rw [List.getElem?_append_left hi] at e; exact ⟨e, hi⟩
    · rw [List.getElem?_append_right (by omega), List.getElem?_replicate] at e
      split at e
      · cases e; exact (hs rfl).elim
      · cases e
  have at_ : ∀ (i : Nat) (v : V), vs[i]? = some v → (L2.start N vs)[i]? = some (some v) := fun i v e => by
    have hi := (List.getElem?_eq_some_iff.mp e).1
    unfold L2.start
    rw [List.getElem?_append_left (by rw [List.length_map]; exact hi), List.getElem?_map, e]
    rfl
  have get : ∀ {vs : List V} {as : List Sl}, ArgRp K c G vs as → ∀ (i : Nat) (s : Sl), as[i]? = some s → (∃ v d, vs[i]? = some v ∧ s = .dat d ∧ Rp K G v d) ∨ (∃ a, s = .cup ∧ c = some a ∧ vs[i]? = some (V.ref a)) := by
    intro vs as r
    induction r with
    | nil => intro i s e; simp at e
    | @dat v vs d as h _ ih =>
      intro i s e
      cases i with
      | zero => simp at e; subst e; exact .inl ⟨v, d, rfl, rfl, h⟩
      | succ i => simpa using ih i s (by simpa using e)
    | @cup a vs as h _ ih =>
      intro i s e
      cases i with
      | zero => simp at e; subst e; exact .inr ⟨a, rfl, h, rfl⟩
      | succ i => simpa using ih i s (by simpa using e)
  refine ⟨?_, fun i d e => ?_, fun i e => ?_, fun _ => 0, fun i ds e => ?_, fun i j ds es e1 _ => ?_⟩
  · unfold L2.start
    rw [List.length_append, List.length_append, List.length_replicate, List.length_replicate, List.length_map, hl]
  · obtain ⟨e, _⟩ := un i (Sl.dat d) (fun z => nomatch z) e
    rcases get r i _ e with ⟨v, d', e1, e2, r1⟩ | ⟨a, e1, _⟩
    · cases e2; exact ⟨v, at_ i v e1, r1⟩
    · cases e1
  · obtain ⟨e, _⟩ := un i Sl.cup (fun z => nomatch z) e
    rcases get r i _ e with ⟨v, d', e1, e2, r1⟩ | ⟨a, e1, e2, e3⟩
    · cases e2
    · exact ⟨a, e2, at_ i _ e3⟩
  · obtain ⟨e, _⟩ := un i (Sl.own ds) (fun z => nomatch z) e
    rcases get r i _ e with ⟨v, d', e1, e2, r1⟩ | ⟨a, e1, e2, e3⟩
    · cases e2
    · cases e1
  · obtain ⟨e, _⟩ := un i (Sl.own ds) (fun z => nomatch z) e1
    rcases get r i _ e with ⟨v, d', e1, e2, r1⟩ | ⟨a, e1, e2, e3⟩
    · cases e2
    · cases e1
theorem ok_def {P : Program} {w : World} {F : PySem.W.Frag} {mg : Str → Option Value} {base : Heap} {K : Kx} {x qual : Str} {st : Stmt} {f : Addr} {fd : FuncData} {N ps : List Str} {k : Nat} {g : GS} (Fn : Fun F x qual st f fd) (S : FnScope N ps (defScope st))
    (hbody : ∀ (cdv : Value) (A : Around) (outer : List Env) (s : Shared) (H : Hp) (E : XK), Room k (A.deeper (envOfC qual (defScope st) s.heap.objs.size f cdv)) →
      ∃ t, PSsD (cxOf (L2.CX P w) P w F mg base N qual (defScope st) f cdv A outer s H E) K E (defBody st) t g) :
    FnOk P w F mg base (L2.CX P w) (k + 1) f fd ps (spG K ps.length (gFn N.length g)) := by
  refine Fn.okX S (fun vs H Q E h => ?_) (fun cdv A outer s H vs Q E hr h => ?_)
  · obtain ⟨c, G, as, cu, h1, _, h3, _⟩ := h
    rw [h3.length, h1]
  · obtain ⟨c, G, as, cu, h1, wd, h3, q⟩ := h
    obtain ⟨t, ht⟩ := hbody cdv A outer s H E hr
    refine ⟨t, ht.ps, ht.sem c H G (L2.start N vs) H G _ cu _ ⟨wd, Ext.refl, rep_start h3⟩ ?_⟩
    unfold gFn at q
    cases hg : g (as ++ List.replicate (N.length - as.length) .un) cu with
    | stuck => rw [hg] at q; exact q
    | exc k cu1 => rw [hg] at q; exact q
    | ok o cu1 =>
      rw [hg] at q
      cases o with
      | nx ρ' => exact fun σ' H' G' s' => q H' G' s'.ext s'.wd _ .non
      | ret d => exact fun v H' G' x w r => q H' G' x w v r
      | brk ρ' => exact q.elim
      | ct ρ' => exact q.elim
end DL

set_option Elab.async false
set_option linter.all false
set_option maxRecDepth 100000
set_option autoImplicit false
namespace DL
open PySem PySem.Spec PyProof.Rows L2
theorem bb_abs : bootBuiltins "abs" = some (.builtin "abs") := by decide +kernel
theorem bb_len : bootBuiltins "len" = some (.builtin "len") := by decide +kernel
theorem bb_min : bootBuiltins "min" = some (.builtin "min") := by decide +kernel
theorem bb_max : bootBuiltins "max" = some (.builtin "max") := by decide +kernel
theorem bb_sum : bootBuiltins "sum" = some (.builtin "sum") := by decide +kernel
theorem bb_all : bootBuiltins "all" = some (.builtin "all") := by decide +kernel
theorem bb_int : bootBuiltins "int" = some (.type "int") := by decide +kernel
theorem bb_bool : bootBuiltins "bool" = some (.type "bool") := by decide +kernel
theorem bb_str : bootBuiltins "str" = some (.type "str") := by decide +kernel
theorem bb_tuple : bootBuiltins "tuple" = some (.type "tuple") := by decide +kernel
theorem bb_list : bootBuiltins "list" = some (.type "list") := by decide +kernel
/-- a def of the text that keeps g -/
def DefOk (P : Program) (w : World) (F : PySem.W.Frag) (mg : Str → Option Value) (base : Heap) (K : Kx) (x : Str) (k n : Nat) (g : GF) : Prop :=
  ∃ (f : Addr) (fd : FuncData) (ps : List Str), FnOk P w F mg base (L2.CX P w) k f fd ps (spG K n g) ∧ mg x = some (.ref f) ∧ PySem.W.keepIn F (.ref f) = true ∧ Binds F fd ps []
theorem pd_callD {X : Cx} {K : Kx} {E : XK} {e : Expr} {es : List Expr} {t : TA} {g : GA} {pos p : Pos} {k n : Nat} {x : Str} {gf : GF} (D : DefOk X.prog X.w X.K X.mg X.base K x k n gf) (hr : Room k X.A) (hg : Gl X x) (hx : Passes (L2.CX X.prog X.w) X E) (ha : PAD X K E (e :: es) t g)
    (hdb : (x == ("__debug__" : Str)) = false := by decide) (he : starEach (e :: es) X.env = (false, eval e X.env) :: starEach es X.env := by rfl) (hpl : (backTo pos (starEach es X.env)).any (·.1) = false := by rfl) :
    PD X K E (.Call (.Name x p) (e :: es) [] pos) (tCall (spG K n gf) [] E t) (gApp n gf g) := by
  obtain ⟨f, fd, ps, F, hm, hk, hb⟩ := D
  exact pd_call F hr hg hm hk hb hx ha hdb he hpl
theorem pd_callD0 {X : Cx} {K : Kx} {E : XK} {pos p : Pos} {k : Nat} {x : Str} {gf : GF} (D : DefOk X.prog X.w X.K X.mg X.base K x k 0 gf) (hr : Room k X.A) (hg : Gl X x) (hx : Passes (L2.CX X.prog X.w) X E) (hdb : (x == ("__debug__" : Str)) = false := by decide) :
    PD X K E (.Call (.Name x p) [] [] pos) (tCall (spG K 0 gf) [] E tNil) (fun _ cu => gf [] cu) := by
  obtain ⟨f, fd, ps, F, hm, hk, hb⟩ := D
  exact pd_call0 F hr hg hm hk hb hx hdb
end DL

set_option Elab.async false
set_option linter.all false
set_option maxRecDepth 100000
set_option autoImplicit false
namespace DL
open PySem PySem.Spec PyProof.Rows L2
/-! ### f(lambda: e), f a def that tells which error e raises -/
def TTerr (K : Kx) (ok : Nat → Bool) (txt : Nat → Str) : (XK → Hp → VK → Prop) → Hp → VK → Prop := fun tl H Q =>
  tl (fun cls _ H' => ∃ k, cls = .ref (K.CL k) ∧ ok k = true ∧ Q (.str (txt k)) H') H (fun _ H' => Q (.str "") H')
def gLam (ok : Nat → Bool) (txt : Nat → Str) (g : GE) : GE := fun ρ cu => match g ρ cu with
  | .stuck => .stuck
  | .exc k cu' => if ok k = true then .ok (.str (txt k)) cu' else .stuck
  | .ok _ cu' => .ok (.str "") cu'
theorem gives_err {X : Cx} {K : Kx} {ok : Nat → Bool} {txt : Nat → Str} {Ng : List Str} {x a q : Str} {sg : Scope} {g : Addr} {cdg : Value} {h₀ : ExceptHandler} {hds : List ExceptHandler} {l : List (Value × (Addr → Value → Option Addr → TS))} {j : Nat} {p1 p2 p3 p4 p5 p6 : Pos}
    (hh : ∀ (s : Shared) (H : Hp), HdsOk (cxOf C8.CX0 X.prog X.w X.K X.mg X.base Ng x sg g cdg X.A X.stack s H C8.E0).nox (h₀ :: hds) l)
    (hl : ∀ (k : Nat) (d : Option Addr) (D : Ends) (σ : L2.St) (H : Hp), ok k = true → D.rt (.str (txt k)) H → wMany X.K (fun _ _ _ _ => False) D l (.ref (K.CL k)) d σ H)
    (h0 : ∀ f : Addr, (L2.start Ng [V.ref f])[0]? = some (some (V.ref f)))
    (hsw : ∀ (Y : Cx), swapsWith (.Call (.Name a p1) [] [] p2) none p3.line Y.env = pure false := by intro _; rfl) :
    LamX.GivesTo X Ng x sg g cdg [.Try [.Expr (.Call (.Name a p1) [] [] p2) p3] (h₀ :: hds) [] [] p4, .Return (some (.Constant (.str "") j p5)) p6] a q (TTerr K ok txt) := by
  intro f c' s H Q tl act hc h
  refine ⟨_, pss_cons (ps_try_many (X := (cxOf C8.CX0 X.prog X.w X.K X.mg X.base Ng x sg g cdg X.A X.stack s H C8.E0).nox) (Wout := fun _ _ _ _ => False)
      (tb := fun W D σ H => ∃ Ech : XK, (∀ cls d σ' H', Ech cls d H' → W cls d σ' H') ∧ σ[0]? = some (some (.ref f)) ∧ H c' = some (LamX.CodeO c' q) ∧ tl Ech H (fun _ H' => D.nx σ H'))
      rfl rfl LamX.takes0 (fun W pn xe tk _ => ?_) (hh s H)) (pss_one (ps_ret pe_str)), ?_⟩
  · refine ⟨fun pins s' σ H' D I h' => ?_⟩
    obtain ⟨Ech, hW, h1, h2, h3⟩ := h'
    have hp := act W pn xe Ech p1 p2 tk hW
    have hq := pss_one (ps_expr (pos := p3) hp (hsw _))
    exact hq.run pins s' σ H' D I ⟨h1, h2, h3⟩
  · exact ⟨fun cls _ H' => ∃ k, cls = .ref (K.CL k) ∧ ok k = true ∧ Q (.str (txt k)) H', fun cls d σ' H' ⟨k, e1, e2, e3⟩ => by subst e1; exact hl k d _ σ' H' e2 e3, h0 f, hc, h⟩
section
variable {X : Cx} {K : Kx} {E : XK}
theorem pd_lamErr {ok : Nat → Bool} {txt : Nat → Str} {x a : Str} {g c P : Addr} {k : Nat} {pg : Arguments} {bg : List Stmt} {sg : Scope} {dV kV doc pm cdv ct oc : Value} {an od : Option Addr} {osl : Array (Option Value)} {Ng : List Str}
    {params : Arguments} {body : Expr} {scope : Scope} {gb : GE} {p lpos pos : Pos} (hg : Gl X x) (hm : X.mg x = some (.ref g)) (hk : PySem.W.keepIn X.K (.ref g) = true)
    (lk : X.K.lookup g = some ⟨oc, od, .func (PySem.W.fnOf x x pg bg sg dV kV doc pm an cdv ct), osl⟩) (hcg : PySem.W.codeIn X.K cdv x = true) (hb : L2.Binds X.K (PySem.W.fnOf x x pg bg sg dV kV doc pm an cdv ct) [a] []) (Sg : FnScope Ng [a] sg) (hNg : Ng[0]? = some a) (hva : Vis sg a)
    (hG : LamX.GivesTo X Ng x sg g cdv bg a (X.env.qual ++ "<lambda>") (TTerr K ok txt))
    (TB : LamX.TabB X.base X.mg c P) (hcode : X.env.code = .ref c) (hmT : (P, X.env.qual ++ "<lambda>") ∈ K.T) (hu : ∀ p ∈ K.T, p.1 = P → p.2 = X.env.qual ++ "<lambda>") (hr : Room (k + 2) X.A) (L : LamX.LamS X.env.scope scope) (hdef : defaultsOf params X.env = ([], []))
    (hbind : ∀ (q : Str) (cl : List (Str × Addr)) (pm cv ctv : Value), bindArgs (PySem.W.kla_fn "<lambda>" q params body scope cl pm cv ctv) ⟨[], []⟩ = pure [])
    (hbody : ∀ (A : Around) (outer : List Env) (s : Shared) (H : Hp) (E : XK) (f c' : Addr), Room k (A.deeper (LamX.lamEnv X scope s.heap.objs.size f c')) → ∃ t, PD (LamX.lamCx X A outer s H E scope f c') K E body t gb)
    (hdb : (x == ("__debug__" : Str)) = false := by decide) (hd : (a == ("__debug__" : Str)) = false := by decide) (hcd : (a == ("__classdict__" : Str)) = false := by decide) :
    PD X K E (.Call (.Name x p) [.Lambda params body scope lpos] [] pos) (LamX.tLam K.T (TTerr K ok txt) (fun E' => tOf K E' gb)) (gLam ok txt gb) := by
  refine ⟨LamX.pe_lamcall hg hm hk lk hcg hb Sg hNg hva hG TB hcode hmT hu hr L hdef hbind (fun A outer s H E' f c' hr' => let ⟨_, h⟩ := hbody A outer s H E' f c' hr'; h.canon) hdb hd hcd, fun c0 H0 G0 σ H G ρ cu Q s q => ⟨s.wd.tab, fun H1 eN T1 => ?_⟩⟩
  have x1 : Ext c0 H G H1 G := ⟨fun b o e n _ => eN b o e n, fun b o e n => ⟨o, eN b o e n, n⟩, fun _ _ e => e, fun _ _ _ _ e => e⟩
  · have w1 : Wd K c0 H1 G cu := by
      refine ⟨fun b o e => eN b o (s.wd.sub _ _ e) fun ps z => s.wd.nt b ps (by rw [← z]; exact e), T1, s.wd.nt, fun a ha => ?_⟩
      · obtain ⟨h1, h2⟩ := s.wd.cup a ha
        exact ⟨eN _ _ h1 (fun ps z => by cases z), h2⟩
    refine ⟨c0, H0, G0, G, ρ, cu, s.go x1 w1, ?_⟩
    unfold gLam at q
    cases hgb : gb ρ cu with
    | stuck => rw [hgb] at q; exact q
    | exc k cu' =>
      rw [hgb] at q
      dsimp only at q
      split at q
      · rename_i hk
        exact fun H' G' x w => ⟨k, rfl, hk, q H' G' (x1.trans x) w _ (.str _)⟩
      · exact q.elim
    | ok d cu' =>
      rw [hgb] at q
      exact fun H' G' x w v _ => q H' G' (x1.trans x) w _ (.str _)
end
end DL

set_option Elab.async false
set_option linter.all false
set_option maxRecDepth 100000
set_option maxHeartbeats 2000000
set_option autoImplicit false
namespace DL
open PySem PySem.Spec PyProof.Rows L2
/-! ### all(f(x) for x in a tuple), f a def that tells whether its argument is an integer -/
/-- what isinstance asks of a value, lasting -/
def KitD (F : PySem.W.Frag) (v : Value) (d : PyData) (P : Addr) (h : Heap) : Prop :=
  ∃ (n : String) (Pz : Heap → Prop), tyName d = some n ∧ PySem.W.KitX F v (.type n) Pz ∧ Pz h ∧ v ≠ .builtin "__main__.__loader__#opaque" ∧ ∀ h' : Heap, (∀ b o, b ≠ P → h.get? b = some o → h'.get? b = some o) → Pz h'
theorem KitD.keep {F : PySem.W.Frag} {v : Value} {d : PyData} {P : Addr} {h h' : Heap} (k : KitD F v d P h) (e : ∀ b o, b ≠ P → h.get? b = some o → h'.get? b = some o) : KitD F v d P h' := by
  obtain ⟨n, Pz, h1, h2, h3, h4, h5⟩ := k
  exact ⟨n, Pz, h1, h2, h5 h' e, h4, fun h'' e' => h5 h'' fun b o nb z => e' b o nb (e b o nb z)⟩
theorem kitD_of {X : Cx} {K : Kx} (hKF : K.F = X.K) {pins : List (Addr × Obj)} {σ : L2.St} {H : Hp} {s : Shared} {x : V} {u : Value} {d : PyData} {P : Addr} {tb : Array Value} (I : Inv X pins σ H s) (rv : RelV x u) (r : Rp K H x d) (hP : H P = some (.tbl tb)) : KitD X.K u d P s.heap := by
  cases r with
  | non => cases (show u = Value.none from rv); exact ⟨_, _, rfl, PySem.W.kitx_none, trivial, (fun z => nomatch z), fun _ _ => trivial⟩
  | bl y => cases (show u = Value.bool y from rv); exact ⟨_, _, rfl, PySem.W.kitx_bool, trivial, (fun z => nomatch z), fun _ _ => trivial⟩
  | int i => obtain ⟨t, q⟩ := (show ∃ t, u = Value.int i t from rv); cases q; exact ⟨_, _, rfl, PySem.W.kitx_int, trivial, (fun z => nomatch z), fun _ _ => trivial⟩
  | str y => obtain ⟨t, q⟩ := (show ∃ t, u = Value.str y t from rv); cases q; exact ⟨_, _, rfl, PySem.W.kitx_str, trivial, (fun z => nomatch z), fun _ _ => trivial⟩
  | @lst a xs ds ea _ =>
    cases (show u = Value.ref a from rv)
    obtain ⟨_, _, n, _, h1⟩ := (show ObjOk X.prog X.w H s.heap a (.lst xs) from I.hok a _ ea)
    exact ⟨_, _, rfl, PySem.W.kitx_list, ⟨_, h1, rfl⟩, (fun z => nomatch z), fun h' e => ⟨_, e _ _ (fun z => by rw [z, hP] at ea; cases ea) h1, rfl⟩⟩
  | @tupA a xs ds ea _ =>
    cases (show u = Value.ref a from rv)
    rcases ea with ea | ⟨o, its, n, hk, hc, _⟩
    case inr =>
      have h1 := I.kIn a o (hKF ▸ hk) 
      have hP1 : s.heap.get? P = some { cls := .none, data := .fields tb } := I.hok P _ hP
      exact ⟨_, _, rfl, PySem.W.kitx_tuple, ⟨o, h1, hc⟩, (fun z => nomatch z), fun h' e => ⟨o, e _ _ (fun z => by rw [z, hP1] at h1; cases h1; cases hc) h1, hc⟩⟩
    obtain ⟨_, _, _, o, h1, h2, _⟩ := (show ObjOk X.prog X.w H s.heap a (.tup xs) from I.hok a _ ea)
    exact ⟨_, _, rfl, PySem.W.kitx_tuple, ⟨o, h1, h2⟩, (fun z => nomatch z), fun h' e => ⟨o, e _ _ (fun z => by rw [z, hP] at ea; cases ea) h1, h2⟩⟩
def isIntD : PyData → Bool
  | .int _ => true
  | _ => false
def isIB : PyData → Bool
  | .int _ => true
  | .bool _ => true
  | _ => false
def isBD : PyData → Bool
  | .bool _ => true
  | _ => false
theorem Keeps.trans' {a b c : Shared} (x : Keeps a b) (y : Keeps b c) : Keeps a c := by
  obtain ⟨h1, t1, rfl, k1⟩ := x
  obtain ⟨h2, t2, rfl, k2⟩ := y
  exact ⟨h2, t2, rfl, fun b o e => k2 b o (k1 b o e)⟩
/-- the text of such a def -/
def isIntBody (q1 q2 q3 q4 q5 q6 q7 q8 q9 q10 q11 : Pos) : List Stmt :=
  [.Return (some (.BoolOp .And [.Call (.Name "isinstance" q1) [.Name "value" q2, .Name "int" q3] [] q4, .UnaryOp .Not (.Call (.Name "isinstance" q5) [.Name "value" q6, .Name "bool" q7] [] q8) q9] q10)) q11]
section
variable {prog : Program} {w : World} {F : PySem.W.Frag} {mg mb : Str → Option Value} {base : Heap}
structure BaseOk (F : PySem.W.Frag) (mg mb : Str → Option Value) (base : Heap) : Prop where
  kin : F.In base
  glob : base.Ns mainGlobals mg
  blt : base.Ns builtinsNs mb
  bb : ∀ x : Str, x ≠ "__name__" → mb x = bootBuiltins x
  lim : base.NoLimit
/-- isinstance(value, T) in a frame of such a def -/
theorem isi_raw {A : Around} {E : Value → Shared → Prop} {Q : Value → Shared → Prop} {env : Env} {T : Str} {tn : String} {p1 p2 p3 p4 : Pos} {s : Shared} {m : Str → Option Value} {v : Value} {d : PyData} {P : Addr} {r : Bool} (B : BaseOk F mg mb base) (hk : env.scope.kind = .function) (hg1 : env.kindOf "isinstance" = some .globalImplicit) (hgT : env.kindOf T = some .globalImplicit) (hl : env.kindOf "value" = some .local)
    (eg : env.globals = mainGlobals) (eb : env.builtins = builtinsNs) (m1 : mg "isinstance" = none) (m2 : mg T = none) (hT : bootBuiltins T = some (.type tn)) (nT : T ≠ "__name__") (dT : (T == ("__debug__" : Str)) = false)
    (kp : ∀ b o, base.get? b = some o → s.heap.get? b = some o) (hn : s.heap.Ns env.locals m) (hv : m "value" = some v) (kd : KitD F v d P s.heap) (hr : isiOf tn d = some r) (hQ : ∀ s', Keeps s s' → Q (.bool r) s') :
    wpAny (model prog w) A (eval (.Call (.Name "isinstance" p1) [.Name "value" p2, .Name T p3] [] p4) env) Q E s := by
  refine wpAny_Call_Name_kw (Calls.Name_function_global hk hg1 (Calls.loadGlobal_builtin (by rw [eg]; exact B.glob.keeps kp) m1 (by rw [eb]; exact B.blt.keeps kp) ((B.bb _ (by decide)).trans (show bootBuiltins "isinstance" = some (.builtin "isinstance") from by decide +kernel)) ?_) (by decide))
  refine PyProof.Rows.callWith_builtin1 ?_ (by rfl) (by rfl)
  show wpAny _ _ (spliced ((false, eval (.Name "value" p2) env) :: (false, eval (.Name T p3) env) :: [])) _ _ s
  refine Calls.spliced_cons (wpAny_Name (wpAny_loadName_local hk hl hn hv ?_) (by decide))
  refine Calls.spliced_cons (Calls.Name_function_global hk hgT (Calls.loadGlobal_builtin (by rw [eg]; exact B.glob.keeps kp) m2 (by rw [eb]; exact B.blt.keeps kp) ((B.bb _ nT).trans hT) ?_) dT)
  refine Calls.spliced_nil ?_
  obtain ⟨n, Pz, e1, Z, p, hx, _⟩ := kd
  unfold isiOf at hr
  rw [e1] at hr
  exact PySem.W.kia_one Z (B.kin.keeps kp) p (kit_ty hr) hx fun tk => hQ _ ⟨s.heap, tk, rfl, fun _ _ e => e⟩
theorem isInt_call {f : Addr} {x : Str} {params : Arguments} {sc : Scope} {dV kV doc pm cdv ct oc : Value} {an od : Option Addr} {osl : Array (Option Value)} {q1 q2 q3 q4 q5 q6 q7 q8 q9 q10 q11 : Pos} {A : Around} {R : Result → Shared → Prop} {s : Shared} {v : Value} {d : PyData} {P : Addr}
    (B : BaseOk F mg mb base) (lk : F.lookup f = some ⟨oc, od, .func (PySem.W.fnOf x x params (isIntBody q1 q2 q3 q4 q5 q6 q7 q8 q9 q10 q11) sc dV kV doc pm an cdv ct), osl⟩) (hcd : PySem.W.codeIn F cdv x = true)
    (m1 : mg "isinstance" = none) (m2 : mg "int" = none) (m3 : mg "bool" = none) (hb : BindsTo s (PySem.W.fnOf x x params (isIntBody q1 q2 q3 q4 q5 q6 q7 q8 q9 q10 q11) sc dV kV doc pm an cdv ct) ⟨[v], []⟩ [("value", v)])
    (hsc : sc = { kind := .function, names := [("value", .local), ("isinstance", .globalImplicit), ("int", .globalImplicit), ("bool", .globalImplicit)], isGenerator := false, isCoroutine := false })
    (hd : A.depth < recursionLimit) (kp : ∀ b o, base.get? b = some o → s.heap.get? b = some o) (kd : KitD F v d P s.heap) (hR : ∀ s', Keeps s s' → R (.ok (.ret (.bool (isIntD d)))) s') :
    codeAny (model prog w) A (.call (.ref f) ⟨[v], []⟩) R s := by
  subst hsc
  refine Att.call_fn (K := F) (B.kin.keeps kp) (B.lim.keeps kp) lk hcd hd hb rfl (fun s₁ IC => ?_) rfl rfl rfl
  obtain ⟨h₁, tk₁, rfl, k⟩ := IC.done
  have hn := IC.toInCall.ns
  have k0 : Keeps s { s with heap := h₁, toks := tk₁ } := ⟨h₁, tk₁, rfl, k⟩
  have kp1 : ∀ b o, base.get? b = some o → h₁.get? b = some o := fun b o e => k b o (kp b o e)
  have kd1 := kd.keep fun b o _ e => k b o e
  obtain ⟨n, Pz, e1, _⟩ := id kd
  have i1 : isiOf "int" d = some (isIB d) := by
    cases d <;> first | rfl | (cases e1)
  have i2 : isiOf "bool" d = some (isBD d) := by
    cases d <;> first | rfl | (cases e1)
  show wpAny _ _ (execs _ _) _ _ _
  refine wpAny_execs_cons (wpAny_Return_some (BoolOp_and ?_))
  refine isi_raw (s := { s with heap := h₁, toks := tk₁ }) (v := v) B rfl rfl rfl rfl rfl rfl m1 m2 (tn := "int") (by decide +kernel) (by decide) (by decide) kp1 hn (by first | rfl | with_unfolding_all rfl) kd1 i1 fun s2 k2 => ?_
  refine wpAny_truthy_bool ?_
  cases hd : isIB d with
  | false =>
    refine ite_ff ?_
    have e : isIntD d = false := by cases d <;> first | rfl | (cases hd)
    have z := hR s2 (Keeps.trans' k0 k2)
    rw [e] at z
    exact z
  | true =>
    refine ite_tt (BoolOp_one (UnaryOp_ ?_))
    obtain ⟨h2, t2, rfl, k2'⟩ := k2
    refine isi_raw (s := { s with heap := h2, toks := t2 }) (v := v) B rfl rfl rfl rfl rfl rfl m1 m3 (tn := "bool") (by decide +kernel) (by decide) (by decide) (fun b o e => k2' b o (kp1 b o e)) (hn.keeps k2') (by first | rfl | with_unfolding_all rfl) (kd1.keep fun b o _ e => k2' b o e) i2 fun s3 k3 => ?_
    refine PyProof.Rows.not_of (wpAny_truthy_bool ?_)
    have e : isIntD d = !(isBD d) := by cases d <;> first | rfl | (cases hd)
    have z := hR s3 (Keeps.trans' k0 (Keeps.trans' ⟨h2, t2, rfl, k2'⟩ k3))
    rw [e] at z
    exact z
end
end DL

set_option Elab.async false
set_option linter.all false
set_option maxRecDepth 100000
set_option maxHeartbeats 2000000
set_option autoImplicit false
namespace DL
open PySem PySem.Spec PyProof.Rows L2
section
variable {X : Cx} {pins : List (Addr × Obj)} {σ : L2.St} {H : Hp} {s : Shared}
theorem inv_gens {h' : Heap} {g' : Array GenState} {d' : Drawn} {t' : Nat} (I : Inv X pins σ H s) (k : ∀ b o, s.heap.get? b = some o → h'.get? b = some o) (hg : AllBare g') : Inv X pins σ H { s with heap := h', gens := g', drawn := d', toks := t' } :=
  I.step (g' := g') (d' := d') (ch := []) (fun b hb => absurd hb (by simp)) (fun b o _ _ _ e n => k b o e) (fun b o _ _ _ e n => ⟨o.slots, k b o e⟩) (fun b o _ e n => n) (fun b o _ e => ⟨o, k b o e⟩) (fun b xs e => e) (fun b o u e => e) (fun b qs e => ⟨#[], by simp [e]⟩)
    (fun m hn => let ⟨ob, es, ep, ho, r⟩ := hn; ⟨ob, es, ep, k _ ob ho, r⟩) (fun b u e => (I.hok b u e).stay (fun d v _ q => k d v q) (fun d q => q) fun d xs q => q) hg
theorem inv_table' {P c : Addr} {q : Str} {ps more : Array Value} {h' : Heap} {g' : Array GenState} {d' : Drawn} {t' : Nat} (I : Inv X pins σ H s) (hP : H P = some (.tbl ps)) (k : ∀ b o, b ≠ P → s.heap.get? b = some o → h'.get? b = some o)
    (hm : h'.get? P = some { cls := .none, data := .fields (ps ++ more) }) (hc : s.heap.objs.size ≤ c) (ho : ∃ (oc : Obj) (vs : Array Value) (t : Tok), h'.get? c = some oc ∧ oc.data = .fields vs ∧ vs[1]? = some (.str q t)) (hg : AllBare g') :
    Inv X pins σ (upd (upd H P (.tbl (ps ++ more))) c (LamX.CodeO c q)) { s with heap := h', gens := g', drawn := d', toks := t' } := by
  have nC : H c = none := I.hok.fresh hc
  have nPc : P ≠ c := ne_of_none hP nC
  have at_ : ∀ b, b ≠ P → b ≠ c → upd (upd H P (.tbl (ps ++ more))) c (LamX.CodeO c q) b = H b := fun b h1 h2 => by rw [upd_ne h2, upd_ne h1]
  have atP : upd (upd H P (.tbl (ps ++ more))) c (LamX.CodeO c q) P = some (.tbl (ps ++ more)) := by rw [upd_ne nPc, upd_same]
  have nP : ∀ b u, H b = some u → (∀ q, u ≠ .tbl q) → b ≠ P := fun b u e q z => by
    rw [z, hP] at e
    exact q ps (Option.some.inj e).symm
  have nN : ∀ b, H b = none → b ≠ P := fun b e z => by
    rw [z, hP] at e
    cases e
  have lt' : ∀ b o, s.heap.get? b = some o → b ≠ c := fun b o e z => by
    rw [z] at e
    exact Nat.lt_irrefl _ (Nat.lt_of_lt_of_le (Heap.lt_size e) hc)
  have sm : ∀ b u, H b = some u → b ≠ c := fun b u e => ne_of_none e nC
  refine I.step (g' := g') (d' := d') (ch := []) (fun b hb => absurd hb (by simp)) (fun b o _ _ _ e n => k b o (nN b n) e) (fun b o _ _ _ e n => ⟨o.slots, k b o (nN b n) e⟩)
    (fun b o _ e n => by rw [at_ b (nN b n) (lt' b o e)]; exact n) (fun b o _ e => ?_) (fun b xs e => by rw [at_ b (nP b _ e (fun q z => by cases z)) (sm b _ e)]; exact e) (fun b o u e => by rw [at_ b (nP b _ e (fun q z => by cases z)) (sm b _ e)]; exact e) (fun b qs e => ?_) (fun m hn => ?_) (fun b u e => ?_) hg
  · by_cases hb : b = P
    · rw [hb]
      exact ⟨_, hm⟩
    · exact ⟨o, k b o hb e⟩
  · by_cases hb : b = P
    · rw [hb, hP] at e
      cases e
      rw [hb, atP]
      exact ⟨more, rfl⟩
    · rw [at_ b hb (sm b _ e), e]
      exact ⟨#[], by simp⟩
  · obtain ⟨ob, es, ep, ho, r⟩ := hn
    exact ⟨ob, es, ep, k _ ob (nN _ I.free) ho, r⟩
  · by_cases hb : b = c
    · rw [hb, upd_same] at e
      cases e
      rw [hb]
      obtain ⟨oc, vs, t, e1, e2, e3⟩ := ho
      exact ⟨⟨oc, vs, t, e1, e2, e3⟩, ⟨oc, e1⟩, fun h1 h2 ⟨oc, vs, t, a, b, c⟩ st => ⟨oc, vs, t, st _ a, b, c⟩⟩
    · by_cases hb2 : b = P
      · rw [hb2, atP] at e
        cases e
        rw [hb2]
        exact hm
      · rw [at_ b hb2 hb] at e
        refine (I.hok b u e).stay (fun d v hd q => k d v ?_ q) (fun d q => by rw [at_ d (nP d _ q (fun q z => by cases z)) (sm d _ q)]; exact q) fun d xs q => by rw [at_ d (nP d _ q (fun q z => by cases z)) (sm d _ q)]; exact q
        rcases hd with z | z
        · rw [z]
          exact hb2
        · exact nP d _ z (fun q z => by cases z)
/-- a def that tells something of one value -/
def Tells (prog : Program) (w : World) (F : PySem.W.Frag) (base : Heap) (f : Addr) (b : PyData → Bool) : Prop := ∀ (A : Around) (R : Result → Shared → Prop) (s : Shared) (v : Value) (d : PyData) (P : Addr), A.depth < recursionLimit →
  (∀ b o, base.get? b = some o → s.heap.get? b = some o) → KitD F v d P s.heap → (∀ s', Keeps s s' → R (.ok (.ret (.bool (b d)))) s') → codeAny (model prog w) A (.call (.ref f) ⟨[v], []⟩) R s
def trD (b : PyData → Bool) (ds : List PyData) (j : Nat) : Bool := match ds[j]? with
  | some d => b d
  | none => false
theorem trD_some {b : PyData → Bool} {ds : List PyData} {j : Nat} {d : PyData} (h : ds[j]? = some d) : trD b ds j = b d := by
  unfold trD
  rw [h]
theorem all_trD (b : PyData → Bool) (ds : List PyData) : (List.range ds.length).all (trD b ds) = ds.all b := by
  rw [Bool.eq_iff_iff, List.all_eq_true, List.all_eq_true]
  constructor
  · intro h d hd
    obtain ⟨j, hj, e⟩ := List.getElem_of_mem hd
    have q := h j (List.mem_range.mpr hj)
    rw [trD_some (List.getElem?_eq_getElem hj), e] at q
    exact q
  · intro h j hj
    have hj' := List.mem_range.mp hj
    rw [trD_some (List.getElem?_eq_getElem hj')]
    exact h _ (List.getElem_mem hj')
/-- the generator g over ds, ready to be walked, in the state s5; H1: what was held before -/
def ReadyD (X : Cx) (pins : List (Addr × Obj)) (σ : L2.St) (H1 : Hp) (T : List (Addr × Str)) (b : PyData → Bool) (ds : List PyData) (g : Addr) (s5 : Shared) : Prop :=
  ∃ (fp wr : List Addr) (G : Array GenState → Array GenState → Prop) (F : Nat → Value → Prop) (St : Nat → Shared → Prop),
    WalksS X.prog X.w X.A.in1 g fp wr G ds.length F St ∧ St 0 s5 ∧ TruthOf X.prog X.w X.A.in1 F (trD b ds) ∧
    ∀ s', Moved wr G s5 s' → ∃ H2, (∀ b o, H1 b = some o → NT o → H2 b = some o) ∧ LamX.Tabs T H2 ∧ Inv X pins σ H2 s'
theorem gen_all {K : Kx} {c P f : Addr} {iter : Expr} {x fx : Str} {px gpos p1 p2 p3 : Pos} {scope : Scope} {te : TE} {k : Nat} {b : PyData → Bool} {Q' : Value → Shared → Prop} {R : List PyData → Hp → Prop} {T : List (Addr × Str)}
    (hr : Room (k + 2) X.A) (TB : LamX.TabB X.base X.mg c P) (hcode : X.env.code = .ref c) (S : GxR.GenS X.env scope x) (hi : PE X iter te) (hmT : (P, X.env.qual ++ "<genexpr>") ∈ T) (hu : ∀ p ∈ T, p.1 = P → p.2 = X.env.qual ++ "<genexpr>")
    (hfx : scope.names.lookup fx = some .globalImplicit) (hmf : X.mg fx = some (.ref f)) (hkf : PySem.W.keepIn X.K (.ref f) = true) (hT : L2.Mod X.K X.mg X.base → Tells X.prog X.w X.K X.base f b) (hdf : (fx == ("__debug__" : Str)) = false) (hdx : (x == ("__debug__" : Str)) = false)
    (hs : ∀ v, genFold iter X.env v = pure v) (hKF : K.F = X.K) (I : Inv X pins σ H s) (h : te σ H fun v H1 => ∃ a xs ds, v = .ref a ∧ SqT X.K H1 a xs ∧ RpL K H1 xs ds ∧ LamX.Tabs T H1 ∧ R ds H1)
    (hQ : ∀ ds H1 g s5, R ds H1 → ReadyD X pins σ H1 T b ds g s5 → Q' (.ref g) s5) :
    wpAny (model X.prog X.w) X.A (eval (.GeneratorExp (.Call (.Name fx p1) [.Name x p2] [] p3) [⟨.Name x px, iter, [], 0⟩] scope gpos) X.env) Q' X.xe s := by
  refine wpAny_GeneratorExp_walksQD hr.hd S.co (closure_ok S.free) S.cell S.dot S.loc S.kind (by have := hr.dp; omega) ?_ hs
  refine thn (hi.run pins s σ H _ I h) fun xv s1 ⟨v, H1, I1, r1, q1⟩ => ?_
  obtain ⟨a, xs, ds, rfl, ha, hds, hTs, q1⟩ := q1
  obtain rfl : xv = .ref a := r1
  obtain ⟨its, hvs, ht, _⟩ := I1.tuple ha
  have htI : s1.heap.IsTuple a its.toArray := by
    obtain ⟨o, e1, e2, e3⟩ := ht
    exact ⟨o, e1, e2, by first | exact e3 | exact ⟨_, e3⟩ | exact e3.1⟩
  obtain ⟨ps, hP, htr, hamong⟩ := hTs _ hmT
  refine wpAny_pyIter_tuple htI ?_
  have hPs : s1.heap.get? P = some { cls := .none, data := .fields ps } := I1.hok P _ hP
  have hPlt : P < s1.heap.objs.size := Heap.lt_size hPs
  have haP : a ≠ P := fun z => by
    obtain ⟨o, e1, e2, _⟩ := htI
    rw [z, hPs] at e1; cases e1; cases e2
  have hlen : its.length = ds.length := by rw [← hvs.length, hds.length]
  have hal : a < s1.heap.objs.size := let ⟨o, e, _⟩ := htI; Heap.lt_size e
  have hkit : ∀ (i : Nat) (u : Value), its[i]? = some u → ∃ d, ds[i]? = some d ∧ KitD X.K u d P s1.heap := fun i u e => by
    have hi := (List.getElem?_eq_some_iff.mp e).1
    have hd : ds[i]? = some (ds[i]'(by omega)) := List.getElem?_eq_getElem _
    obtain ⟨v, e1, rp⟩ := hds.get hd
    obtain ⟨u', e2, rv⟩ := hvs.get e1
    rw [e] at e2
    cases e2
    exact ⟨_, hd, kitD_of hKF I1 rv rp hP⟩
  generalize ho : ({ cls := .type "tuple_iterator", data := .fields #[.ref a, .int 0 0] } : Obj) = o
  have hP2 : (s1.heap.push o).get? P = some { cls := .none, data := .fields ps } := Heap.get?_push_of_some _ hPs
  have cd : PySem.W.CodeHd (s1.heap.push o) c P := TB.code.keeps fun b u e => Heap.get?_push_of_some _ (I1.bk b u e)
  have lim2 : (s1.heap.push o).NoLimit := I1.nolimit.push o
  have hit2 : (s1.heap.push o).IsTupleIter s1.heap.objs.size a 0 := ⟨o, Heap.get?_push_size _ (by rw [← ho]; rfl), by rw [← ho], by rw [← ho]; rfl⟩
  have hti2 : (s1.heap.push o).IsTuple a its.toArray := let ⟨u, e, r⟩ := htI; ⟨u, Heap.get?_push_of_some _ e, r⟩
  have sz2 : (s1.heap.push o).objs.size = s1.heap.objs.size + 1 := Heap.size_push ..
  -- behind the making of the code object: h3, with the code at `code`
  have cont : ∀ (code : Value) (h3 : Heap) (tk : Nat), Heap.ExtBut P (s1.heap.push o) h3 → (s1.heap.push o).objs.size ≤ h3.objs.size →
      (∀ s' : Shared, s'.os = s1.os → AllBare s'.gens → (∀ b u, b < h3.objs.size → b ≠ s1.heap.objs.size → h3.get? b = some u → s'.heap.get? b = some u) → ∃ H2, (∀ b o, H1 b = some o → NT o → H2 b = some o) ∧ LamX.Tabs T H2 ∧ Inv X pins σ H2 s') →
      wpAny (model X.prog X.w) X.A (builtinsFor X.env.globals X.env.builtins) (fun bi s₄ =>
        ∃ Ia fp wr n₀ Pf St₀ pz F, Value.ref s1.heap.objs.size = .ref Ia ∧ (∀ A' : Around, A'.handled = none → Walks X.prog X.w A' Ia fp wr n₀ Pf St₀) ∧ St₀ 0 s₄.heap ∧ (∀ b ∈ fp, b < s₄.heap.objs.size) ∧ s₄.heap.NoLimit ∧ cStatics ∉ wr ∧
          (∀ href : Heap, (∀ b o, s₄.heap.get? b = some o → href.get? b = some o) →
            QuietGenD X.prog X.w (genEnv scope (cloFrom X.env.cells scope.names []) s₄.heap.objs.size code bi X.env) x [] (.Call (.Name fx p1) [.Name x p2] [] p3) (List.range s₄.heap.objs.size) wr Pf pz F href (X.A.depth + 1) (X.A.units + 8)) ∧
          (∀ a h₅ tk gs, gs.bare = true → s₄.heap.objs.size < a → h₅.objs.size = a + 1 → (∀ b o, s₄.heap.get? b = some o → h₅.get? b = some o) →
            WalksS X.prog X.w X.A.in4 a (a :: s₄.heap.objs.size :: List.range s₄.heap.objs.size) (s₄.heap.objs.size :: wr) (GenOnlyQ s₄.gens.size) (passing pz n₀ 0).length
              (fun j y => ∃ i, (passing pz n₀ 0)[j]? = some i ∧ F i y) (GenAt X.prog X.w X.A.in4 a s₄.gens.size s₄.heap.objs.size (List.range s₄.heap.objs.size) wr pz n₀ F) →
            GenAt X.prog X.w X.A.in4 a s₄.gens.size s₄.heap.objs.size (List.range s₄.heap.objs.size) wr pz n₀ F 0 { s₄ with gens := s₄.gens.push gs, toks := tk, heap := h₅ } →
            Q' (.ref a) { s₄ with gens := s₄.gens.push gs, toks := tk, heap := h₅ })) X.xe { s1 with heap := h3, toks := tk } := by
    intro code h3 tk hx hsz hfin
    obtain ⟨bm, ob, e1, e2, e3, e4, e5, e6, e7, e8⟩ := TB.bm
    have hcP : cStatics ≠ P := fun e => by
      obtain ⟨_, hns, _⟩ := I1.nolimit
      obtain ⟨o', es, ep, ho, hd, _⟩ := hns
      rw [e, hPs] at ho
      cases ho
      cases hd
    have hcl : cStatics < s1.heap.objs.size := let ⟨_, hns, _⟩ := I1.nolimit; hns.lt
    have keep3 : ∀ b u, b ≠ P → s1.heap.get? b = some u → h3.get? b = some u := fun b u hb e => hx b u hb (Heap.get?_push_of_some _ e)
    have lim3 : h3.NoLimit := lim2.extBut hx hcP
    refine wpAny_builtinsFor (m := X.mg) (by rw [I1.ok.glob]; exact ((I1.mod.glob.keeps I1.bk).push o).extBut hx TB.gP) e1 e2 (keep3 _ _ e4 (I1.bk _ _ e5)) e6 e7 e8 ?_
    refine ⟨s1.heap.objs.size, [s1.heap.objs.size, a], [s1.heap.objs.size], its.toArray.size, (fun i v => its.toArray[i]? = some v), (fun i h => h.IsTupleIter s1.heap.objs.size a i ∧ h.IsTuple a its.toArray), (fun _ => true), (fun i y => ∃ d, ds[i]? = some d ∧ y = .bool (b d)), rfl,
      fun A' hA => Walks.tuple hA _ _ (Nat.ne_of_lt hal) _, ⟨?_, ?_⟩, ?_, lim3, ?_, ?_, ?_⟩
    · obtain ⟨u, e, r⟩ := hit2
      exact ⟨u, hx _ u (Nat.ne_of_gt hPlt) e, r⟩
    · obtain ⟨u, e, r⟩ := hti2
      exact ⟨u, hx _ u haP e, r⟩
    · intro b hb
      show b < h3.objs.size
      rcases List.mem_cons.mp hb with z | z
      · rw [z]; exact Nat.lt_of_lt_of_le (by rw [sz2]; exact Nat.lt_succ_self _) hsz
      · rcases List.mem_cons.mp z with z | z
        · rw [z]; exact Nat.lt_of_lt_of_le (Nat.lt_trans hal (by rw [sz2]; exact Nat.lt_succ_self _)) hsz
        · cases z
    · intro z
      rcases List.mem_cons.mp z with z | z
      · exact Nat.ne_of_lt hcl z
      · cases z
    · intro href hhref
      refine ⟨fun A' E' i v s₂ m₂ hA _ _ hPv hn hm hk => ?_, fun A' E' i v s₂ m₂ hA hdep huni hPv hp hn hm hk => ?_⟩
      · simp only [List.forIn_nil]
        exact wpAny_pure ⟨rfl, GxR.keeps_refl _⟩
      · have hPv' : its[i]? = some v := by rw [← List.getElem?_toArray]; exact hPv
        obtain ⟨d, hd, kd⟩ := hkit i v hPv'
        have up : ∀ b u, b ≠ P → s1.heap.get? b = some u → s₂.heap.get? b = some u := fun b u hb e => by
          have e3 := keep3 b u hb e
          have hl := Heap.lt_size e
          refine hk b (List.mem_range.mpr (Heap.lt_size e3)) (fun z => ?_) u (hhref b u e3)
          rcases List.mem_cons.mp z with z | z
          · rw [z] at hl; exact Nat.lt_irrefl _ hl
          · cases z
        have bsk : ∀ b u, X.base.get? b = some u → s₂.heap.get? b = some u := fun b u e => up b u (fun z => by
          have h0 := (I1.bs b u e).2
          have h1 : H1 P = some (.tbl ps) := hP
          rw [z, h1] at h0; cases h0) (I1.bk b u e)
        refine wpAny_Call_Name_kw (Calls.Name_function_global S.kind (show scope.names.lookup fx = some .globalImplicit from hfx) (Calls.loadGlobal_global (mg := X.mg) (show s₂.heap.Ns X.env.globals X.mg by rw [I1.ok.glob]; exact I1.mod.glob.keeps bsk) hmf ?_) hdf)
        refine PySem.W.callWith_K (h₀ := X.base) (K := X.K) I1.ok.mod.kin hkf ?_ (by rfl) (by rfl)
        show wpAny _ _ (spliced ((false, eval (.Name x p2) _) :: [])) _ _ s₂
        refine Calls.spliced_cons (wpAny_Name (wpAny_loadName_local S.kind (show scope.names.lookup x = some .local from S.loc) hn hm ?_) hdx)
        refine Calls.spliced_nil ⟨I1.ok.mod.kin.keeps bsk, ?_⟩
        have hlt : A'.depth < recursionLimit := by have := hr.dp; omega
        exact wpAny_call (hT I1.ok.mod A' _ s₂ v d P hlt bsk (kd.keep up) fun s' hs' => ⟨⟨d, hd, rfl⟩, hs'⟩)
    · intro g h5 tk5 gs hgb hag hsz5 hk5 W5 hat
      simp only [GxR.passing_true, List.length_range] at W5
      have hn0 : its.toArray.size = ds.length := by rw [List.size_toArray, hlen]
      rw [hn0] at W5 hat
      refine hQ ds H1 g _ q1 ⟨_, _, _, _, _, W5.in4_1, hat, ?_, fun s' hm => ?_⟩
      · intro j y sj Qj Ej hy hQj
        obtain ⟨i, hij, d, hd, rfl⟩ := hy
        obtain ⟨hj, ej⟩ := List.getElem?_eq_some_iff.mp hij
        rw [List.getElem_range] at ej
        subst ej
        have hQ2 : Qj (trD b ds j) sj := hQj
        rw [trD_some hd] at hQ2
        exact wpAny_truthy_bool hQ2
      · refine hfin s' hm.os (AllBare.movedS (I1.bare.push hgb) hm) fun b u hl hne e => hm.heap b u (fun z => ?_) (hk5 b u e)
        rcases List.mem_cons.mp z with z | z
        · rw [z] at hl
          exact Nat.lt_irrefl _ hl
        · rcases List.mem_cons.mp z with z | z
          · exact hne z
          · cases z
  refine ⟨lim2, ?_⟩
  cases hf : codeAmong gpos ps.toList with
  | none =>
    refine wpAny_genexprCodeX hcode (cd.code hP2 htr) (cd.tab hP2) hf fun c' h' tk hx hge hlt hco' hrec htab' _ => ?_
    obtain ⟨o1, vs, f1, tf, fl, tg, inF, tx, tt, op, _, _, _, _, _, _, _, _, _, htr', _⟩ := hco'
    refine cont _ h' tk hx (Nat.le_trans hge (Nat.le_of_lt hlt)) fun s' hos hgb hk => ?_
    have hge' : s1.heap.objs.size + 1 ≤ c' := Nat.le_trans (Nat.le_of_eq sz2.symm) hge
    have hcge : s1.heap.objs.size ≤ c' := Nat.le_trans (Nat.le_succ _) hge'
    have nC : H1 c' = none := I1.hok.fresh hcge
    obtain ⟨c2, oc, vs2, t2, e2, hoc, hdc, hvc⟩ := hrec
    cases e2
    have J := inv_table' (c := c') (q := X.env.qual ++ "<genexpr>") (more := #[rawInt gpos.line, rawInt gpos.col, .ref c']) (h' := s'.heap) (g' := s'.gens) (d' := s'.drawn) (t' := s'.toks) I1 hP
      (fun b u hb e => hk b u (Heap.lt_size (hx b u hb (Heap.get?_push_of_some _ e))) (Nat.ne_of_lt (Heap.lt_size e)) (hx b u hb (Heap.get?_push_of_some _ e)))
      (hk P _ (Nat.lt_trans (Nat.lt_of_lt_of_le hPlt hcge) hlt) (Nat.ne_of_lt hPlt) htab'.2) hcge ⟨oc, vs2, t2, hk c' _ hlt (Nat.ne_of_gt hge') hoc, hdc, hvc⟩ hgb
    rw [GxR.sh_eta s1 s' hos] at J
    refine ⟨_, fun b u e n => ?_, fun p hp => ?_, J⟩
    · rw [upd_ne (ne_of_none e nC), upd_ne (fun z => n ps (Option.some.inj (e.symm.trans (by rw [z]; exact hP))))]
      exact e
    · by_cases hb : p.1 = P
      · rw [hu p hp hb, hb]
        have eL : (ps ++ #[rawInt gpos.line, rawInt gpos.col, .ref c']).toList = ps.toList ++ [rawInt gpos.line, rawInt gpos.col, .ref c'] := by simp
        refine ⟨_, by rw [upd_ne (ne_of_none hP nC), upd_same], by rw [eL]; exact PySem.TriplesOk_snoc _ _ _ _ htr, fun p' cv hcv => ?_⟩
        rw [eL] at hcv
        rcases LamX.among_app _ htr hcv with z | z
        · obtain ⟨c0, e1, e2⟩ := hamong p' cv z
          refine ⟨c0, e1, ?_⟩
          rw [upd_ne (ne_of_none e2 nC), upd_ne (fun z => by rw [z] at e2; have h1 : H1 P = some (.tbl ps) := hP; rw [h1] at e2; exact LamX.codeO_ne ps (Option.some.inj e2).symm)]
          exact e2
        · exact ⟨c', z, upd_same⟩
      · obtain ⟨ps', a1, a2, a3⟩ := hTs p hp
        refine ⟨ps', by rw [upd_ne (ne_of_none a1 nC), upd_ne hb]; exact a1, a2, fun p' cv hcv => ?_⟩
        obtain ⟨c0, e1, e2⟩ := a3 p' cv hcv
        refine ⟨c0, e1, ?_⟩
        rw [upd_ne (ne_of_none e2 nC), upd_ne (fun z => by rw [z] at e2; have h1 : H1 P = some (.tbl ps) := hP; rw [h1] at e2; exact LamX.codeO_ne ps (Option.some.inj e2).symm)]
        exact e2
  | some cv =>
    refine wpAny_genexprCode_hit hcode (cd.code hP2 htr) hf ?_
    refine cont cv (s1.heap.push o) s1.toks (Heap.ExtBut.refl _ _) (Nat.le_refl _) fun s' hos hgb hk => ?_
    have J := inv_gens (h' := s'.heap) (g' := s'.gens) (d' := s'.drawn) (t' := s'.toks) I1 (fun b u e => hk b u (Nat.lt_trans (Heap.lt_size e) (by rw [sz2]; exact Nat.lt_succ_self _)) (Nat.ne_of_lt (Heap.lt_size e)) (Heap.get?_push_of_some _ e)) hgb
    rw [GxR.sh_eta s1 s' hos] at J
    exact ⟨H1, fun _ _ e _ => e, hTs, J⟩
def tAllG (F : PySem.W.Frag) (K : Kx) (T : List (Addr × Str)) (b : PyData → Bool) (te : TE) : TE := fun σ H Q => te σ H fun v H1 => ∃ a xs ds, v = .ref a ∧ SqT F H1 a xs ∧ RpL K H1 xs ds ∧ LamX.Tabs T H1 ∧
  ∀ H2, (∀ b o, H1 b = some o → NT o → H2 b = some o) → LamX.Tabs T H2 → Q (.bl (ds.all b)) H2
theorem pe_allG {K : Kx} {c P f : Addr} {iter : Expr} {x fx : Str} {px p pos gpos p1 p2 p3 : Pos} {scope : Scope} {te : TE} {k : Nat} {b : PyData → Bool} {T : List (Addr × Str)}
    (hr : Room (k + 2) X.A) (hg : Gl X "all") (hm : X.mg "all" = none) (TB : LamX.TabB X.base X.mg c P) (hcode : X.env.code = .ref c) (S : GxR.GenS X.env scope x) (hi : PE X iter te) (hmT : (P, X.env.qual ++ "<genexpr>") ∈ T) (hu : ∀ p ∈ T, p.1 = P → p.2 = X.env.qual ++ "<genexpr>")
    (hfx : scope.names.lookup fx = some .globalImplicit) (hmf : X.mg fx = some (.ref f)) (hkf : PySem.W.keepIn X.K (.ref f) = true) (hT : L2.Mod X.K X.mg X.base → Tells X.prog X.w X.K X.base f b) (hdf : (fx == ("__debug__" : Str)) = false) (hdx : (x == ("__debug__" : Str)) = false)
    (hs : ∀ v, genFold iter X.env v = pure v) (hKF : K.F = X.K := by assumption)
    (he : starEach [.GeneratorExp (.Call (.Name fx p1) [.Name x p2] [] p3) [⟨.Name x px, iter, [], 0⟩] scope gpos] X.env = (false, eval (.GeneratorExp (.Call (.Name fx p1) [.Name x p2] [] p3) [⟨.Name x px, iter, [], 0⟩] scope gpos) X.env) :: starEach [] X.env := by rfl) :
    PE X (.Call (.Name "all" p) [.GeneratorExp (.Call (.Name fx p1) [.Name x p2] [] p3) [⟨.Name x px, iter, [], 0⟩] scope gpos] [] pos) (tAllG X.K K T b te) := by
  refine ⟨fun pins s σ H Q I h => ?_⟩
  refine wpAny_Call_Name_kw (ld_blt I hg hm bb_all ?_)
  refine PyProof.Rows.callWith_builtin1 ?_ he (by rfl)
  rw [he]
  show wpAny _ _ (spliced ((false, eval (.GeneratorExp (.Call (.Name fx p1) [.Name x p2] [] p3) [⟨.Name x px, iter, [], 0⟩] scope gpos) X.env) :: backTo pos (starEach [] X.env))) _ _ s
  refine Calls.spliced_cons (gen_all (R := fun ds H1 => ∀ H2 : Hp, (∀ (b : Addr) (o : HO), H1 b = some o → NT o → H2 b = some o) → LamX.Tabs T H2 → Q (.bl (ds.all b)) H2) hr TB hcode S hi hmT hu hfx hmf hkf hT hdf hdx hs hKF I h fun ds H1 g s5 hR hG => ?_)
  obtain ⟨fp, wr, G, F, St, W, hst, htr, hI⟩ := hG
  refine Calls.spliced_nil ?_
  refine call_all_walkS (W.self 0 _ _ _ hst ⟨g, fp, wr, G, _, F, St, _, rfl, W, hst, htr, fun s' hmv => ?_⟩)
  obtain ⟨H2, hK, hT2, J⟩ := hI s' hmv
  refine ⟨.bl _, H2, J, rfl, ?_⟩
  rw [all_trD b ds]
  exact hR H2 hK hT2
def gAll (b : PyData → Bool) (g : GE) : GE := fun ρ cu => (g ρ cu).bind fun d cu1 => match d with
  | .tuple ds => .ok (.bool (ds.all b)) cu1
  | _ => .stuck
theorem pd_all {K : Kx} {E : XK} {c P f : Addr} {iter : Expr} {x fx : Str} {px p pos gpos p1 p2 p3 : Pos} {scope : Scope} {te : TE} {ge : GE} {k : Nat} {b : PyData → Bool}
    (hr : Room (k + 2) X.A) (hg : Gl X "all") (hm : X.mg "all" = none) (TB : LamX.TabB X.base X.mg c P) (hcode : X.env.code = .ref c) (S : GxR.GenS X.env scope x) (hi : PD X K E iter te ge) (hmT : (P, X.env.qual ++ "<genexpr>") ∈ K.T) (hu : ∀ p ∈ K.T, p.1 = P → p.2 = X.env.qual ++ "<genexpr>")
    (hfx : scope.names.lookup fx = some .globalImplicit) (hmf : X.mg fx = some (.ref f)) (hkf : PySem.W.keepIn X.K (.ref f) = true) (hT : L2.Mod X.K X.mg X.base → Tells X.prog X.w X.K X.base f b) (hdf : (fx == ("__debug__" : Str)) = false) (hdx : (x == ("__debug__" : Str)) = false)
    (hs : ∀ v, genFold iter X.env v = pure v) (hKF : K.F = X.K := by assumption)
    (he : starEach [.GeneratorExp (.Call (.Name fx p1) [.Name x p2] [] p3) [⟨.Name x px, iter, [], 0⟩] scope gpos] X.env = (false, eval (.GeneratorExp (.Call (.Name fx p1) [.Name x p2] [] p3) [⟨.Name x px, iter, [], 0⟩] scope gpos) X.env) :: starEach [] X.env := by rfl) :
    PD X K E (.Call (.Name "all" p) [.GeneratorExp (.Call (.Name fx p1) [.Name x p2] [] p3) [⟨.Name x px, iter, [], 0⟩] scope gpos] [] pos) (tAllG X.K K K.T b te) (gAll b ge) := by
  refine ⟨pe_allG hr hg hm TB hcode S hi.pe hmT hu hfx hmf hkf hT hdf hdx hs hKF he, fun c0 H0 G0 σ H G ρ cu Q s q => ?_⟩
  refine hi.sem c0 H0 G0 σ H G ρ cu _ s (q.bind.imp fun d H1 G1 cu1 x1 w1 q1 v rv => ?_)
  split at q1
  · rename_i ds
    obtain ⟨a, xs, rfl, e1, r1⟩ := rv.tup_of
    refine ⟨a, xs, ds, rfl, TupAt.sq' hKF (e1.mono w1.sub), r1.mono w1.sub, w1.tab, fun H2 k2 T2 => ?_⟩
    have x2 : Ext c0 H1 G1 H2 G1 := ⟨fun b o e n _ => k2 b o e n, fun b o e n => ⟨o, k2 b o e n, n⟩, fun _ _ e => e, fun _ _ _ _ e => e⟩
    have w2 : Wd K c0 H2 G1 cu1 := by
      refine ⟨fun b o e => k2 b o (w1.sub _ _ e) fun ps z => w1.nt b ps (by rw [← z]; exact e), T2, w1.nt, fun a ha => ?_⟩
      obtain ⟨h1, h2⟩ := w1.cup a ha
      exact ⟨k2 _ _ h1 nt_lst, h2⟩
    exact q1 H2 G1 x2 w2 _ (.bl _)
  · exact q1.elim
end
/-- the def is one that tells whether its value is an integer -/
theorem tells_int {prog : Program} {w : World} {F : PySem.W.Frag} {mg : Str → Option Value} {base : Heap} {st : Stmt} {f : Addr} {fd : FuncData} (M : L2.Mod F mg base) (Fn : Fun F "is_integer" "is_integer" st f fd) (hb : L2.Binds F fd ["value"] [])
    (hst : ∃ q1 q2 q3 q4 q5 q6 q7 q8 q9 q10 q11 : Pos, defBody st = isIntBody q1 q2 q3 q4 q5 q6 q7 q8 q9 q10 q11) (hsc : defScope st = { kind := .function, names := [("value", .local), ("isinstance", .globalImplicit), ("int", .globalImplicit), ("bool", .globalImplicit)], isGenerator := false, isCoroutine := false })
    (m1 : mg "isinstance" = none) (m2 : mg "int" = none) (m3 : mg "bool" = none) : Tells prog w F base f isIntD := by
  obtain ⟨q1, q2, q3, q4, q5, q6, q7, q8, q9, q10, q11, hst⟩ := hst
  obtain ⟨mb, hbl, hbb⟩ := M.blt
  have B : BaseOk F mg mb base := ⟨M.kin, M.glob, hbl, hbb, M.nolimit⟩
  obtain ⟨oc, od, kV, doc, pm, an, cdv, ct, osl, rfl, lk, hcd⟩ := Fn.ex
  rw [hst] at lk hb
  intro A R s v d P hd kp kd hR
  exact isInt_call B lk hcd m1 m2 m3 (hb s [v] (B.kin.keeps kp) rfl) hsc hd kp kd hR
theorem gens_by {env : Env} {scope : Scope} {x : Str} (h1 : scope.kind = .function) (h2 : scope.isCoroutine = false) (h3 : ∀ y ∈ scope.names, y.2 ≠ .cell ∧ y.2 ≠ .free) (h4 : scope.names.lookup (".0" : Str) = some NameKind.local) (h5 : scope.names.lookup x = some .local) : GxR.GenS env scope x :=
  ⟨h1, h2, fun y hy => (h3 y hy).1, h4, h5, fun y hy e => absurd e (h3 y hy).2⟩
/-- a def whose code object is known -/
structure FunK (K : PySem.W.Frag) (x qual : Str) (st : Stmt) (f : Addr) (fd : FuncData) (c : Addr) : Prop where
  ex : ∃ (oc : Value) (od : Option Addr) (kV doc pm : Value) (an : Option Addr) (ct : Value) (osl : Array (Option Value)),
    fd = PySem.W.fnOf x qual (defArgs st) (defBody st) (defScope st) .none kV doc pm an (.ref c) ct ∧ K.lookup f = some ⟨oc, od, .func fd, osl⟩ ∧ PySem.W.codeIn K (.ref c) qual = true
  kp : PySem.W.keepIn K (.ref f) = true
theorem FunK.fn {K : PySem.W.Frag} {x qual : Str} {st : Stmt} {f : Addr} {fd : FuncData} {c : Addr} (F : FunK K x qual st f fd c) : Fun K x qual st f fd := by
  obtain ⟨oc, od, kV, doc, pm, an, ct, osl, h1, h2, h3⟩ := F.ex
  exact ⟨⟨oc, od, kV, doc, pm, an, .ref c, ct, osl, h1, h2, h3⟩, F.kp⟩
theorem ok_defK {P : Program} {w : World} {F : PySem.W.Frag} {mg : Str → Option Value} {base : Heap} {K : Kx} {x qual : Str} {st : Stmt} {f c : Addr} {fd : FuncData} {N ps : List Str} {k : Nat} {g : GS} (Fn : FunK F x qual st f fd c) (S : FnScope N ps (defScope st))
    (hbody : ∀ (A : Around) (outer : List Env) (s : Shared) (H : Hp) (E : XK), Room k (A.deeper (envOfC qual (defScope st) s.heap.objs.size f (.ref c))) →
      ∃ t, PSsD (cxOf (L2.CX P w) P w F mg base N qual (defScope st) f (.ref c) A outer s H E) K E (defBody st) t g) :
    FnOk P w F mg base (L2.CX P w) (k + 1) f fd ps (spG K ps.length (gFn N.length g)) := by
  obtain ⟨oc, od, kV, doc, pm, an, ct, osl, rfl, lk, hcd⟩ := Fn.ex
  refine fn_of lk hcd S (fun vs H Q E h => ?_) (fun A outer s H vs Q E hr h => ?_)
  · obtain ⟨c, G, as, cu, h1, _, h3, _⟩ := h
    rw [h3.length, h1]
  · obtain ⟨c, G, as, cu, h1, wd, h3, q⟩ := h
    obtain ⟨t, ht⟩ := hbody A outer s H E hr
    refine ⟨t, ht.ps, ht.sem c H G (L2.start N vs) H G _ cu _ ⟨wd, Ext.refl, rep_start h3⟩ ?_⟩
    unfold gFn at q
    cases hg : g (as ++ List.replicate (N.length - as.length) .un) cu with
    | stuck => rw [hg] at q; exact q
    | exc k cu1 => rw [hg] at q; exact q
    | ok o cu1 =>
      rw [hg] at q
      cases o with
      | nx ρ' => exact fun σ' H' G' s' => q H' G' s'.ext s'.wd _ .non
      | ret d => exact fun v H' G' x w r => q H' G' x w v r
      | brk ρ' => exact q.elim
      | ct ρ' => exact q.elim
end DL

set_option Elab.async false
set_option linter.all false
set_option maxRecDepth 100000
set_option maxHeartbeats 2000000
set_option autoImplicit false
namespace DL
open PySem PySem.Spec PyProof.Rows L2
/-! ### at one state -/
def AtE (K : Kx) (E : XK) (c : Option Addr) (σ : L2.St) (H G : Hp) (t : TE) (r : Rs PyData) : Prop := ∀ Q : VK, Post K E c H G r (QD K Q) → t σ H Q
section
variable {K : Kx} {E : XK} {c : Option Addr} {H0 G0 H G : Hp} {σ : L2.St} {ρ : En} {cu : Cu} {ta tb : TE} {ra : Rs PyData}
theorem at_op {r : R2} {f : PyData → PyData → Option PyData} {gb : GE} (s : SRep K c H0 G0 σ H G ρ cu) (hf : OpD K r f) (ha : AtE K E c σ H G ta ra) (hb : SemE K E tb gb) :
    AtE K E c σ H G (tOp r ta tb) (ra.bind fun a cu1 => (gb ρ cu1).bind fun b cu2 => .ofO (f a b) cu2) := by
  intro Q q
  refine ha _ (q.bind.imp fun a H1 G1 cu1 x1 w1 q1 v rv => ?_)
  have s1 := s.go x1 w1
  refine hb c H0 G0 σ H1 G1 ρ cu1 _ s1 (q1.bind.imp fun b H2 G2 cu2 x2 w2 q2 w rw' => ?_)
  obtain ⟨z, e, q3⟩ := q2.ofO
  exact hf c H2 G2 cu2 v w a b z Q w2 (rv.mono x2.g) rw' e fun v' H' G' x w => q3 H' G' x w v'
theorem at_call1 {r : List V → Hp → VK → Prop} {f : List PyData → Option PyData} (hf : CallD K r f) (ha : AtE K E c σ H G ta ra) : AtE K E c σ H G (tCB r (tCons ta tNil)) (ra.bind fun a cu1 => .ofO (f [a]) cu1) := by
  intro Q q
  refine ha _ (q.bind.imp fun a H1 G1 cu1 x1 w1 q1 v rv => ?_)
  obtain ⟨z, ez, q2⟩ := q1.ofO
  exact hf c H1 G1 cu1 [v] [a] z Q w1 (.cons rv .nil) ez fun v' H' G' x w rr => q2 H' G' x w v' rr
end
/-! ### the cup -/
def cup0 (cell : Int) : Cu := (if cell ≥ 10 ^ 18 then cell.fdiv 67 else 0, (cell * 277 + 2609).fmod 2077503167 + 163)
def cell0 (ns : List Int) : Int := match ns with
  | [] => 0
  | i :: _ => if i < 0 then -i else i
theorem rpl_ints {K : Kx} {G : Hp} : ∀ ns : List Int, RpL K G (ns.map V.int) (ns.map PyData.int)
  | [] => .nil
  | i :: r => .cons (.int i) (rpl_ints r)
/-- list(script) -/
theorem at_script {K : Kx} {E : XK} {F : PySem.W.Frag} {H : Hp} {σ : L2.St} {a : Addr} {ns : List Int} {cu : Cu} {i : Nat} {G : Hp} (w : Wd K none H G cu) (hs : σ[i]? = some (some (V.ref a))) (hS : SqL F H a (ns.map V.int)) :
    AtE K E none σ H G (tCB (fun xs H Q => ∃ p ys, xs = [.ref p] ∧ (SqL F H p ys ∨ SqT F H p ys) ∧ ∀ l, H l = none → Q (.ref l) (upd H l (.lst ys))) (tCons (tVar i) tNil)) (.ok (.list (ns.map .int)) cu) :=
  fun Q q => ⟨_, hs, a, _, rfl, .inl hS, fun l hl => new_lst w (rpl_ints ns) (fun v' H' G' x w' r => q H' G' x w' v' r) hl⟩
/-- what is wanted of a def that makes the cup -/
def spCup (K : Kx) (F : PySem.W.Frag) : Sp := fun vs H Q _ => ∃ (a : Addr) (ns : List Int), vs = [.ref a] ∧ SqL F H a (ns.map V.int) ∧ ns.length ≤ 63 ∧ LamX.Tabs K.T H ∧
  ∀ (p : Addr) (H' : Hp), H' p = some (.lst [.int (cup0 (cell0 ns)).1, .int (cup0 (cell0 ns)).2]) → LamX.Tabs K.T H' → Q (.ref p) H'
/-- nothing known, no cup -/
theorem srep0 {K : Kx} {H : Hp} {σ : L2.St} {n : Nat} {cu : Cu} (hT : LamX.Tabs K.T H) (hl : σ.length = n) : SRep K none H (fun _ => none) σ H (fun _ => none) (List.replicate n .un) cu := by
  have un : ∀ (i : Nat) (s : Sl), (List.replicate n Sl.un)[i]? = some s → s = .un := fun i s e => by
    rw [List.getElem?_replicate] at e
    split at e
    · exact (Option.some.inj e).symm
    · cases e
  have w : Wd K none H (fun _ => none) cu := ⟨fun b o e => (nomatch e), hT, fun b ps z => (nomatch z), fun a z => (nomatch z)⟩
  refine ⟨w, Ext.refl, by rw [List.length_replicate, hl], fun i d e => (nomatch un i _ e), fun i e => (nomatch un i _ e), fun _ => 0, fun i ds e => (nomatch un i _ e), fun i j ds es e => (nomatch un i _ e)⟩
/-- a list that nothing else knows, as the cup -/
theorem sem_cup {K : Kx} {E : XK} {t : TE} {g : GI} (h : SemF K E t g) {c : Option Addr} {H0 G0 H G : Hp} {σ : L2.St} {ρ : En} {cu cu1 : Cu} {x y : Int} (s : SRep K c H0 G0 σ H G ρ cu) (hg : g ρ cu = .ok [.int x, .int y] cu1) {Q : VK}
    (hQ : ∀ (p : Addr) (H' : Hp), H' p = some (.lst [.int x, .int y]) → LamX.Tabs K.T H' → Q (.ref p) H') : t σ H Q := by
  refine h c H0 G0 σ H G ρ cu Q s ?_
  rw [hg]
  intro H' G' x' w a xs ha e r _
  obtain ⟨v, v2, rfl, r1, r2⟩ := r.two
  rw [r1.int_of, r2.int_of] at e
  exact hQ a H' e w.tab
theorem at_seq_set {K : Kx} {E : XK} {c : Option Addr} {σ : L2.St} {H G : Hp} {te : TE} {r : Rs PyData} {i : Nat} {u : TS} {D : Ends} (h : AtE K E c σ H G te r) (q : Post K E c H G r (fun d H1 G1 _ => ∀ v, Rp K G1 v d → u D (σ.set i (some v)) H1)) : tSeq (tAsg te (gName i)) u D σ H := h _ q
theorem ret_cup {K : Kx} {E : XK} {t : TE} {g : GI} (h : SemF K E t g) {c : Option Addr} {H0 G0 H G : Hp} {σ : L2.St} {ρ : En} {cu cu1 : Cu} {x y : Int} (s : SRep K c H0 G0 σ H G ρ cu) (hg : g ρ cu = .ok [.int x, .int y] cu1) {D : Ends}
    (hQ : ∀ (p : Addr) (H' : Hp), H' p = some (.lst [.int x, .int y]) → LamX.Tabs K.T H' → D.rt (.ref p) H') : tRet t D σ H := sem_cup h s hg hQ
theorem ret_own {X : Cx} {K : Kx} {E : XK} {e : Expr} {t : TE} {g : GI} {pos : Pos} (h : PFD X K E e t g) : ∃ t2, PSs X [.Return (some e) pos] (tRet t2) ∧ SemF K E t2 g := ⟨t, pss_one (ps_ret h.pe), h.sem⟩
theorem passLam {X : Cx} {A : Around} {outer : List Env} {s : Shared} {H : Hp} {E : XK} {scope : Scope} {f c' : Addr} : Passes (L2.CX (LamX.lamCx X A outer s H E scope f c').prog (LamX.lamCx X A outer s H E scope f c').w) (LamX.lamCx X A outer s H E scope f c') E := passes_call (takes_of rfl rfl rfl rfl) fun _ _ _ _ h => h
/-- what a law's own def keeps: the cup made of the script, then g -/
def spLaw (K : Kx) (F : PySem.W.Frag) : Sp := fun vs H Q _ => ∃ (a : Addr) (ns : List Int), vs = [.ref a] ∧ SqL F H a (ns.map V.int) ∧ ns.length ≤ 63 ∧ LamX.Tabs K.T H ∧ ∀ H', Q (.bl true) H'
theorem srep_cup {K : Kx} {H : Hp} {σ : L2.St} {n : Nat} {p : Addr} {x y : Int} (hT : LamX.Tabs K.T H) (hp : H p = some (.lst [.int x, .int y])) (hl : σ.length = n + 2) (hs : σ[1]? = some (some (V.ref p))) :
    SRep K (some p) H (fun _ => none) σ H (fun _ => none) (.un :: .cup :: List.replicate n .un) (x, y) := by
  have un : ∀ (i : Nat) (s : Sl), (Sl.un :: Sl.cup :: List.replicate n Sl.un)[i]? = some s → s = .un ∨ (s = .cup ∧ i = 1) := fun i s e => by
    match i, e with
    | 0, e => exact .inl (Option.some.inj e).symm
    | 1, e => exact .inr ⟨(Option.some.inj e).symm, rfl⟩
    | i + 2, e =>
      have e' : (List.replicate n Sl.un)[i]? = some s := e
      rw [List.getElem?_replicate] at e'
      split at e'
      · exact .inl (Option.some.inj e').symm
      · cases e'
  have w : Wd K (some p) H (fun _ => none) (x, y) := ⟨fun b o e => (nomatch e), hT, fun b ps z => (nomatch z), fun a z => by cases z; exact ⟨hp, rfl⟩⟩
  refine ⟨w, Ext.refl, ⟨by rw [hl]; simp, fun i d e => ?_, fun i e => ?_, fun _ => 0, fun i ds e => ?_, fun i j ds es e => ?_⟩⟩
  · rcases un i _ e with z | z
    · cases z
    · cases z.1
  · rcases un i _ e with z | z
    · cases z
    · rw [z.2]; exact ⟨p, rfl, hs⟩
  · rcases un i _ e with z | z
    · cases z
    · cases z.1
  · rcases un i _ e with z | z
    · cases z
    · cases z.1
theorem ok_law {P : Program} {w : World} {F : PySem.W.Frag} {mg : Str → Option Value} {base : Heap} {K : Kx} {st : Stmt} {f c fc : Addr} {fd fdc : FuncData} {N : List Str} {n k kc : Nat} {g : GS} {px pe pc pp sp : Pos} {rest : List Stmt}
    (Fn : FunK F "law" "law" st f fd c) (S : FnScope N ["_law_script"] (defScope st)) (hN : N.length = n + 2) (hN1 : N[1]? = some ("_law_cup_here" : Str)) (hN0 : N[0]? = some ("_law_script" : Str)) (hl1 : Loc (defScope st) ("_law_cup_here" : Str)) (hl0 : Vis (defScope st) ("_law_script" : Str))
    (hgl : (defScope st).names.lookup ("_law_cup" : Str) = some NameKind.globalImplicit)
    (hst : defBody st = .Assign [.Name "_law_cup_here" px] (.Call (.Name "_law_cup" pc) [.Name "_law_script" pe] [] pp) sp :: rest) (hcup : FnOk P w F mg base (L2.CX P w) kc fc fdc ["_law_script"] (spCup K F)) (hmc : mg "_law_cup" = some (.ref fc)) (hkc : PySem.W.keepIn F (.ref fc) = true) (hbc : L2.Binds F fdc ["_law_script"] []) (hkk : kc ≤ k)
    (hsw : ∀ (L : Nat), swapsWith (.Call (.Name "_law_cup" pc) [.Name "_law_script" pe] [] pp) (some (.Name "_law_cup_here" px)) sp.line (envOfC "law" (defScope st) L f (.ref c)) = pure false)
    (hbody : ∀ (A : Around) (outer : List Env) (s : Shared) (H : Hp) (E : XK), Room k (A.deeper (envOfC "law" (defScope st) s.heap.objs.size f (.ref c))) →
      ∃ t, PSsD (cxOf (L2.CX P w) P w F mg base N "law" (defScope st) f (.ref c) A outer s H E) K E rest t g)
    (hg : ∀ ns : List Int, ns.length ≤ 63 → ∃ cu, g (.un :: .cup :: List.replicate n .un) (cup0 (cell0 ns)) = .ok (.ret (.bool true)) cu) :
    FnOk P w F mg base (L2.CX P w) (k + 1) f fd ["_law_script"] (spLaw K F) := by
  obtain ⟨oc, od, kV, doc, pm, an, ct, osl, rfl, lk, hcd⟩ := Fn.ex
  refine fn_of lk hcd S (fun vs H Q E h => ?_) (fun A outer s H vs Q E hr h => ?_)
  · obtain ⟨a, ns, rfl, _⟩ := h
    rfl
  · obtain ⟨a, ns, rfl, hS, hl, hT, hQ⟩ := h
    obtain ⟨t, ht⟩ := hbody A outer s H E hr
    have hx : Passes (L2.CX P w) (cxOf (L2.CX P w) P w F mg base N "law" (defScope st) f (.ref c) A outer s H E) E := passes_call (takes_of rfl rfl rfl rfl) fun _ _ _ _ h => h
    rw [hst]
    refine ⟨_, pss_cons (ps_set (i := 1) S.nd hN1 hl1 (pe_call hcup (hr.mono hkk) hgl hmc hkc hbc .nil hx (pa_cons (pe_var (i := 0) hN0 hl0) pa_nil)) (hsw _) (.inl rfl)) ht.ps, ?_⟩
    have h0 : (L2.start N [V.ref a])[0]? = some (some (V.ref a)) := by
      unfold L2.start; rfl
    refine ⟨_, h0, a, ns, rfl, hS, hl, hT, fun p H' hp hT' => ?_⟩
    obtain ⟨cu, e⟩ := hg ns hl
    have hlen : (L2.start N [V.ref a]).length = n + 2 := by
      unfold L2.start
      rw [List.length_append, List.length_replicate, List.length_map, hN]
      simp
      omega
    refine ht.sem (some p) H' (fun _ => none) ((L2.start N [V.ref a]).set 1 (some (V.ref p))) H' (fun _ => none) (.un :: .cup :: List.replicate n .un) (cup0 (cell0 ns)) _ (srep_cup hT' hp (by rw [List.length_set]; exact hlen) (List.getElem?_set_self (by rw [hlen]; omega))) ?_
    rw [e]
    intro v H1 G1 _ _ rv
    rw [rv.bl_of]
    exact hQ H1
end DL

set_option Elab.async false
set_option linter.all false
set_option maxRecDepth 100000
set_option maxHeartbeats 2000000
set_option autoImplicit false
/-! reckoning: the functions of the layer at written environments -/
namespace DL
open PySem PySem.Spec L2
section
variable {α β : Type} {cu : Cu}
theorem Rs.bind_ok (a : α) (f : α → Cu → Rs β) : (Rs.ok a cu).bind f = f a cu := rfl
theorem Rs.bind_exc (k : Nat) (f : α → Cu → Rs β) : (Rs.exc k cu : Rs α).bind f = .exc k cu := rfl
theorem Rs.bind_stuck (f : α → Cu → Rs β) : (Rs.stuck : Rs α).bind f = .stuck := rfl
theorem Rs.ofO_some (a : α) : Rs.ofO (some a) cu = .ok a cu := rfl
theorem Rs.nox_ok (a : α) : (Rs.ok a cu).nox = .ok a cu := rfl
end
section
variable {ρ : En} {cu : Cu} {i j : Int} {x y : Str} {xs ys ds : List PyData} {a b c d : PyData} {k m n : Nat}
theorem gC_eq : gC d ρ cu = .ok d cu := rfl
theorem gVar_eq (h : ρ[n]? = some (.dat d)) : gVar n ρ cu = .ok d cu := by unfold gVar; rw [h]
theorem gVar_un : gVar n ρ cu = (match ρ[n]? with | some (.dat d) => .ok d cu | _ => .stuck) := rfl
theorem gCupF_un : gCup n false ρ cu = (match ρ[n]? with | some .cup => .ok (.int cu.1) cu | _ => .stuck) := rfl
theorem gCupT_un : gCup n true ρ cu = (match ρ[n]? with | some .cup => .ok (.int cu.2) cu | _ => .stuck) := rfl
theorem gCupF (h : ρ[n]? = some .cup) : gCup n false ρ cu = .ok (.int cu.1) cu := by unfold gCup; rw [h]; rfl
theorem gCupT (h : ρ[n]? = some .cup) : gCup n true ρ cu = .ok (.int cu.2) cu := by unfold gCup; rw [h]; rfl
theorem dAdd_int : dAdd (.int i) (.int j) = some (.int (i + j)) := rfl
theorem dAdd_lst (h : xs.length + ys.length ≤ 16777216) : dAdd (.list xs) (.list ys) = some (.list (xs ++ ys)) := if_pos h
theorem dAdd_tup (h : xs.length + ys.length ≤ 16777216) : dAdd (.tuple xs) (.tuple ys) = some (.tuple (xs ++ ys)) := if_pos h
theorem dMul_int (h : mulOk i j = true) : dMul (.int i) (.int j) = some (.int (i * j)) := if_pos h
theorem fI0_int {g : Int → Int → Int} : fI0 g (.int i) (.int j) = some (.int (g i j)) := rfl
theorem fB0_int {g : Int → Int → Bool} : fB0 g (.int i) (.int j) = some (.bool (g i j)) := rfl
theorem fI_int {C : Int → Int → Bool} {g : Int → Int → Int} (h : C i j = true) : fI C g (.int i) (.int j) = some (.int (g i j)) := if_pos h
theorem mulOk_l (h : i.natAbs < 2 ^ 64) : mulOk i j = true := by unfold mulOk; rw [decide_eq_true h]; rfl
theorem mulOk_r (h : j.natAbs < 2 ^ 64) : mulOk i j = true := by unfold mulOk; rw [decide_eq_true h, Bool.true_or, Bool.or_true]
theorem log2_lt {n k : Nat} (h : n < 2 ^ k) (hk : 0 < k) : n.log2 < k := by
  by_cases h0 : n = 0
  · rw [h0]; exact hk
  · exact (Nat.log2_lt h0).mpr h
theorem mulOk_b {p q : Nat} (hi : i.natAbs < 2 ^ p) (hj : j.natAbs < 2 ^ q) (hp : 0 < p) (hq : 0 < q) (h : p + q ≤ 1000000) : mulOk i j = true := by
  unfold mulOk
  have h1 := log2_lt hi hp
  have h2 := log2_lt hj hq
  rw [decide_eq_true (show i.natAbs.log2 + j.natAbs.log2 < 1000000 by omega), Bool.or_true, Bool.or_true]
theorem divOk_b {p : Nat} (h0 : j ≠ 0) (h : j.natAbs < 2 ^ p) (hp : 0 < p) (hq : p ≤ 9000) : divOk i j = true := by
  unfold divOk
  have h1 := log2_lt h hp
  rw [decide_eq_true h0, decide_eq_true (show j.natAbs.log2 < 9000 by omega)]; rfl
theorem modOk_b (h0 : j ≠ 0) : modOk i j = true := decide_eq_true h0
theorem powOk_b (h0 : 0 ≤ j) (h1 : j ≤ 1000000) (h2 : i.natAbs < 2 ^ 64) : powOk i j = true := by
  unfold powOk; rw [decide_eq_true h0, decide_eq_true h1, decide_eq_true h2]; rfl
theorem dEq_int : dEq (.int i) (.int j) = some (.bool (decide (i = j))) := rfl
theorem dNe_int : dNe (.int i) (.int j) = some (.bool (!decide (i = j))) := rfl
theorem dEq_str : dEq (.str x) (.str y) = some (.bool (decide (x = y))) := rfl
theorem dNe_str : dNe (.str x) (.str y) = some (.bool (!decide (x = y))) := rfl
theorem dEq_bl {p q : Bool} : dEq (.bool p) (.bool q) = some (.bool (decide (p = q))) := rfl
theorem dBool_bl {p : Bool} : dBool (.bool p) = some p := rfl
theorem dTru_bl {p : Bool} : dTru (.bool p) = some p := rfl
theorem dNeg_int : dNeg (.int i) = some (.int (-i)) := rfl
theorem dAbs_int : dAbs [.int i] = some (.int (if i < 0 then -i else i)) := rfl
theorem dToInt_int : dToInt [.int i] = some (.int i) := rfl
theorem dToInt_bl {p : Bool} : dToInt [.bool p] = some (.int (if p then 1 else 0)) := rfl
theorem dLen_tup : dLen [.tuple xs] = some (.int (xs.length : Int)) := rfl
theorem dLen_lst : dLen [.list xs] = some (.int (xs.length : Int)) := rfl
theorem dMin2_int : dMin2 [.int i, .int j] = some (.int (if j < i then j else i)) := rfl
theorem dToTup_lst : dToTup [.list xs] = some (.tuple xs) := rfl
theorem dToTup_tup : dToTup [.tuple xs] = some (.tuple xs) := rfl
theorem dToLst_lst : dToLst [.list xs] = some (.list xs) := rfl
theorem dToLst_tup : dToLst [.tuple xs] = some (.list xs) := rfl
theorem dats_nil : dats [] = some [] := rfl
theorem dats_cons {as : List Sl} : dats (.dat d :: as) = (dats as).map fun ds => d :: ds := rfl
theorem dIx_tup : dIx (.tuple xs) (.int i) = atI xs i := rfl
theorem dIx_lst : dIx (.list xs) (.int i) = atI xs i := rfl
theorem atI_at {α : Type} {xs : List α} {n : Nat} {z : α} (h : xs[n]? = some z) : atI xs (n : Int) = some z := atI_nat h
theorem atI0 {α : Type} {z : α} {r : List α} : atI (z :: r) (0 : Int) = some z := atI_nat (j := 0) rfl
theorem atI1 {α : Type} {z z1 : α} {r : List α} : atI (z :: z1 :: r) (1 : Int) = some z1 := atI_nat (j := 1) rfl
theorem atI2 {α : Type} {z z1 z2 : α} {r : List α} : atI (z :: z1 :: z2 :: r) (2 : Int) = some z2 := atI_nat (j := 2) rfl
theorem atI3 {α : Type} {z z1 z2 z3 : α} {r : List α} : atI (z :: z1 :: z2 :: z3 :: r) (3 : Int) = some z3 := atI_nat (j := 3) rfl
theorem atI4 {α : Type} {z z1 z2 z3 z4 : α} {r : List α} : atI (z :: z1 :: z2 :: z3 :: z4 :: r) (4 : Int) = some z4 := atI_nat (j := 4) rfl
theorem atI5 {α : Type} {z z1 z2 z3 z4 z5 : α} {r : List α} : atI (z :: z1 :: z2 :: z3 :: z4 :: z5 :: r) (5 : Int) = some z5 := atI_nat (j := 5) rfl
theorem dInt_int : dInt (.int i) = some i := rfl
end
end DL

set_option Elab.async false
set_option linter.all false
set_option maxRecDepth 100000
set_option maxHeartbeats 2000000
set_option autoImplicit false
/-! the head: facts by names, tables of code objects -/
namespace DL
open PySem PySem.Spec PyProof.Rows L2
def tabP (K : PySem.W.Frag) (x : Str) : Addr × Addr := match PySem.W.tabIn K x with
  | some q => q
  | none => (0, 0)
def tabB (K : PySem.W.Frag) (x : Str) : Bool := match PySem.W.tabIn K x with
  | some (c, P) => PySem.W.codeHdIn K c P && (K.lookup P).isNone
  | none => false
abbrev AlT : Type := He.AlD × (Bool × List (Option Obj))
def tabO (xs : List Str) (K : PySem.W.Frag) (g : Addr → Option Obj) : Bool × List (Option Obj) := ((xs.all fun x => tabB K x) && decide (xs.map fun x => (tabP K x).2).Nodup, xs.map fun x => g (tabP K x).2)
def tabV (xs : List Str) : Bool × List (Option Obj) := (true, xs.map fun _ => some (PySem.W.tabObj #[]))
def obsT (n : Nat) (fa : List He.Fa) (fn : List He.DefD) (xs : List Str) (g : Addr → Option Obj) : AlT := (He.obsD fa fn (He.frG g (He.asD g n)), tabO xs (He.frG g (He.asD g n)) g)
structure SaysT (fa : List He.Fa) (fn : List He.DefD) (xs : List Str) (K : PySem.W.Frag) (h : Heap) : Prop where
  kin : K.In h
  facts : He.SaysD fa fn K
  tab : ∀ x ∈ xs, tabB K x = true ∧ h.get? (tabP K x).2 = some (PySem.W.tabObj #[])
  nd : (xs.map fun x => (tabP K x).2).Nodup
def hookT (n : Nat) (fa : List He.Fa) (fn : List He.DefD) (xs : List Str) : PySem.W.Hook where
  α := AlT
  obs := fun s => obsT n fa fn xs s.heap.get?
  val := fun _ => (He.valD fn, tabV xs)
  says := fun _ h => ∃ K : PySem.W.Frag, SaysT fa fn xs K h
  of := fun w s e => by
    have e1 := congrArg (fun z : AlT => z.1) e
    have e2 := congrArg (fun z : AlT => z.2.1) e
    have e3 := congrArg (fun z : AlT => z.2.2) e
    have e2 : ((xs.all fun x => tabB (He.frG s.heap.get? (He.asD s.heap.get? n)) x) && decide (xs.map fun x => (tabP (He.frG s.heap.get? (He.asD s.heap.get? n)) x).2).Nodup) = true := e2
    rw [Bool.and_eq_true, List.all_eq_true, decide_eq_true_eq] at e2
    have e3 : (xs.map fun x => s.heap.get? (tabP (He.frG s.heap.get? (He.asD s.heap.get? n)) x).2) = xs.map fun _ => some (PySem.W.tabObj #[]) := e3
    exact ⟨_, He.frG_in, e1, fun x hx => ⟨e2.1 x hx, List.map_inj_left.mp e3 x hx⟩, e2.2⟩
  keeps := fun w h h' ⟨K, S⟩ k => ⟨K, PySem.W.Frag.In.keeps S.kin k, S.facts, fun x hx => ⟨(S.tab x hx).1, k _ _ (S.tab x hx).2⟩, S.nd⟩
theorem obsT_eq {n : Nat} {fa : List He.Fa} {fn : List He.DefD} {xs : List Str} {g : Addr → Option Obj} {s : Shared} (h : ∀ a, g a = s.heap.get? a) : obsT n fa fn xs g = (hookT n fa fn xs).obs s := by
  have e : g = s.heap.get? := funext h
  rw [e] <;> rfl
section
variable {fa : List He.Fa} {fn : List He.DefD} {xs : List Str} {K : PySem.W.Frag} {h : Heap}
theorem SaysT.code (S : SaysT fa fn xs K h) {x : Str} (hx : x ∈ xs) : PySem.W.CodeHd h (tabP K x).1 (tabP K x).2 ∧ K.lookup (tabP K x).2 = none := by
  have hb := (S.tab x hx).1
  unfold tabB at hb
  unfold tabP
  split at hb
  · rename_i c P e
    rw [Bool.and_eq_true] at hb
    rw [e]
    refine ⟨PySem.W.codeHd_of_K S.kin hb.1, ?_⟩
    cases q : K.lookup P with
    | none => rfl
    | some o => have := hb.2; rw [q] at this; cases this
  · cases hb
theorem tabIn_of {x : Str} (hb : tabB K x = true) : PySem.W.tabIn K x = some (tabP K x) := by
  unfold tabB at hb
  unfold tabP
  split at hb
  · rename_i c P e; rw [e]
  · cases hb
/-- the def's code object is that of the table -/
theorem code_of {x : Str} {c P : Addr} (ht : PySem.W.tabIn K x = some (c, P)) {fd : FuncData} {oc : Value} {od : Option Addr} {osl : Array (Option Value)} (lk : K.lookup (He.ga K x) = some ⟨oc, od, .func fd, osl⟩) : fd.code = .ref c := by
  unfold PySem.W.tabIn at ht
  unfold He.ga at lk
  split at ht
  · rename_i f hf
    rw [hf] at lk
    dsimp only at lk
    rw [lk] at ht
    dsimp only at ht
    split at ht
    · rename_i c2 hc
      split at ht
      · split at ht
        · cases ht; exact hc
        · cases ht
      · cases ht
    · cases ht
  · cases ht
/-- a plain def of the text -/
structure DefIs (d : He.DefD) (x : Str) (st : Stmt) : Prop where
  e : d = ⟨(x, none), x, x, defArgs st, defBody st, defScope st, [], []⟩
theorem fun_of {x : Str} {st : Stmt} {ps : List Str} (c : He.SaysD fa fn K) {h : Heap} {mg : Str → Option Value} (X : K.In h) (G : h.Ns mainGlobals mg) (i : Nat) (hd : fn[i]? = some ⟨(x, none), x, x, defArgs st, defBody st, defScope st, [], []⟩) (j : Nat) (hf : fa[j]? = some (.glo x))
    (hb : ∀ (kV doc pm : Value) (an : Option Addr) (cdv ct : Value) (us : List Value), us.length = ps.length → bindArgs (PySem.W.fnOf x x (defArgs st) (defBody st) (defScope st) .none kV doc pm an cdv ct) ⟨us, []⟩ = pure (ps.zip us)) :
    ∃ (f : Addr) (fd : FuncData), Fun K x x st f fd ∧ mg x = some (.ref f) ∧ Binds K fd ps [] := by
  obtain ⟨fd, F⟩ := c.def_ i hd
  have b := F.bindsN hb
  obtain ⟨oc, od, dV, kV, doc, pm, an, cdv, ct, osl, rfl, lk, hcd, hD, hK⟩ := F.ex
  rcases hD with ⟨_, rfl⟩ | ⟨e, _⟩
  · exact ⟨He.ga K x, _, ⟨⟨oc, od, kV, doc, pm, an, cdv, ct, osl, rfl, lk, hcd⟩, F.kp⟩, He.glo_ok X G (c.fact j hf), b⟩
  · exact absurd rfl e
theorem funK_of {x : Str} {st : Stmt} {ps : List Str} (c : He.SaysD fa fn K) {h : Heap} {mg : Str → Option Value} (X : K.In h) (G : h.Ns mainGlobals mg) (hb : tabB K x = true) (i : Nat) (hd : fn[i]? = some ⟨(x, none), x, x, defArgs st, defBody st, defScope st, [], []⟩) (j : Nat) (hf : fa[j]? = some (.glo x))
    (hbi : ∀ (kV doc pm : Value) (an : Option Addr) (cdv ct : Value) (us : List Value), us.length = ps.length → bindArgs (PySem.W.fnOf x x (defArgs st) (defBody st) (defScope st) .none kV doc pm an cdv ct) ⟨us, []⟩ = pure (ps.zip us)) :
    ∃ (f : Addr) (fd : FuncData), FunK K x x st f fd (tabP K x).1 ∧ mg x = some (.ref f) ∧ Binds K fd ps [] := by
  obtain ⟨fd, F⟩ := c.def_ i hd
  have b := F.bindsN hbi
  obtain ⟨oc, od, dV, kV, doc, pm, an, cdv, ct, osl, rfl, lk, hcd, hD, hK⟩ := F.ex
  rcases hD with ⟨_, rfl⟩ | ⟨e, _⟩
  · have ec : cdv = .ref (tabP K x).1 := code_of (tabIn_of hb) lk
    subst ec
    exact ⟨He.ga K x, _, ⟨⟨oc, od, kV, doc, pm, an, ct, osl, rfl, lk, hcd⟩, F.kp⟩, He.glo_ok X G (c.fact j hf), b⟩
  · exact absurd rfl e
end
theorem walk_ofX {l : PySem.W.OpenLaw} {n k : Nat} {q : Program} {loose : List Str} {XP : (Str → Option Value) → Heap → Prop} {YP : World → Heap → Prop} {d : DefRec} {CX : World → CXT} {x : Str}
    (hn : l.most = some n) (hn2 : n ≤ sizeLine) (hdf : d.params.defaults = []) (hr : Room k callerA)
    (F : ∀ (w : World) (mg : Str → Option Value) (fa : Addr) (h : Heap), YP w h → h.Ns mainGlobals mg → mg d.name = some (.ref fa) → ∃ K : PySem.W.Frag, K.In h ∧ LamX.LawAtS l w K (CX w) k n x mg fa h)
    (hCX : ∀ (w : World) (H : Hp) (s : Shared) (e : Value) (s' : Shared), CX w [] H s (fun _ _ _ => False) e s' → False) :
    PySem.W.WalkO q loose XP YP l.row.toRowW d [] (fun f vs => PySem.call f vs) := by
  refine Att.attach_callB hn hdf fun w s₀ s₁ mg mb fa o pm cd doc a vs ns G Y ho hd hcd hmg hobj hints hlen hbits hg => ?_
  obtain ⟨K, KX, fd, cs, sp, hT, nT, C, hb, hsp, hF⟩ := F w mg fa _ Y G.T.g hmg
  exact LamX.law_callTs KX G.T.g G.T.b G.T.builtins G.T.nolimit hg hT nT C G.T.bmain hobj hints (Nat.le_trans hlen hn2) hr hF hb (fun H hH hS => hsp H a ns hlen hbits hH hS) fun H e s' => hCX w H s₁ e s'
theorem cx_no (P : Program) (w : World) (H : Hp) (s : Shared) (e : Value) (s' : Shared) (h : L2.CX P w [] H s (fun _ _ _ => False) e s') : False := by
  obtain ⟨_, _, _, _, _, _, _, _, _, _, _, _, z⟩ := h
  exact z
end DL

set_option Elab.async false
set_option linter.all false
set_option maxRecDepth 100000
set_option maxHeartbeats 2000000
set_option autoImplicit false
/-! isinstance of each kind of data -/
namespace DL
open PySem
theorem isi_int_int {i : Int} : isiOf "int" (.int i) = some true := rfl
theorem isi_int_bool {i : Int} : isiOf "bool" (.int i) = some false := rfl
theorem isi_int_str {i : Int} : isiOf "str" (.int i) = some false := rfl
theorem isi_int_tuple {i : Int} : isiOf "tuple" (.int i) = some false := rfl
theorem isi_bool_int {b : Bool} : isiOf "int" (.bool b) = some true := rfl
theorem isi_bool_bool {b : Bool} : isiOf "bool" (.bool b) = some true := rfl
theorem isi_bool_str {b : Bool} : isiOf "str" (.bool b) = some false := rfl
theorem isi_bool_tuple {b : Bool} : isiOf "tuple" (.bool b) = some false := rfl
theorem isi_str_int {x : PySem.Str} : isiOf "int" (.str x) = some false := rfl
theorem isi_str_bool {x : PySem.Str} : isiOf "bool" (.str x) = some false := rfl
theorem isi_str_str {x : PySem.Str} : isiOf "str" (.str x) = some true := rfl
theorem isi_str_tuple {x : PySem.Str} : isiOf "tuple" (.str x) = some false := rfl
theorem isi_tup_int {xs : List PySem.PyData} : isiOf "int" (.tuple xs) = some false := rfl
theorem isi_tup_bool {xs : List PySem.PyData} : isiOf "bool" (.tuple xs) = some false := rfl
theorem isi_tup_str {xs : List PySem.PyData} : isiOf "str" (.tuple xs) = some false := rfl
theorem isi_tup_tuple {xs : List PySem.PyData} : isiOf "tuple" (.tuple xs) = some true := rfl
theorem isi_lst_int {xs : List PySem.PyData} : isiOf "int" (.list xs) = some false := rfl
theorem isi_lst_bool {xs : List PySem.PyData} : isiOf "bool" (.list xs) = some false := rfl
theorem isi_lst_str {xs : List PySem.PyData} : isiOf "str" (.list xs) = some false := rfl
theorem isi_lst_tuple {xs : List PySem.PyData} : isiOf "tuple" (.list xs) = some false := rfl
theorem isi_none_int : isiOf "int" .none = some false := rfl
theorem isi_none_bool : isiOf "bool" .none = some false := rfl
theorem isi_none_str : isiOf "str" .none = some false := rfl
theorem isi_none_tuple : isiOf "tuple" .none = some false := rfl
end DL

set_option Elab.async false
set_option linter.all false
set_option maxRecDepth 100000
set_option maxHeartbeats 2000000
set_option autoImplicit false
set_option exponentiation.threshold 4000
/-! whole numbers of a size, loops and comprehensions one item on -/
namespace DL
open PySem PySem.Spec L2
def Sm (x : Int) : Prop := x.natAbs < 2 ^ 2000
section
variable {a b m x y : Int} {cu : Cu} {ρ : En}
theorem mulOk_sm (ha : Sm a) (hb : Sm b) : mulOk a b = true := mulOk_b ha hb (by decide) (by decide) (by decide)
theorem divOk_sm (h0 : b ≠ 0) (hb : Sm b) : divOk a b = true := divOk_b h0 hb (by decide) (by decide)
theorem Sm.of {B : Nat} (h : x.natAbs ≤ B) (hB : B < 2 ^ 2000 := by decide) : Sm x := Nat.lt_of_le_of_lt h hB
theorem fdiv_lo (hm : 0 < m) : a.fdiv m * m ≤ a := by
  have h := Int.mul_fdiv_add_fmod a m
  have h2 := Int.fmod_nonneg_of_pos a hm
  rw [Int.mul_comm] at h
  omega
theorem fdiv_hi (hm : 0 < m) : a < a.fdiv m * m + m := by
  have h := Int.mul_fdiv_add_fmod a m
  have h2 := Int.fmod_lt_of_pos a hm
  rw [Int.mul_comm] at h
  omega
theorem fmod_spec : a.fmod m = a - a.fdiv m * m := by
  have h := Int.mul_fdiv_add_fmod a m
  rw [Int.mul_comm] at h
  omega
theorem fmod_lo (hm : 0 < m) : 0 ≤ a.fmod m := Int.fmod_nonneg_of_pos a hm
theorem fmod_hi (hm : 0 < m) : a.fmod m < m := Int.fmod_lt_of_pos a hm
/-- a rest is the only number of its kind between nought and the modulus -/
theorem rest_one {k : Int} (hm : 0 < m) (h0 : 0 ≤ a - k * m) (h1 : a - k * m < m) : a.fmod m = a - k * m ∧ a.fdiv m = k := by
  have e := Int.mul_fdiv_add_fmod a m
  have l0 := Int.fmod_nonneg_of_pos a hm
  have l1 := Int.fmod_lt_of_pos a hm
  have ek : a.fdiv m = k := by
    have z : m * (a.fdiv m - k) = (a - k * m) - a.fmod m := by rw [Int.mul_sub, Int.mul_comm m k]; omega
    have z1 : m * (a.fdiv m - k) < m * 1 := by omega
    have z2 : m * (-1) < m * (a.fdiv m - k) := by omega
    have z3 := Int.lt_of_mul_lt_mul_left z1 (Int.le_of_lt hm)
    have z4 := Int.lt_of_mul_lt_mul_left z2 (Int.le_of_lt hm)
    omega
  refine ⟨?_, ek⟩
  rw [ek, Int.mul_comm] at e
  omega
def ab (i : Int) : Int := if i < 0 then -i else i
theorem dAbs_ab : dAbs [.int x] = some (.int (ab x)) := rfl
theorem ab_nn : 0 ≤ ab x := by unfold ab; split <;> omega
theorem ab_le : ab x ≤ b ↔ -b ≤ x ∧ x ≤ b := by unfold ab; split <;> omega
theorem ab_lo (h : 0 ≤ x) : ab x = x := by unfold ab; split <;> omega
theorem ab_hi (h : x ≤ 0) : ab x = -x := by unfold ab; split <;> omega
theorem ab_neg : ab (-x) = ab x := by unfold ab; split <;> split <;> omega
theorem Sm.ab (h : Sm x) : Sm (ab x) := by unfold Sm DL.ab at *; split <;> omega
theorem Sm.neg (h : Sm x) : Sm (-x) := by unfold Sm at *; omega
theorem gForL_nil {gg : GG} {g : GS} : gForL gg g [] ρ cu = .ok (.nx ρ) cu := rfl
theorem gForL_cons {gg : GG} {g : GS} {d : PyData} {r : List PyData} : gForL gg g (d :: r) ρ cu = (Rs.ofO (gg d ρ) cu).bind fun ρ1 cu1 => (g ρ1 cu1).bind fun o cu2 => match o with
      | .nx ρ' => gForL gg g r ρ' cu2
      | .ct ρ' => gForL gg g r ρ' cu2
      | .brk ρ' => .ok (.nx ρ') cu2
      | .ret d => .ok (.ret d) cu2 := rfl
theorem gLcL_nil {gg : GG} {gt : GT} {ge : GE} : gLcL gg gt ge [] ρ cu = .ok [] cu := rfl
theorem gLcL_cons {gg : GG} {gt : GT} {ge : GE} {d : PyData} {r : List PyData} : gLcL gg gt ge (d :: r) ρ cu = (Rs.ofO (gg d ρ) cu).bind fun ρ1 cu1 => (gt ρ1 cu1).nox.bind fun b cu2 => if b = true then (ge ρ1 cu2).nox.bind fun y cu3 => (gLcL gg gt ge r ρ cu3).bind fun ys cu4 => .ok (y :: ys) cu4 else gLcL gg gt ge r ρ cu2 := rfl
/-- a comprehension that asks and tells without moving the cup -/
theorem gLcL_pure {gg : GG} {gt : GT} {ge : GE} (p : PyData → Bool) (f : PyData → PyData) : ∀ {ds : List PyData}, (∀ d ∈ ds, ∃ ρ1, gg d ρ = some ρ1 ∧ gt ρ1 cu = .ok (p d) cu ∧ (p d = true → ge ρ1 cu = .ok (f d) cu)) → gLcL gg gt ge ds ρ cu = .ok ((ds.filter p).map f) cu
  | [], _ => rfl
  | d :: r, h => by
    obtain ⟨ρ1, h1, h2, h3⟩ := h d (List.mem_cons_self ..)
    have ih := gLcL_pure (gg := gg) (gt := gt) (ge := ge) p f (ds := r) fun d hd => h d (List.mem_cons_of_mem _ hd)
    rw [gLcL_cons, h1, Rs.ofO_some, Rs.bind_ok, h2, Rs.nox_ok, Rs.bind_ok]
    cases hp : p d with
    | true => rw [if_pos rfl, h3 hp, Rs.nox_ok, Rs.bind_ok, ih, Rs.bind_ok, List.filter_cons_of_pos hp, List.map_cons]
    | false => rw [if_neg Bool.false_ne_true, ih, List.filter_cons_of_neg (by rw [hp]; exact Bool.false_ne_true)]
theorem gWhileF_zero {gt : GT} {g : GS} : gWhileF gt g 0 ρ cu = .stuck := rfl
theorem gWhileF_succ {gt : GT} {g : GS} {n : Nat} : gWhileF gt g (n + 1) ρ cu = (gt ρ cu).bind fun b cu1 => if b = true then (g ρ cu1).bind fun o cu2 => match o with
      | .nx ρ' => gWhileF gt g n ρ' cu2
      | .ct ρ' => gWhileF gt g n ρ' cu2
      | .brk ρ' => .ok (.nx ρ') cu2
      | .ret d => .ok (.ret d) cu2 else .ok (.nx ρ) cu1 := rfl
theorem dZip_tup {xs ys : List PyData} : dZip [.tuple xs, .tuple ys] = some (zipD xs ys) := rfl
theorem dZip_lst {xs ys : List PyData} : dZip [.list xs, .list ys] = some (zipD xs ys) := rfl
theorem zipD_cc {x y : PyData} {xs ys : List PyData} : zipD (x :: xs) (y :: ys) = .tuple [x, y] :: zipD xs ys := rfl
theorem zipD_nil : zipD [] [] = [] := rfl
theorem dRng1_ok (h : -(2 ^ 62) ≤ a ∧ a < 2 ^ 62) : dRng1 [.int a] = some (rngD 0 a.toNat) := if_pos h
theorem dRng2_ok (h : -(2 ^ 62) ≤ a ∧ a < 2 ^ 62 ∧ -(2 ^ 62) ≤ b ∧ b < 2 ^ 62) : dRng2 [.int a, .int b] = some (rngD a (b - a).toNat) := if_pos h
theorem cutD_1 {z : PyData} {r : List PyData} : cutD (z :: r) (some 1) none = r := by
  unfold cutD HT.sIx
  simp
theorem dCut_tup {xs : List PyData} {lo hi : Option Int} : dCut (.tuple xs) lo hi = some (.tuple (cutD xs lo hi)) := rfl
theorem dCut_lst {xs : List PyData} {lo hi : Option Int} : dCut (.list xs) lo hi = some (.list (cutD xs lo hi)) := rfl
end
end DL

set_option Elab.async false
set_option linter.all false
set_option maxRecDepth 100000
set_option maxHeartbeats 2000000
set_option autoImplicit false
/-! sum, max, min and all of a list -/
namespace DL
open PySem PySem.Spec PyProof.Rows L2
section
variable {X : Cx} {K : Kx}
def intsD : List PyData → Option (List Int)
  | [] => some []
  | .int i :: r => (intsD r).map fun ns => i :: ns
  | _ :: _ => none
def blsD : List PyData → Option (List Bool)
  | [] => some []
  | .bool i :: r => (blsD r).map fun ns => i :: ns
  | _ :: _ => none
theorem ints_rp {G : Hp} : ∀ {xs : List V} {ds : List PyData} {ns : List Int}, RpL K G xs ds → intsD ds = some ns → xs = ns.map V.int
  | _, _, _, .nil, e => by cases e; rfl
  | v :: vs, d :: ds, ns, .cons h r, e => by
    cases d with
    | int i =>
      rw [intsD] at e
      cases ei : intsD ds with
      | none => rw [ei] at e; cases e
      | some ms =>
        rw [ei] at e
        cases e
        rw [List.map_cons, h.int_of, ints_rp r ei]
    | _ => cases e
theorem bls_rp {G : Hp} : ∀ {xs : List V} {ds : List PyData} {ns : List Bool}, RpL K G xs ds → blsD ds = some ns → xs = ns.map V.bl
  | _, _, _, .nil, e => by cases e; rfl
  | v :: vs, d :: ds, ns, .cons h r, e => by
    cases d with
    | bool i =>
      rw [blsD] at e
      cases ei : blsD ds with
      | none => rw [ei] at e; cases e
      | some ms =>
        rw [ei] at e
        cases e
        rw [List.map_cons, h.bl_of, bls_rp r ei]
    | _ => cases e
def dSum : List PyData → Option PyData
  | [.list ds] => (intsD ds).map fun ns => .int ns.sum
  | _ => none
def dMaxL : List PyData → Option PyData
  | [.list ds] => (intsD ds).bind fun ns => ns.max?.map .int
  | _ => none
def dMinL : List PyData → Option PyData
  | [.list ds] => (intsD ds).bind fun ns => ns.min?.map .int
  | _ => none
def dAllL : List PyData → Option PyData
  | [.list ds] => (blsD ds).map fun bs => .bool (bs.all id)
  | _ => none
theorem callD_sum : CallD K (rSum X.K) dSum := by
  intro c H G cu vs ds z Q wd r hz q
  unfold dSum at hz
  split at hz
  · rename_i es
    obtain ⟨v, rfl, rv⟩ := r.one
    obtain ⟨a, xs, rfl, ha, ra⟩ := rv.lst_of
    cases ei : intsD es with
    | none => rw [ei] at hz; cases hz
    | some ns =>
      rw [ei] at hz
      cases hz
      refine ⟨a, ns, rfl, ?_, q _ H G Ext.refl wd (.int _)⟩
      rw [← ints_rp ra ei]
      exact SqL.of (wd.sub _ _ ha)
  · cases hz
theorem callD_maxL : CallD K (rMax X.K) dMaxL := by
  intro c H G cu vs ds z Q wd r hz q
  unfold dMaxL at hz
  split at hz
  · rename_i es
    obtain ⟨v, rfl, rv⟩ := r.one
    obtain ⟨a, xs, rfl, ha, ra⟩ := rv.lst_of
    cases ei : intsD es with
    | none => rw [ei] at hz; cases hz
    | some ns =>
      rw [ei] at hz
      have hz' : ns.max?.map PyData.int = some z := hz
      cases em : ns.max? with
      | none => rw [em] at hz'; cases hz'
      | some m =>
        rw [em] at hz'
        cases hz'
        obtain ⟨h1, h2⟩ := List.max?_eq_some_iff.mp em
        refine ⟨a, ns, rfl, ?_, List.length_pos_of_mem h1, fun m' k1 k2 => ?_⟩
        · rw [← ints_rp ra ei]
          exact SqL.of (wd.sub _ _ ha)
        · have : m' = m := Int.le_antisymm (h2 _ k1) (k2 _ h1)
          subst this
          exact q _ H G Ext.refl wd (.int _)
  · cases hz
theorem callD_minL : CallD K (rMin X.K) dMinL := by
  intro c H G cu vs ds z Q wd r hz q
  unfold dMinL at hz
  split at hz
  · rename_i es
    obtain ⟨v, rfl, rv⟩ := r.one
    obtain ⟨a, xs, rfl, ha, ra⟩ := rv.lst_of
    cases ei : intsD es with
    | none => rw [ei] at hz; cases hz
    | some ns =>
      rw [ei] at hz
      have hz' : ns.min?.map PyData.int = some z := hz
      cases em : ns.min? with
      | none => rw [em] at hz'; cases hz'
      | some m =>
        rw [em] at hz'
        cases hz'
        obtain ⟨h1, h2⟩ := List.min?_eq_some_iff.mp em
        refine ⟨a, ns, rfl, ?_, List.length_pos_of_mem h1, fun m' k1 k2 => ?_⟩
        · rw [← ints_rp ra ei]
          exact SqL.of (wd.sub _ _ ha)
        · have : m' = m := Int.le_antisymm (k2 _ h1) (h2 _ k1)
          subst this
          exact q _ H G Ext.refl wd (.int _)
  · cases hz
theorem callD_allL : CallD K (rAll X.K) dAllL := by
  intro c H G cu vs ds z Q wd r hz q
  unfold dAllL at hz
  split at hz
  · rename_i es
    obtain ⟨v, rfl, rv⟩ := r.one
    obtain ⟨a, xs, rfl, ha, ra⟩ := rv.lst_of
    cases ei : blsD es with
    | none => rw [ei] at hz; cases hz
    | some ns =>
      rw [ei] at hz
      cases hz
      refine ⟨a, ns, rfl, ?_, q _ H G Ext.refl wd (.bl _)⟩
      rw [← bls_rp ra ei]
      exact SqL.of (wd.sub _ _ ha)
  · cases hz
end
end DL

set_option Elab.async false
set_option linter.all false
set_option maxRecDepth 100000
set_option maxHeartbeats 2000000
set_option autoImplicit false
/-! a in range(..), tuples repeated, tuple(.. for .. in a tuple) of numbers -/
namespace DL
open PySem PySem.Spec PyProof.Rows L2
section
variable {X : Cx} {pins : List (Addr × Obj)} {σ : L2.St} {H : Hp} {s : Shared}
/-- a value told by what it holds, one tuple deep -/
def DV (h : Heap) (u : Value) : PyData → Prop
  | .int i => ∃ t, u = .int i t
  | .tuple ds => ∃ (a : Addr) (its : List Value), u = .ref a ∧ h.IsTuple a its.toArray ∧ its.length = ds.length ∧ ∀ (j : Nat) (i : Int), ds[j]? = some (.int i) → ∃ t, its[j]? = some (.int i t)
  | _ => True
theorem DV.keep {h h' : Heap} {u : Value} {P : Addr} {ps : Array Value} (hP : h.get? P = some { cls := .none, data := .fields ps }) (k : ∀ b o, b ≠ P → h.get? b = some o → h'.get? b = some o) {d : PyData} (x : DV h u d) : DV h' u d := by
  cases d with
  | int i => exact x
  | tuple ds =>
    obtain ⟨a, its, e, ⟨o, e1, e2, e3⟩, r⟩ := x
    exact ⟨a, its, e, ⟨o, k a o (fun z => by
      rw [z, hP] at e1
      cases e1
      cases e2) e1, e2, e3⟩, r⟩
  | _ => trivial
theorem dv_of {K : Kx} (hKF : K.F = X.K) {x : V} {u : Value} {d : PyData} (I : Inv X pins σ H s) (rv : RelV x u) (r : Rp K H x d) : DV s.heap u d := by
  cases r with
  | int i => obtain ⟨t, q⟩ := (show ∃ t, u = Value.int i t from rv); cases q; exact ⟨t, rfl⟩
  | @tupA a xs ds ea rl =>
    cases (show u = Value.ref a from rv)
    obtain ⟨its, hvs, ⟨o, h1, h2, h3⟩, _⟩ := I.tuple (ea.sq' hKF)
    refine ⟨a, its, rfl, ⟨o, h1, h2, by first | exact h3 | exact ⟨_, h3⟩ | exact h3.1⟩, by rw [← hvs.length, rl.length], fun j i e => ?_⟩
    obtain ⟨v, e1, rp⟩ := rl.get e
    obtain ⟨u', e2, rv'⟩ := hvs.get e1
    cases rp
    obtain ⟨t, rfl⟩ := (show ∃ t, u' = Value.int i t from rv')
    exact ⟨t, e2⟩
  | _ => trivial
/-- the numbers that the inner block reads of the def -/
def CellsOk (X : Cx) (scope : Scope) (σ : L2.St) (cells : List (Str × Addr)) (h : Heap) : Prop := ∀ (i : Nat) (y : Str) (zc : Int), X.N[i]? = some y → σ[i]? = some (some (.int zc)) → scope.names.lookup y = some .free → ∃ c t, cells.lookup y = some c ∧ h.IsCell c (some (.int zc t))
/-- the element of d is the number z -/
def EltZ (X : Cx) (scope : Scope) (x : Str) (elt : Expr) (σ : L2.St) (d : PyData) (z : Int) : Prop := ∀ (cenv : Env) (A' : Around) (E' : Value → Shared → Prop) (s₂ : Shared) (m₂ : Str → Option Value) (v : Value), cenv.scope = scope → CellsOk X scope σ cenv.cells s₂.heap →
  s₂.heap.Ns cenv.locals m₂ → m₂ x = some v → DV s₂.heap v d → wpAny (model X.prog X.w) A' (eval elt cenv) (fun y s₃ => (∃ t, y = .int z t) ∧ Keeps s₂ s₃) E' s₂
def EltsZ (X : Cx) (scope : Scope) (x : Str) (elt : Expr) (σ : L2.St) (ds : List PyData) (zs : List Int) : Prop := ds.length = zs.length ∧ ∀ (i : Nat) (d : PyData) (z : Int), ds[i]? = some d → zs[i]? = some z → EltZ X scope x elt σ d z
/-- the generator g over the numbers zs, ready to be walked -/
def ReadyZ (X : Cx) (pins : List (Addr × Obj)) (σ : L2.St) (H1 : Hp) (T : List (Addr × Str)) (zs : List Int) (g : Addr) (s5 : Shared) : Prop :=
  ∃ (fp wr : List Addr) (G : Array GenState → Array GenState → Prop) (F : Nat → Value → Prop) (St : Nat → Shared → Prop),
    WalksS X.prog X.w X.A.in1.in1.in1 g fp wr G zs.length F St ∧ St 0 s5 ∧ (∀ i s, St i s → s.TypeIs (.ref g) "generator") ∧ (∀ b ∈ fp, b < s5.heap.objs.size) ∧ g ∈ fp ∧ (∀ j y, F j y → ∃ z t, zs[j]? = some z ∧ y = .int z t) ∧
    ∀ s', Moved wr G s5 s' → ∃ H2, (∀ b o, H1 b = some o → NT o → H2 b = some o) ∧ LamX.Tabs T H2 ∧ Inv X pins σ H2 s'
theorem gen_tupz {K : Kx} {c P : Addr} {iter elt : Expr} {x : Str} {px gpos : Pos} {scope : Scope} {te : TE} {k : Nat} {Q' : Value → Shared → Prop} {R : List PyData → List Int → Hp → Prop} {T : List (Addr × Str)}
    (hr : Room (k + 2) X.A) (TB : LamX.TabB X.base X.mg c P) (hcode : X.env.code = .ref c) (S : GxR.GenS X.env scope x) (hfs : ∀ y ∈ scope.names, y.2 = .free → X.env.scope.names.lookup y.1 = some .cell ∨ X.env.scope.names.lookup y.1 = some .free) (hi : PE X iter te) (hmT : (P, X.env.qual ++ "<genexpr>") ∈ T) (hu : ∀ p ∈ T, p.1 = P → p.2 = X.env.qual ++ "<genexpr>")
    (hs : ∀ v, genFold iter X.env v = pure v) (hKF : K.F = X.K) (I : Inv X pins σ H s) (h : te σ H fun v H1 => ∃ a xs ds zs, v = .ref a ∧ SqT X.K H1 a xs ∧ RpL K H1 xs ds ∧ LamX.Tabs T H1 ∧ EltsZ X scope x elt σ ds zs ∧ R ds zs H1)
    (hQ : ∀ ds zs H1 g s5, ds.length = zs.length → R ds zs H1 → ReadyZ X pins σ H1 T zs g s5 → Q' (.ref g) s5) :
    wpAny (model X.prog X.w) X.A (eval (.GeneratorExp elt [⟨.Name x px, iter, [], 0⟩] scope gpos) X.env) Q' X.xe s := by
  refine wpAny_GeneratorExp_walksQD hr.hd S.co (closure_ok S.free) S.cell S.dot S.loc S.kind (by have := hr.dp; omega) ?_ hs
  refine thn (hi.run pins s σ H _ I h) fun xv s1 ⟨v, H1, I1, r1, q1⟩ => ?_
  obtain ⟨a, xs, ds, zs, rfl, ha, hds, hTs, ⟨hzl, helt⟩, q1⟩ := q1
  obtain rfl : xv = .ref a := r1
  obtain ⟨its, hvs, ht, _⟩ := I1.tuple ha
  have htI : s1.heap.IsTuple a its.toArray := by
    obtain ⟨o, e1, e2, e3⟩ := ht
    exact ⟨o, e1, e2, by first | exact e3 | exact ⟨_, e3⟩ | exact e3.1⟩
  obtain ⟨ps, hP, htr, hamong⟩ := hTs _ hmT
  refine wpAny_pyIter_tuple htI ?_
  have hPs : s1.heap.get? P = some { cls := .none, data := .fields ps } := I1.hok P _ hP
  have hPlt : P < s1.heap.objs.size := Heap.lt_size hPs
  have haP : a ≠ P := fun z => by
    obtain ⟨o, e1, e2, _⟩ := htI
    rw [z, hPs] at e1; cases e1; cases e2
  have hlen : its.length = ds.length := by rw [← hvs.length, hds.length]
  have hal : a < s1.heap.objs.size := let ⟨o, e, _⟩ := htI; Heap.lt_size e
  have hkit : ∀ (i : Nat) (u : Value), its[i]? = some u → ∃ d, ds[i]? = some d ∧ DV s1.heap u d := fun i u e => by
    have hi := (List.getElem?_eq_some_iff.mp e).1
    have hd : ds[i]? = some (ds[i]'(by omega)) := List.getElem?_eq_getElem _
    obtain ⟨v, e1, rp⟩ := hds.get hd
    obtain ⟨u', e2, rv⟩ := hvs.get e1
    rw [e] at e2
    cases e2
    exact ⟨_, hd, dv_of hKF I1 rv rp⟩
  generalize ho : ({ cls := .type "tuple_iterator", data := .fields #[.ref a, .int 0 0] } : Obj) = o
  have hP2 : (s1.heap.push o).get? P = some { cls := .none, data := .fields ps } := Heap.get?_push_of_some _ hPs
  have cd : PySem.W.CodeHd (s1.heap.push o) c P := TB.code.keeps fun b u e => Heap.get?_push_of_some _ (I1.bk b u e)
  have lim2 : (s1.heap.push o).NoLimit := I1.nolimit.push o
  have hit2 : (s1.heap.push o).IsTupleIter s1.heap.objs.size a 0 := ⟨o, Heap.get?_push_size _ (by rw [← ho]; rfl), by rw [← ho], by rw [← ho]; rfl⟩
  have hti2 : (s1.heap.push o).IsTuple a its.toArray := let ⟨u, e, r⟩ := htI; ⟨u, Heap.get?_push_of_some _ e, r⟩
  have sz2 : (s1.heap.push o).objs.size = s1.heap.objs.size + 1 := Heap.size_push ..
  -- behind the making of the code object: h3, with the code at `code`
  have cont : ∀ (code : Value) (h3 : Heap) (tk : Nat), Heap.ExtBut P (s1.heap.push o) h3 → (s1.heap.push o).objs.size ≤ h3.objs.size →
      (∀ s' : Shared, s'.os = s1.os → AllBare s'.gens → (∀ b u, b < h3.objs.size → b ≠ s1.heap.objs.size → h3.get? b = some u → s'.heap.get? b = some u) → ∃ H2, (∀ b o, H1 b = some o → NT o → H2 b = some o) ∧ LamX.Tabs T H2 ∧ Inv X pins σ H2 s') →
      wpAny (model X.prog X.w) X.A (builtinsFor X.env.globals X.env.builtins) (fun bi s₄ =>
        ∃ Ia fp wr n₀ Pf St₀ pz F, Value.ref s1.heap.objs.size = .ref Ia ∧ (∀ A' : Around, A'.handled = none → Walks X.prog X.w A' Ia fp wr n₀ Pf St₀) ∧ St₀ 0 s₄.heap ∧ (∀ b ∈ fp, b < s₄.heap.objs.size) ∧ s₄.heap.NoLimit ∧ cStatics ∉ wr ∧
          (∀ href : Heap, (∀ b o, s₄.heap.get? b = some o → href.get? b = some o) →
            QuietGenD X.prog X.w (genEnv scope (cloFrom X.env.cells scope.names []) s₄.heap.objs.size code bi X.env) x [] elt (List.range s₄.heap.objs.size) wr Pf pz F href (X.A.depth + 1) (X.A.units + 8)) ∧
          (∀ a h₅ tk gs, gs.bare = true → s₄.heap.objs.size < a → h₅.objs.size = a + 1 → (∀ b o, s₄.heap.get? b = some o → h₅.get? b = some o) →
            WalksS X.prog X.w X.A.in4 a (a :: s₄.heap.objs.size :: List.range s₄.heap.objs.size) (s₄.heap.objs.size :: wr) (GenOnlyQ s₄.gens.size) (passing pz n₀ 0).length
              (fun j y => ∃ i, (passing pz n₀ 0)[j]? = some i ∧ F i y) (GenAt X.prog X.w X.A.in4 a s₄.gens.size s₄.heap.objs.size (List.range s₄.heap.objs.size) wr pz n₀ F) →
            GenAt X.prog X.w X.A.in4 a s₄.gens.size s₄.heap.objs.size (List.range s₄.heap.objs.size) wr pz n₀ F 0 { s₄ with gens := s₄.gens.push gs, toks := tk, heap := h₅ } →
            Q' (.ref a) { s₄ with gens := s₄.gens.push gs, toks := tk, heap := h₅ })) X.xe { s1 with heap := h3, toks := tk } := by
    intro code h3 tk hx hsz hfin
    obtain ⟨bm, ob, e1, e2, e3, e4, e5, e6, e7, e8⟩ := TB.bm
    have hcP : cStatics ≠ P := fun e => by
      obtain ⟨_, hns, _⟩ := I1.nolimit
      obtain ⟨o', es, ep, ho, hd, _⟩ := hns
      rw [e, hPs] at ho
      cases ho
      cases hd
    have hcl : cStatics < s1.heap.objs.size := let ⟨_, hns, _⟩ := I1.nolimit; hns.lt
    have keep3 : ∀ b u, b ≠ P → s1.heap.get? b = some u → h3.get? b = some u := fun b u hb e => hx b u hb (Heap.get?_push_of_some _ e)
    have lim3 : h3.NoLimit := lim2.extBut hx hcP
    refine wpAny_builtinsFor (m := X.mg) (by rw [I1.ok.glob]; exact ((I1.mod.glob.keeps I1.bk).push o).extBut hx TB.gP) e1 e2 (keep3 _ _ e4 (I1.bk _ _ e5)) e6 e7 e8 ?_
    refine ⟨s1.heap.objs.size, [s1.heap.objs.size, a], [s1.heap.objs.size], its.toArray.size, (fun i v => its.toArray[i]? = some v), (fun i h => h.IsTupleIter s1.heap.objs.size a i ∧ h.IsTuple a its.toArray), (fun _ => true), (fun i y => ∃ z t, zs[i]? = some z ∧ y = .int z t), rfl,
      fun A' hA => Walks.tuple hA _ _ (Nat.ne_of_lt hal) _, ⟨?_, ?_⟩, ?_, lim3, ?_, ?_, ?_⟩
    · obtain ⟨u, e, r⟩ := hit2
      exact ⟨u, hx _ u (Nat.ne_of_gt hPlt) e, r⟩
    · obtain ⟨u, e, r⟩ := hti2
      exact ⟨u, hx _ u haP e, r⟩
    · intro b hb
      show b < h3.objs.size
      rcases List.mem_cons.mp hb with z | z
      · rw [z]; exact Nat.lt_of_lt_of_le (by rw [sz2]; exact Nat.lt_succ_self _) hsz
      · rcases List.mem_cons.mp z with z | z
        · rw [z]; exact Nat.lt_of_lt_of_le (Nat.lt_trans hal (by rw [sz2]; exact Nat.lt_succ_self _)) hsz
        · cases z
    · intro z
      rcases List.mem_cons.mp z with z | z
      · exact Nat.ne_of_lt hcl z
      · cases z
    · intro href hhref
      refine ⟨fun A' E' i v s₂ m₂ hA _ _ hPv hn hm hk => ?_, fun A' E' i v s₂ m₂ hA hdep huni hPv hp hn hm hk => ?_⟩
      · simp only [List.forIn_nil]
        exact wpAny_pure ⟨rfl, GxR.keeps_refl _⟩
      · have hPv' : its[i]? = some v := by rw [← List.getElem?_toArray]; exact hPv
        obtain ⟨d, hd, kd⟩ := hkit i v hPv'
        have up : ∀ b u, b ≠ P → s1.heap.get? b = some u → s₂.heap.get? b = some u := fun b u hb e => by
          have e3 := keep3 b u hb e
          have hl := Heap.lt_size e
          refine hk b (List.mem_range.mpr (Heap.lt_size e3)) (fun z => ?_) u (hhref b u e3)
          rcases List.mem_cons.mp z with z | z
          · rw [z] at hl; exact Nat.lt_irrefl _ hl
          · cases z
        have bsk : ∀ b u, X.base.get? b = some u → s₂.heap.get? b = some u := fun b u e => up b u (fun z => by
          have h0 := (I1.bs b u e).2
          have h1 : H1 P = some (.tbl ps) := hP
          rw [z, h1] at h0; cases h0) (I1.bk b u e)
        have hz : zs[i]? = some (zs[i]'(by have := (List.getElem?_eq_some_iff.mp hd).1; omega)) := List.getElem?_eq_getElem _
        refine wpAny_mono (helt i d _ hd hz _ A' E' s₂ m₂ v rfl (fun j y zc f1 f2 f3 => ?_) hn hm (kd.keep hPs up)) (fun y s₃ hy => ?_) fun _ _ e => e
        · obtain ⟨m, hn1, hl1⟩ := I1.loc
          have hvis : Vis X.env.scope y := (hfs _ (PySem.mem_of_lookup f3) rfl).elim (fun k => .inr (.inl k)) (fun k => .inr (.inr k))
          obtain ⟨w', r, q⟩ := hl1 j y (.int zc) f1 f2 hvis
          obtain ⟨t, rfl⟩ := r
          obtain ⟨c2, h2⟩ : ∃ c2, (cloFrom X.env.cells scope.names []).lookup y = some c2 := mem_lookup (cloFrom_has (cells := X.env.cells) (acc := []) (PySem.mem_of_lookup f3))
          refine ⟨c2, t, h2, ?_⟩
          have c1 : X.env.cells.lookup y = some c2 := by
            rcases cloFrom_mem (PySem.mem_of_lookup h2) with hm' | ⟨_, g2⟩
            · cases hm'
            · obtain ⟨c1, hc⟩ := S.free _ (PySem.mem_of_lookup f3) rfl
              have hc : X.env.cells.lookup y = some c1 := hc
              have e2 : c2 = c1 := by
                rw [g2, hc] <;> rfl
              rw [e2]
              exact hc
          rcases q with ⟨k', _⟩ | ⟨_, c3, e', ⟨o3, g3, g4⟩⟩
          · have k' : X.env.scope.names.lookup y = some .local := k'
            rcases hfs _ (PySem.mem_of_lookup f3) rfl with k2 | k2 <;> rw [show X.env.scope.names.lookup y = _ from k2] at k' <;> cases k'
          · rw [c1] at e'
            cases e'
            exact ⟨o3, up _ _ (fun z => by rw [z, hPs] at g3; cases g3; cases g4) g3, g4⟩
        · obtain ⟨⟨t, rfl⟩, hk3⟩ := hy
          exact ⟨⟨_, t, hz, rfl⟩, hk3⟩
    · intro g h5 tk5 gs hgb hag hsz5 hk5 W5 hat
      simp only [GxR.passing_true, List.length_range] at W5
      have hn0 : its.toArray.size = ds.length := by rw [List.size_toArray, hlen]
      rw [hn0] at W5 hat
      have W6 := W5.in4_3
      rw [hzl] at W6 hat
      refine hQ ds zs H1 g _ hzl q1 ⟨_, _, _, _, _, W6, hat, fun i s' h' => ?_, fun b hb => ?_, List.mem_cons_self .., ?_, fun s' hm => ?_⟩
      · exact Heap.IsGen.typeIs h'.1
      · show b < h5.objs.size
        rw [hsz5]
        rcases List.mem_cons.mp hb with z | z
        · rw [z]; exact Nat.lt_succ_self _
        · rcases List.mem_cons.mp z with z | z
          · rw [z]; exact Nat.lt_succ_of_lt hag
          · exact Nat.lt_succ_of_lt (Nat.lt_trans (List.mem_range.mp z) hag)
      · intro j y hy
        obtain ⟨i, hij, z, t, hz, rfl⟩ := hy
        obtain ⟨hj, ej⟩ := List.getElem?_eq_some_iff.mp hij
        rw [List.getElem_range] at ej
        subst ej
        exact ⟨z, t, hz, rfl⟩
      · refine hfin s' hm.os (AllBare.movedS (I1.bare.push hgb) hm) fun b u hl hne e => hm.heap b u (fun z => ?_) (hk5 b u e)
        rcases List.mem_cons.mp z with z | z
        · rw [z] at hl
          exact Nat.lt_irrefl _ hl
        · rcases List.mem_cons.mp z with z | z
          · exact hne z
          · cases z
  refine ⟨lim2, ?_⟩
  cases hf : codeAmong gpos ps.toList with
  | none =>
    refine wpAny_genexprCodeX hcode (cd.code hP2 htr) (cd.tab hP2) hf fun c' h' tk hx hge hlt hco' hrec htab' _ => ?_
    obtain ⟨o1, vs, f1, tf, fl, tg, inF, tx, tt, op, _, _, _, _, _, _, _, _, _, htr', _⟩ := hco'
    refine cont _ h' tk hx (Nat.le_trans hge (Nat.le_of_lt hlt)) fun s' hos hgb hk => ?_
    have hge' : s1.heap.objs.size + 1 ≤ c' := Nat.le_trans (Nat.le_of_eq sz2.symm) hge
    have hcge : s1.heap.objs.size ≤ c' := Nat.le_trans (Nat.le_succ _) hge'
    have nC : H1 c' = none := I1.hok.fresh hcge
    obtain ⟨c2, oc, vs2, t2, e2, hoc, hdc, hvc⟩ := hrec
    cases e2
    have J := inv_table' (c := c') (q := X.env.qual ++ "<genexpr>") (more := #[rawInt gpos.line, rawInt gpos.col, .ref c']) (h' := s'.heap) (g' := s'.gens) (d' := s'.drawn) (t' := s'.toks) I1 hP
      (fun b u hb e => hk b u (Heap.lt_size (hx b u hb (Heap.get?_push_of_some _ e))) (Nat.ne_of_lt (Heap.lt_size e)) (hx b u hb (Heap.get?_push_of_some _ e)))
      (hk P _ (Nat.lt_trans (Nat.lt_of_lt_of_le hPlt hcge) hlt) (Nat.ne_of_lt hPlt) htab'.2) hcge ⟨oc, vs2, t2, hk c' _ hlt (Nat.ne_of_gt hge') hoc, hdc, hvc⟩ hgb
    rw [GxR.sh_eta s1 s' hos] at J
    refine ⟨_, fun b u e n => ?_, fun p hp => ?_, J⟩
    · rw [upd_ne (ne_of_none e nC), upd_ne (fun z => n ps (Option.some.inj (e.symm.trans (by rw [z]; exact hP))))]
      exact e
    · by_cases hb : p.1 = P
      · rw [hu p hp hb, hb]
        have eL : (ps ++ #[rawInt gpos.line, rawInt gpos.col, .ref c']).toList = ps.toList ++ [rawInt gpos.line, rawInt gpos.col, .ref c'] := by simp
        refine ⟨_, by rw [upd_ne (ne_of_none hP nC), upd_same], by rw [eL]; exact PySem.TriplesOk_snoc _ _ _ _ htr, fun p' cv hcv => ?_⟩
        rw [eL] at hcv
        rcases LamX.among_app _ htr hcv with z | z
        · obtain ⟨c0, e1, e2⟩ := hamong p' cv z
          refine ⟨c0, e1, ?_⟩
          rw [upd_ne (ne_of_none e2 nC), upd_ne (fun z => by rw [z] at e2; have h1 : H1 P = some (.tbl ps) := hP; rw [h1] at e2; exact LamX.codeO_ne ps (Option.some.inj e2).symm)]
          exact e2
        · exact ⟨c', z, upd_same⟩
      · obtain ⟨ps', a1, a2, a3⟩ := hTs p hp
        refine ⟨ps', by rw [upd_ne (ne_of_none a1 nC), upd_ne hb]; exact a1, a2, fun p' cv hcv => ?_⟩
        obtain ⟨c0, e1, e2⟩ := a3 p' cv hcv
        refine ⟨c0, e1, ?_⟩
        rw [upd_ne (ne_of_none e2 nC), upd_ne (fun z => by rw [z] at e2; have h1 : H1 P = some (.tbl ps) := hP; rw [h1] at e2; exact LamX.codeO_ne ps (Option.some.inj e2).symm)]
        exact e2
  | some cv =>
    refine wpAny_genexprCode_hit hcode (cd.code hP2 htr) hf ?_
    refine cont cv (s1.heap.push o) s1.toks (Heap.ExtBut.refl _ _) (Nat.le_refl _) fun s' hos hgb hk => ?_
    have J := inv_gens (h' := s'.heap) (g' := s'.gens) (d' := s'.drawn) (t' := s'.toks) I1 (fun b u e => hk b u (Nat.lt_trans (Heap.lt_size e) (by rw [sz2]; exact Nat.lt_succ_self _)) (Nat.ne_of_lt (Heap.lt_size e)) (Heap.get?_push_of_some _ e)) hgb
    rw [GxR.sh_eta s1 s' hos] at J
    exact ⟨H1, fun _ _ e _ => e, hTs, J⟩theorem vals_ints : ∀ (zs : List Int) (ys : List Value), ys.length = zs.length → (∀ (j : Nat) (y : Value), ys[j]? = some y → ∃ z t, zs[j]? = some z ∧ y = .int z t) → Vals (zs.map V.int) ys
  | [], [], _, _ => .nil
  | [], _ :: _, h, _ => by cases h
  | _ :: _, [], h, _ => by cases h
  | z :: zs, y :: ys, h, k => by
    obtain ⟨z', t, e1, e2⟩ := k 0 y rfl
    cases e1
    exact .cons ⟨t, e2⟩ (vals_ints zs ys (Nat.succ.inj h) fun j y' e => by
      obtain ⟨z', t', e1, e2⟩ := k (j + 1) y' (by simpa using e)
      exact ⟨z', t', by simpa using e1, e2⟩)
def tTupZ (X : Cx) (K : Kx) (scope : Scope) (x : Str) (elt : Expr) (T : List (Addr × Str)) (te : TE) : TE := fun σ H Q => te σ H fun v H1 => ∃ a xs ds zs, v = .ref a ∧ SqT X.K H1 a xs ∧ RpL K H1 xs ds ∧ LamX.Tabs T H1 ∧ EltsZ X scope x elt σ ds zs ∧
  (zs.length ≤ sizeLine ∧ ∀ H2, (∀ b o, H1 b = some o → NT o → H2 b = some o) → LamX.Tabs T H2 → ∀ q, H2 q = none → Q (.ref q) (upd H2 q (.tup (zs.map V.int))))
end
section
variable {X : Cx}
def gxB (sc scope : Scope) (x : Str) : Bool :=
  decide (scope.kind = .function) && !scope.isCoroutine && decide (scope.names.lookup (".0" : Str) = some .local) && decide (scope.names.lookup x = some .local) && scope.names.all fun y => !decide (y.2 = .cell) && (!decide (y.2 = .free) || decide (sc.names.lookup y.1 = some .cell) || decide (sc.names.lookup y.1 = some .free))
theorem gx_of {scope : Scope} {x : Str} (ok : X.Ok) (h : gxB X.env.scope scope x = true) : GxR.GenS X.env scope x ∧ ∀ y ∈ scope.names, y.2 = .free → X.env.scope.names.lookup y.1 = some .cell ∨ X.env.scope.names.lookup y.1 = some .free := by
  unfold gxB at h
  simp only [Bool.and_eq_true, Bool.or_eq_true, Bool.not_eq_true', decide_eq_true_eq, decide_eq_false_iff_not, List.all_eq_true] at h
  obtain ⟨⟨⟨⟨h1, h2⟩, h3⟩, h4⟩, h5⟩ := h
  have hf : ∀ y ∈ scope.names, y.2 = .free → X.env.scope.names.lookup y.1 = some .cell ∨ X.env.scope.names.lookup y.1 = some .free := fun y hy e => by
    rcases (h5 y hy).2 with (z | z) | z
    · exact absurd e z
    · exact .inl z
    · exact .inr z
  exact ⟨⟨h1, h2, fun y hy => (h5 y hy).1, h3, h4, fun y hy e => (hf y hy e).elim (fun k => ok.has _ (.inl k)) (fun k => ok.has _ (.inr k))⟩, hf⟩
theorem pe_tupZ {K : Kx} {c P : Addr} {iter elt : Expr} {x : Str} {px p pos gpos : Pos} {scope : Scope} {te : TE} {k : Nat} {T : List (Addr × Str)}
    (hr : Room (k + 2) X.A) (hg : Gl X "tuple") (hm : X.mg "tuple" = none) (TB : LamX.TabB X.base X.mg c P) (hcode : X.env.code = .ref c) (S0 : gxB X.env.scope scope x = true) (hi : PE X iter te)
    (hmT : (P, X.env.qual ++ "<genexpr>") ∈ T) (hu : ∀ p ∈ T, p.1 = P → p.2 = X.env.qual ++ "<genexpr>") (hs : ∀ v, genFold iter X.env v = pure v) (hKF : K.F = X.K := by assumption)
    (he : starEach [.GeneratorExp elt [⟨.Name x px, iter, [], 0⟩] scope gpos] X.env = (false, eval (.GeneratorExp elt [⟨.Name x px, iter, [], 0⟩] scope gpos) X.env) :: starEach [] X.env := by rfl) :
    PE X (.Call (.Name "tuple" p) [.GeneratorExp elt [⟨.Name x px, iter, [], 0⟩] scope gpos] [] pos) (tTupZ X K scope x elt T te) := by
  refine ⟨fun pins s σ H Q I h => ?_⟩
  obtain ⟨S, hfs⟩ := gx_of I.ok S0
  refine wpAny_Call_Name_kw (ld_blt I hg hm bb_tuple ?_)
  refine PyProof.Rows.callWith_type1 ?_ he rfl
  rw [he]
  show wpAny _ _ (spliced ((false, eval (.GeneratorExp elt [⟨.Name x px, iter, [], 0⟩] scope gpos) X.env) :: backTo pos (starEach [] X.env))) _ _ s
  refine Calls.spliced_cons (gen_tupz (R := fun ds zs H1 => zs.length ≤ sizeLine ∧ ∀ H2 : Hp, (∀ (b : Addr) (o : HO), H1 b = some o → NT o → H2 b = some o) → LamX.Tabs T H2 → ∀ q, H2 q = none → Q (.ref q) (upd H2 q (.tup (zs.map V.int)))) hr TB hcode S hfs hi hmT hu hs hKF I h fun ds zs H1 g s5 hl hR hG => ?_)
  obtain ⟨fp, wr, G, F, St, W, hst, hT, hfp, hgf, hF, hI⟩ := hG
  refine Calls.spliced_nil ?_
  refine call_tuple_gen (hsz := hR.1) W hT hst hfp hgf fun s' acc hmv hacc => ?_
  obtain ⟨H2, hK, hT2, J⟩ := hI s' hmv
  refine ⟨.ref s'.heap.objs.size, upd H2 s'.heap.objs.size (.tup (zs.map V.int)), J.laid (t' := s'.toks) (fun b o e => Heap.get?_push_of_some _ e) (Nat.le_refl _) ?_, rfl, hR.2 H2 hK hT2 _ (J.hok.fresh (Nat.le_refl _))⟩
  refine ⟨by rw [List.length_map]; exact hR.1, acc.toList, vals_ints zs acc.toList (by rw [Array.length_toList]; exact hacc.1) fun j y e => hF j y (hacc.2 j y (by simpa using e)), ?_⟩
  exact ⟨_, Heap.get?_push_size _ rfl, rfl, 0, by simp⟩
/-! the elements -/
def EltD (X : Cx) (scope : Scope) (x : Str) (elt : Expr) (f : En → PyData → Option Int) : Prop := ∀ (K : Kx) (c : Option Addr) (H0 : Hp) (σ : L2.St) (H G : Hp) (ρ : En), Rep K c H0 σ H G ρ → ∀ d z, f ρ d = some z → EltZ X scope x elt σ d z
section
variable {scope : Scope} {x y : Str} {p p1 p2 : Pos} {fa fb ft : En → PyData → Option Int} {a b e : Expr}
theorem ei_item (hk : scope.kind = .function) (hl : scope.names.lookup x = some .local) (hd : (x == ("__debug__" : Str)) = false := by decide) : EltD X scope x (.Name x p) (fun _ d => dInt d) := by
  intro KK c H0 σ H G ρ r d z hz cenv A' E' s m v hsc hc hn hm hv
  have hz : dInt d = some z := hz
  have ed : d = .int z := by cases d <;> first | (cases hz; rfl) | cases hz
  subst ed
  obtain ⟨t, rfl⟩ := (show ∃ t, v = Value.int z t from hv)
  exact wpAny_Name (wpAny_loadName_local (by rw [hsc]; exact hk) (show cenv.scope.names.lookup x = some .local by rw [hsc]; exact hl) hn hm ⟨⟨t, rfl⟩, GxR.keeps_refl _⟩) hd
def atZ (i : Nat) (ρ : En) : Option Int := match ρ[i]? with
  | some (.dat (.int z)) => some z
  | _ => none
theorem ei_cell {i : Nat} (hk : scope.kind = .function) (hN : X.N[i]? = some y) (hl : scope.names.lookup y = some .free) (hd : (y == ("__debug__" : Str)) = false := by decide) (hcd : (y == ("__classdict__" : Str)) = false := by decide) : EltD X scope x (.Name y p) (fun ρ _ => atZ i ρ) := by
  intro KK c H0 σ H G ρ r d z hz cenv A' E' s m v hsc hc hn hm hv
  have e : ρ[i]? = some (.dat (.int z)) := by
    have hz : atZ i ρ = some z := hz
    unfold atZ at hz
    split at hz
    · rename_i e; cases hz; exact e
    · cases hz
  obtain ⟨w, e1, rw'⟩ := r.dat i _ e
  have ew := rw'.int_of
  subst ew
  obtain ⟨cc, t, h1, h2⟩ := hc i y z hN e1 hl
  exact wpAny_Name (wpAny_loadName_free (by rw [hsc]; exact hk) (show cenv.scope.names.lookup y = some .free by rw [hsc]; exact hl) h1 h2 ⟨⟨t, rfl⟩, GxR.keeps_refl _⟩ hcd) hd
theorem ei_const {i : Int} {j : Nat} : EltD X scope x (.Constant (.int i) j p) (fun _ _ => some i) := by
  intro KK c H0 σ H G ρ r d z hz cenv A' E' s m v hsc hc hn hm hv
  cases hz
  exact wpAny_Constant_int ⟨⟨_, rfl⟩, GxR.keeps_tok _ _⟩
theorem CellsOk.keep {σ : L2.St} {cells : List (Str × Addr)} {h h' : Heap} (k : CellsOk X scope σ cells h) (e : ∀ b o, h.get? b = some o → h'.get? b = some o) : CellsOk X scope σ cells h' := fun i y z h1 h2 h3 =>
  let ⟨c, t, e1, e2⟩ := k i y z h1 h2 h3
  ⟨c, t, e1, e2.keeps e⟩
theorem DV.keeps {h h' : Heap} {u : Value} (k : ∀ b o, h.get? b = some o → h'.get? b = some o) {d : PyData} (x : DV h u d) : DV h' u d := by
  cases d with
  | int i => exact x
  | tuple ds =>
    obtain ⟨a, its, e, ⟨o, e1, e2, e3⟩, r⟩ := x
    exact ⟨a, its, e, ⟨o, k a o e1, e2, e3⟩, r⟩
  | _ => trivial
theorem ei_div (ha : EltD X scope x a fa) (hb : EltD X scope x b fb) : EltD X scope x (.BinOp a .FloorDiv b p) (fun ρ d => (fa ρ d).bind fun i => (fb ρ d).bind fun j => if divOk i j = true then some (i.fdiv j) else none) := by
  intro KK c H0 σ H G ρ r d z hz cenv A' E' s m v hsc hc hn hm hv
  obtain ⟨i, e1, hz⟩ := Option.bind_eq_some_iff.mp hz
  obtain ⟨j, e2, hz⟩ := Option.bind_eq_some_iff.mp hz
  split at hz
  case isFalse => cases hz
  rename_i ho
  cases hz
  unfold divOk at ho
  rw [Bool.and_eq_true, decide_eq_true_eq, decide_eq_true_eq] at ho
  refine wpAny_BinOp (wpAny_mono (ha KK c H0 σ H G ρ r d i e1 cenv A' E' s m v hsc hc hn hm hv) (fun u s1 hu => ?_) fun _ _ e => e)
  obtain ⟨⟨t, rfl⟩, h1, t1, rfl, k1⟩ := hu
  refine wpAny_mono (hb KK c H0 σ H G ρ r d j e2 cenv A' E' _ m v hsc (hc.keep k1) (hn.keeps k1) hm (hv.keeps k1)) (fun u s1 hu => ?_) fun _ _ e => e
  obtain ⟨⟨t2, rfl⟩, h2, t3, rfl, k2⟩ := hu
  exact floordiv_int ho.1 ⟨⟨_, rfl⟩, ⟨h2, _, rfl, fun b o e => k2 b o (k1 b o e)⟩⟩ (.inl (PyProof.noPylong_of_log2 ho.2))
theorem ei_ifc (ht : EltD X scope x e ft) (ha : EltD X scope x a fa) (hb : EltD X scope x b fb) (he : ∀ (cenv : Env) whole, isTrue e cenv whole = (do let v ← whole; standAt e.pos; holding [v] (truthy v)) := by intro _ _; rfl) :
    EltD X scope x (.IfExp e a b p) (fun ρ d => (ft ρ d).bind fun i => if i ≠ 0 then fa ρ d else fb ρ d) := by
  intro KK c H0 σ H G ρ r d z hz cenv A' E' s m v hsc hc hn hm hv
  obtain ⟨i, e1, hz⟩ := Option.bind_eq_some_iff.mp hz
  refine wpAny_IfExp (isTrue_plain (wpAny_mono (ht KK c H0 σ H G ρ r d i e1 cenv A' E' s m v hsc hc hn hm hv) (fun u s1 hu => ?_) fun _ _ e => e) (he _ _))
  obtain ⟨⟨t, rfl⟩, h1, t1, rfl, k1⟩ := hu
  refine PySem.P.truthy_int ?_
  by_cases h0 : i = 0
  · rw [if_neg (fun z => z h0)] at hz
    subst h0
    refine wpAny_mono (hb KK c H0 σ H G ρ r d z hz cenv A' E' _ m v hsc (hc.keep k1) (hn.keeps k1) hm (hv.keeps k1)) (fun u s1 hu => ?_) fun _ _ e => e
    obtain ⟨⟨t2, rfl⟩, h2, t3, rfl, k2⟩ := hu
    exact ⟨⟨_, rfl⟩, ⟨h2, _, rfl, fun b o e => k2 b o (k1 b o e)⟩⟩
  · rw [if_pos h0] at hz
    have hb' : (i != 0) = true := by simpa using h0
    rw [hb']
    refine wpAny_mono (ha KK c H0 σ H G ρ r d z hz cenv A' E' _ m v hsc (hc.keep k1) (hn.keeps k1) hm (hv.keeps k1)) (fun u s1 hu => ?_) fun _ _ e => e
    obtain ⟨⟨t2, rfl⟩, h2, t3, rfl, k2⟩ := hu
    exact ⟨⟨_, rfl⟩, ⟨h2, _, rfl, fun b o e => k2 b o (k1 b o e)⟩⟩
def pickZ (k : Nat) : PyData → Option Int
  | .tuple ds => (match ds[k]? with
    | some (.int z) => some z
    | _ => none)
  | _ => none
theorem ei_pick {k : Nat} {j : Nat} (hk : scope.kind = .function) (hl : scope.names.lookup x = some .local) (h63 : k < 1000) (hd : (x == ("__debug__" : Str)) = false := by decide) : EltD X scope x (.Subscript (.Name x p1) (.Constant (.int k) j p2) p) (fun _ d => pickZ k d) := by
  intro KK c H0 σ H G ρ r d z hz cenv A' E' s m v hsc hc hn hm hv
  cases d with
  | tuple ds =>
    have e : ds[k]? = some (.int z) := by
      have hz : pickZ k (.tuple ds) = some z := hz
      unfold pickZ at hz
      dsimp only at hz
      split at hz
      · rename_i e; cases hz; exact e
      · cases hz
    obtain ⟨a, its, rfl, ht, hlen, hz2⟩ := hv
    obtain ⟨t, ei⟩ := hz2 k z e
    refine Subscript_ (wpAny_Name (wpAny_loadName_local (by rw [hsc]; exact hk) (show cenv.scope.names.lookup x = some .local by rw [hsc]; exact hl) hn hm ?_) hd)
    refine wpAny_Constant_int ?_
    have hlt : k < its.length := (List.getElem?_eq_some_iff.mp ei).1
    refine subscriptTail_builtinR (s := { s with toks := s.toks + 1 }) (x := .int z t) (IsTup.typeIs ht) slot_tuple_getitem.lookup
      (getItem_tuple (j := k) (Q := fun r s' => r = .int z t ∧ ((∃ t, r = .int z t) ∧ Keeps s s')) ht (by omega) (by omega) ?_ (by simpa using ei) ⟨rfl, ⟨t, rfl⟩, GxR.keeps_tok _ _⟩) rfl
    rw [List.size_toArray]
    unfold seqIndex?
    have h1 : ¬ ((k : Int) < 0) := by omega
    simp [h1]
    omega
  | _ => cases hz
end
def mapO (f : PyData → Option Int) : List PyData → Option (List Int)
  | [] => some []
  | d :: r => (f d).bind fun z => (mapO f r).map fun zs => z :: zs
theorem mapO_get {f : PyData → Option Int} : ∀ {ds : List PyData} {zs : List Int}, mapO f ds = some zs → ds.length = zs.length ∧ ∀ (i : Nat) (d : PyData) (z : Int), ds[i]? = some d → zs[i]? = some z → f d = some z
  | [], zs, h => by cases h; exact ⟨rfl, fun i d z e => by simp at e⟩
  | d :: r, zs, h => by
    obtain ⟨z, e1, h⟩ := Option.bind_eq_some_iff.mp h
    obtain ⟨zs', e2, rfl⟩ := Option.map_eq_some_iff.mp h
    obtain ⟨h1, h2⟩ := mapO_get e2
    refine ⟨by simp [h1], fun i d' z' e3 e4 => ?_⟩
    cases i with
    | zero => cases e3; cases e4; exact e1
    | succ i => exact h2 i d' z' (by simpa using e3) (by simpa using e4)
def gTupZ (f : En → PyData → Option Int) (g : GE) : GE := fun ρ cu => (g ρ cu).bind fun d cu1 => match d with
  | .tuple ds => .ofO ((mapO (f ρ) ds).bind fun zs => if zs.length ≤ 16777216 then some (.tuple (zs.map .int)) else none) cu1
  | _ => .stuck
theorem pd_tupZ {K : Kx} {E : XK} {c P : Addr} {iter elt : Expr} {x : Str} {px p pos gpos : Pos} {scope : Scope} {te : TE} {ge : GE} {k : Nat} {f : En → PyData → Option Int}
    (hr : Room (k + 2) X.A) (hg : Gl X "tuple") (hm : X.mg "tuple" = none) (TB : LamX.TabB X.base X.mg c P) (hcode : X.env.code = .ref c) (S0 : gxB X.env.scope scope x = true) (hi : PD X K E iter te ge)
    (hmT : (P, X.env.qual ++ "<genexpr>") ∈ K.T) (hu : ∀ p ∈ K.T, p.1 = P → p.2 = X.env.qual ++ "<genexpr>") (hel : EltD X scope x elt f) (hs : ∀ v, genFold iter X.env v = pure v) (hKF : K.F = X.K := by assumption)
    (he : starEach [.GeneratorExp elt [⟨.Name x px, iter, [], 0⟩] scope gpos] X.env = (false, eval (.GeneratorExp elt [⟨.Name x px, iter, [], 0⟩] scope gpos) X.env) :: starEach [] X.env := by rfl) :
    PD X K E (.Call (.Name "tuple" p) [.GeneratorExp elt [⟨.Name x px, iter, [], 0⟩] scope gpos] [] pos) (tTupZ X K scope x elt K.T te) (gTupZ f ge) := by
  refine ⟨pe_tupZ hr hg hm TB hcode S0 hi.pe hmT hu hs hKF he, fun c0 H0 G0 σ H G ρ cu Q s q => ?_⟩
  refine hi.sem c0 H0 G0 σ H G ρ cu _ s (q.bind.imp fun d H1 G1 cu1 x1 w1 q1 v rv => ?_)
  split at q1
  · rename_i ds
    obtain ⟨a, xs, rfl, e1, r1⟩ := rv.tup_of
    obtain ⟨z, ez, q2⟩ := q1.ofO
    obtain ⟨zs, em, ez⟩ := Option.bind_eq_some_iff.mp ez
    split at ez
    case isFalse => cases ez
    rename_i hle
    cases ez
    obtain ⟨m1, m2⟩ := mapO_get em
    refine ⟨a, xs, ds, zs, rfl, TupAt.sq' hKF (e1.mono w1.sub), r1.mono w1.sub, w1.tab, ⟨m1, fun i d z e2 e3 => hel K c0 H0 σ H G ρ s.rep d z (m2 i d z e2 e3)⟩, hle, fun H2 k2 T2 l hl => ?_⟩
    have x2 : Ext c0 H1 G1 H2 G1 := ⟨fun b o e n _ => k2 b o e n, fun b o e n => ⟨o, k2 b o e n, n⟩, fun _ _ e => e, fun _ _ _ _ e => e⟩
    have w2 : Wd K c0 H2 G1 cu1 := by
      refine ⟨fun b o e => k2 b o (w1.sub _ _ e) fun ps z => w1.nt b ps (by rw [← z]; exact e), T2, w1.nt, fun a ha => ?_⟩
      obtain ⟨h1, h2⟩ := w1.cup a ha
      exact ⟨k2 _ _ h1 nt_lst, h2⟩
    have rz : RpL K G1 (zs.map V.int) (zs.map PyData.int) := rpl_ints zs
    exact new_tup (Q := Q) w2 rz (fun v' H' G' x w r => q2 H' G' (x2.trans x) w v' r) hl
  · exact q1.elim
end
end DL

set_option Elab.async false
set_option linter.all false
set_option maxRecDepth 100000
set_option maxHeartbeats 2000000
set_option autoImplicit false
/-! a in range(..), tuples repeated -/
namespace DL
open PySem PySem.Spec PyProof.Rows L2
section
variable {X : Cx} {K : Kx} {E : XK} {a : Expr} {ta : TE} {ga : GE} {pos : Pos}
theorem Post.ofB {c : Option Addr} {H G : Hp} {α β : Type} {o : Option α} {f : α → Option β} {cu : Cu} {Q : β → Hp → Hp → Cu → Prop} (h : Post K E c H G (Rs.ofO (o.bind f) cu) Q) : ∃ a b, o = some a ∧ f a = some b ∧ ∀ H' G', Ext c H G H' G' → Wd K c H' G' cu → Q b H' G' cu := by
  obtain ⟨b, e, q⟩ := h.ofO
  obtain ⟨x, e1, e2⟩ := Option.bind_eq_some_iff.mp e
  exact ⟨x, b, e1, e2, q⟩
def dInR : PyData → List PyData → Option PyData
  | .int i, [.int lo, .int hi] => some (.bool (decide (lo ≤ i ∧ i < hi)))
  | _, _ => none
def gInR (ga : GE) (g : GA) : GE := fun ρ cu => (ga ρ cu).bind fun d cu1 => (g ρ cu1).bind fun as cu2 => .ofO ((dats as).bind fun ds => dInR d ds) cu2
abbrev rInR : R2 := fun x y H Q => ∃ i a lo hi, x = V.int i ∧ y = V.ref a ∧ H a = some (.rng lo hi) ∧ Q (.bl (decide (lo ≤ i ∧ i < hi))) H
abbrev rRg2 : List V → Hp → VK → Prop := fun vs H Q => ∃ i j, vs = [V.int i, V.int j] ∧ ∀ p, H p = none → Q (.ref p) (upd H p (.rng i j))
theorem sem_inR {t : TA} {g : GA} (ha : SemE K E ta ga) (hb : SemA K E t g) : SemE K E (tOp rInR ta (tCB rRg2 t)) (gInR ga g) := by
  intro c H0 G0 σ H G ρ cu Q s q
  refine ha c H0 G0 σ H G ρ cu _ s (q.bind.imp fun d H1 G1 cu1 x1 w1 q1 v rv => ?_)
  have s1 := s.go x1 w1
  refine hb c H0 G0 σ H1 G1 ρ cu1 _ s1 (q1.bind.imp fun as H2 G2 cu2 x2 w2 q2 vs rvs => ?_)
  obtain ⟨ds, z, e1, e2, q3⟩ := q2.ofB
  have rr := dats_rp rvs e1
  unfold dInR at e2
  split at e2
  · rename_i i lo hi
    cases e2
    obtain ⟨v1, v2, rfl, r1, r2⟩ := rr.two
    refine ⟨lo, hi, by rw [r1.int_of, r2.int_of], fun p hp => ?_⟩
    have hp2 : H2 p = none := hp
    obtain ⟨x3, w3, _⟩ := w2.newH (o := .rng lo hi) hp2
    exact ⟨i, p, lo, hi, rv.int_of, rfl, upd_same, q3 _ _ x3 w3 _ (.bl _)⟩
  · cases e2
section
variable {b d : Expr} {p : Pos} {pos2 : Pos} {t : TA} {g : GA}
theorem pd_inR (ha : PD X K E a ta ga) (hg : Gl X "range") (hm : X.mg "range" = none) (hb : PAD X K E [b, d] t g) (hmk : behindInMarks .In (.Call (.Name "range" p) [b, d] [] pos2) = false := by rfl)
    (he : starEach [b, d] X.env = (false, eval b X.env) :: starEach [d] X.env := by rfl) (hpl : (backTo pos2 (starEach [d] X.env)).any (·.1) = false := by rfl) :
    PD X K E (.Compare a [.In] [.Call (.Name "range" p) [b, d] [] pos2] pos) (tOp rInR ta (tCB rRg2 t)) (gInR ga g) :=
  ⟨pe_cmpR op_in_rng ha.pe (pe_callTy cr_range2 hg hm (show bootBuiltins "range" = some (.type "range") from by decide +kernel) hb.pa (by decide) (by decide) he hpl) hmk, sem_inR ha.sem hb.sem⟩
theorem ptd_inR (ha : PD X K E a ta ga) (hg : Gl X "range") (hm : X.mg "range" = none) (hb : PAD X K E [b, d] t g) (hmk : behindInMarks .In (.Call (.Name "range" p) [b, d] [] pos2) = false := by rfl)
    (he : starEach [b, d] X.env = (false, eval b X.env) :: starEach [d] X.env := by rfl) (hpl : (backTo pos2 (starEach [d] X.env)).any (·.1) = false := by rfl) :
    PTD X K E (.Compare a [.In] [.Call (.Name "range" p) [b, d] [] pos2] pos) (tTest (tOp rInR ta (tCB rRg2 t))) (gBool (gInR ga g)) :=
  ⟨pt_cmpR op_in_rng ha.pe (pe_callTy cr_range2 hg hm (show bootBuiltins "range" = some (.type "range") from by decide +kernel) hb.pa (by decide) (by decide) he hpl) hmk, sem_test (sem_inR ha.sem hb.sem)⟩
end
/-! tuples repeated -/
def dMulT : PyData → PyData → Option PyData
  | .tuple xs, .int k => if 2 ≤ k ∧ k ≤ 1000 ∧ xs.length ≤ 1000 ∧ xs ≠ [] then some (.tuple (List.replicate k.toNat xs).flatten) else none
  | d, e => dMul d e
theorem op_mulDT : OpR X (binaryOp .Mult) (fun x y H Q => rMulD x y H Q ∨ rRepT X.K x y H Q) := OpR.or op_mulD op_repT
theorem opD_mulT (hKF : K.F = X.K := by assumption) : OpD K (fun x y H Q => rMulD x y H Q ∨ rRepT X.K x y H Q) dMulT := by
  intro c H G cu v w d e z Q wd r1 r2 hz q
  unfold dMulT at hz
  split at hz
  · split at hz
    · rename_i xs k hc
      cases hz
      obtain ⟨a, vs, rfl, ha, ra⟩ := r1.tup_of
      have hl := ra.length
      refine .inr ⟨a, k, vs, rfl, r2.int_of, TupAt.sq' hKF (TupAt.mono wd.sub ha), fun z => hc.2.2.2 ?_, hc.1, hc.2.1, by omega, fun p hp => new_tup wd (ra.rep _) q hp⟩
      rw [z] at hl
      exact List.eq_nil_of_length_eq_zero (by rw [← hl]; rfl)
    · cases hz
  · exact .inl (opD_mul c H G cu v w d e z Q wd r1 r2 hz q)
theorem dMulT_int {i j : Int} (h : mulOk i j = true) : dMulT (.int i) (.int j) = some (.int (i * j)) := if_pos h
end
end DL

set_option Elab.async false
set_option linter.all false
set_option maxRecDepth 100000
set_option maxHeartbeats 2000000
set_option autoImplicit false
set_option exponentiation.threshold 4000
/-! reckoning: tuples and lists of numbers -/
namespace DL
open PySem PySem.Spec L2
abbrev tupI (zs : List Int) : PyData := .tuple (zs.map .int)
abbrev lstI (zs : List Int) : PyData := .list (zs.map .int)
section
variable {i j lo hi : Int} {xs ys ds : List PyData} {zs ws : List Int} {n : Nat} {cu : Cu} {ρ : En}
theorem dMax2_int : dMax2 [.int i, .int j] = some (.int (if j > i then j else i)) := rfl
theorem dInR_int : dInR (.int i) [.int lo, .int hi] = some (.bool (decide (lo ≤ i ∧ i < hi))) := rfl
theorem cutD_take (h : n ≤ xs.length) : cutD xs none (some (n : Int)) = xs.take n := by
  unfold cutD
  rw [HT.sIx_none, HT.sIx_nat, List.drop_zero, Nat.min_eq_left h, Nat.sub_zero]
theorem cutD_drop (h : n ≤ xs.length) : cutD xs (some (n : Int)) none = xs.drop n := by
  unfold cutD
  rw [HT.sIx_nat, HT.sIx_none, Nat.min_eq_left h, ← List.length_drop, List.take_length]
theorem cutI_take (h0 : 0 ≤ i) (h : i ≤ zs.length) : cutD (zs.map .int) none (some i) = (zs.take i.toNat).map .int := by
  have := cutD_take (xs := zs.map PyData.int) (n := i.toNat) (by rw [List.length_map]; omega)
  rw [Int.toNat_of_nonneg h0] at this
  rw [this, List.map_take]
theorem cutI_drop (h0 : 0 ≤ i) (h : i ≤ zs.length) : cutD (zs.map .int) (some i) none = (zs.drop i.toNat).map .int := by
  have := cutD_drop (xs := zs.map PyData.int) (n := i.toNat) (by rw [List.length_map]; omega)
  rw [Int.toNat_of_nonneg h0] at this
  rw [this, List.map_drop]
theorem intsD_map : intsD (zs.map .int) = some zs := by
  induction zs with
  | nil => rfl
  | cons z r ih => rw [List.map_cons, intsD, ih]; rfl
theorem dSum_ints : dSum [lstI zs] = some (.int zs.sum) := by
  show (intsD (zs.map .int)).map _ = _
  rw [intsD_map]; rfl
theorem dMaxL_of {m : Int} (h1 : m ∈ zs) (h2 : ∀ z ∈ zs, z ≤ m) : dMaxL [lstI zs] = some (.int m) := by
  show (intsD (zs.map .int)).bind _ = _
  rw [intsD_map]
  show (zs.max?.map PyData.int) = _
  rw [List.max?_eq_some_iff.mpr ⟨h1, h2⟩]; rfl
theorem dMinL_of {m : Int} (h1 : m ∈ zs) (h2 : ∀ z ∈ zs, m ≤ z) : dMinL [lstI zs] = some (.int m) := by
  show (intsD (zs.map .int)).bind _ = _
  rw [intsD_map]
  show (zs.min?.map PyData.int) = _
  rw [List.min?_eq_some_iff.mpr ⟨h1, h2⟩]; rfl
theorem all_ints : (zs.map PyData.int).all isIntD = true := by
  rw [List.all_eq_true]
  intro d hd
  obtain ⟨z, _, rfl⟩ := List.mem_map.mp hd
  rfl
theorem blsD_map {bs : List Bool} : blsD (bs.map .bool) = some bs := by
  induction bs with
  | nil => rfl
  | cons z r ih => rw [List.map_cons, blsD, ih]; rfl
theorem dAllL_bls {bs : List Bool} : dAllL [.list (bs.map .bool)] = some (.bool (bs.all id)) := by
  show (blsD (bs.map .bool)).map _ = _
  rw [blsD_map]; rfl
theorem zipI : zipD (zs.map .int) (ws.map .int) = (List.zip zs ws).map fun p => .tuple [.int p.1, .int p.2] := by
  unfold zipD
  induction zs generalizing ws with
  | nil => rfl
  | cons z r ih =>
    cases ws with
    | nil => rfl
    | cons w s => simp only [List.map_cons, List.zipWith_cons_cons, List.zip_cons_cons, ih]
theorem dZip_ints : dZip [tupI zs, tupI ws] = some ((List.zip zs ws).map fun p => .tuple [.int p.1, .int p.2]) := by
  show some (zipD _ _) = _
  rw [zipI]
theorem dLen_tupI : dLen [tupI zs] = some (.int zs.length) := by
  show some (PyData.int ((zs.map PyData.int).length : Int)) = _
  rw [List.length_map]
theorem atI_map {n : Nat} {z : Int} (h : zs[n]? = some z) : atI (zs.map PyData.int) (n : Int) = some (.int z) := atI_nat (by rw [List.getElem?_map, h]; rfl)
/-- a comprehension whose element is a number -/
theorem gLcL_map {gg : GG} {ge : GE} (f : PyData → PyData) (h : ∀ d ∈ ds, ∃ ρ1, gg d ρ = some ρ1 ∧ ge ρ1 cu = .ok (f d) cu) : gLcL gg gYes ge ds ρ cu = .ok (ds.map f) cu := by
  have z := gLcL_pure (gg := gg) (gt := gYes) (ge := ge) (cu := cu) (ρ := ρ) (fun _ => true) f (ds := ds) fun d hd => by
    obtain ⟨ρ1, h1, h2⟩ := h d hd
    exact ⟨ρ1, h1, rfl, fun _ => h2⟩
  rw [z, List.filter_eq_self.mpr fun _ _ => rfl]
theorem eqL_nil' : dNe (.list []) (.list []) = some (.bool false) := rfl
theorem eqL_nil2 : dEq (.list []) (.list []) = some (.bool true) := rfl
theorem lay_ints : ∀ {ds : List PyData}, (∀ d ∈ ds, ∃ i, d = .int i) → PyData.canLayAll0 ds = true ∧ PyData.depthAll ds = 0
  | [], _ => by simp [PyData.canLayAll0, PyData.depthAll]
  | d :: r, h => by
    obtain ⟨i, rfl⟩ := h d (List.mem_cons_self ..)
    have := lay_ints (ds := r) fun d hd => h d (List.mem_cons_of_mem _ hd)
    simp [PyData.canLayAll0, PyData.depthAll, PyData.canLay0, PyData.depth, this]
theorem shaped_lst (h : ∀ d ∈ ds, ∃ i, d = .int i) : SeqAt.shaped (.list ds) = true := by
  obtain ⟨h1, h2⟩ := lay_ints h
  cases ds with
  | nil => simp [SeqAt.shaped, PyData.canLay0, PyData.canLayAll0, PyData.depth, PyData.depthAll]
  | cons d r =>
    unfold SeqAt.shaped
    rw [show (PyData.list (d :: r)).canLay0 = PyData.canLayAll0 (d :: r) from by simp only [PyData.canLay0], h1, show (PyData.list (d :: r)).depth = PyData.depthAll (d :: r) + 1 from by simp only [PyData.depth], h2]
    rfl
theorem dNe_nil {ds : List PyData} (h : ∀ d ∈ ds, ∃ i, d = .int i) : dNe (.list ds) (.list []) = some (.bool (!ds.isEmpty)) := by
  have s1 := shaped_lst h
  have s2 : SeqAt.shaped (.list []) = true := shaped_lst (ds := []) fun d hd => nomatch hd
  cases ds with
  | nil => rfl
  | cons d r => simp [dNe, eqD, s1, s2, PyData.eqv, PyData.eqvAll]
theorem dEq_nil {ds : List PyData} (h : ∀ d ∈ ds, ∃ i, d = .int i) : dEq (.list ds) (.list []) = some (.bool ds.isEmpty) := by
  have s1 := shaped_lst h
  have s2 : SeqAt.shaped (.list []) = true := shaped_lst (ds := []) fun d hd => nomatch hd
  cases ds with
  | nil => rfl
  | cons d r => simp [dEq, eqD, s1, s2, PyData.eqv, PyData.eqvAll]
theorem rng_mem {lo : Int} {n : Nat} {d : PyData} : d ∈ rngD lo n ↔ ∃ i : Nat, i < n ∧ d = .int (lo + (i : Int)) := by
  unfold rngD
  rw [List.mem_map]
  constructor
  · rintro ⟨i, hi, rfl⟩; exact ⟨i, List.mem_range.mp hi, rfl⟩
  · rintro ⟨i, hi, rfl⟩; exact ⟨i, List.mem_range.mpr hi, rfl⟩
theorem rng_len {lo : Int} {n : Nat} : (rngD lo n).length = n := by unfold rngD; rw [List.length_map, List.length_range]
end
theorem up {x : Int} {n m : Nat} (h : x.natAbs < 2 ^ n) (hm : n ≤ m := by decide) : x.natAbs < 2 ^ m := Nat.lt_of_lt_of_le h (Nat.pow_le_pow_right (by decide) hm)
theorem le_mul1 {a b : Int} (ha : 1 ≤ a) (hb : 0 ≤ b) : b ≤ a * b := by
  have := Int.mul_le_mul_of_nonneg_right ha hb
  omega
theorem pos_l {a b : Int} (h : 0 < a * b) (hb : 0 ≤ b) : 1 ≤ a := by
  have hb' : 0 < b := by
    rcases Int.lt_or_eq_of_le hb with h1 | h1
    · exact h1
    · rw [← h1, Int.mul_zero] at h; omega
  have := Int.pos_of_mul_pos_left h hb'
  omega
end DL

set_option Elab.async false
set_option linter.all false
set_option maxRecDepth 100000
set_option maxHeartbeats 2000000
set_option autoImplicit false
/-! enumerate of a tuple; min, max of a tuple; is None -/
namespace DL
open PySem PySem.Spec PyProof.Rows L2
open AutoSeq1 (wpAny_loadPart')
theorem meets_enumerate_newT (l : Addr) (items : Array Value) (n : Nat) (dct : Option Addr) (sl : Array (Option Value)) :
    Meets (Builtin.«enumerate.__new__» ⟨[.type "enumerate", .ref l], []⟩) (fun _ R s => s.heap.get? l = some { cls := .type "tuple", dict := dct, data := .seq items n, slots := sl } ∧
      R (.ok (.ret (.ref (s.heap.push { cls := .type "tuple_iterator", data := .fields #[.ref l, .int 0 0] }).objs.size)))
        { s with heap := (s.heap.push { cls := .type "tuple_iterator", data := .fields #[.ref l, .int 0 0] }).push { cls := .type "enumerate", data := .fields #[.none, .bool false, .ref s.heap.objs.size, rawInt 0, .none, .none] } }) :=
  .of_wp fun prog w A R s h => by
    obtain ⟨hp, g, d, tk, os⟩ := s; obtain ⟨hl, h⟩ := h
    have hsub := sub_enumerate
    have hL : Heap.IsTuple (Shared.heap ⟨hp, g, d, tk, os⟩) l items := ⟨_, hl, rfl, n, rfl⟩
    wp_walk using wpAny_loadPart' hl
    refine wpAny_stack_any fun st => wpAny_pure ?_
    split
    · rename_i c _ _ _ _ _
      cases (c == Value.type "enumerate")
      · wp_walk using wpAny_loadPart' hl, wpAny_pyIter_tuple hL
        exact ⟨_, rfl, h⟩
      · wp_walk using wpAny_loadPart' hl, wpAny_pyIter_tuple hL
        exact ⟨_, rfl, h⟩
    · wp_walk using wpAny_loadPart' hl, wpAny_pyIter_tuple hL
      exact ⟨_, rfl, h⟩
section
variable {prog : Program} {w : World} {A : Around} {E : Value → Shared → Prop} {s : Shared}
theorem call_enumerate_tuple {l : Addr} {items : Array Value} {Q : Value → Shared → Prop} (hL : s.heap.IsTuple l items)
    (h : ∀ h', IsEnum h' (s.heap.objs.size + 1) s.heap.objs.size 0 .none → h'.IsTupleIter s.heap.objs.size l 0 → h'.objs.size = s.heap.objs.size + 2 →
      (∀ b o, s.heap.get? b = some o → h'.get? b = some o) → Q (.ref (s.heap.objs.size + 1)) { s with heap := h' }) :
    wpAny (model prog w) A (call (.type "enumerate") [.ref l]) Q E s := by
  obtain ⟨⟨c, dct, dt, sl⟩, hl, hc, n, hd⟩ := hL
  replace hc : c = .type "tuple" := hc
  replace hd : dt = .seq items n := hd
  subst hc hd
  refine callType_new F.called_enumerate (by decide) (F.typeCall_enumerate_1 _) (F.newCall_enumerate_1 _) (fun obj => F.args_object_init_2 obj _) F.entry_enumerate_new
    (meets_enumerate_newT l items n dct sl) ⟨hl, ?_⟩
  have hz : (s.heap.push { cls := .type "tuple_iterator", data := .fields #[.ref l, .int 0 0] }).objs.size = s.heap.objs.size + 1 := Heap.size_push ..
  show _ ∧ _
  rw [hz]
  have he : IsEnum ((s.heap.push { cls := .type "tuple_iterator", data := .fields #[.ref l, .int 0 0] }).push
      { cls := .type "enumerate", data := .fields #[.none, .bool false, .ref s.heap.objs.size, rawInt 0, .none, .none] }) (s.heap.objs.size + 1) s.heap.objs.size 0 .none := by
    have := Heap.get?_push_size (s.heap.push { cls := .type "tuple_iterator", data := .fields #[.ref l, .int 0 0] })
      (o := { cls := .type "enumerate", data := .fields #[.none, .bool false, .ref s.heap.objs.size, rawInt 0, .none, .none] }) rfl
    rw [hz] at this; exact this
  refine ⟨⟨_, he, rfl⟩, h _ he ⟨_, Heap.get?_push_of_some _ (Heap.get?_push_size _ rfl), rfl, rfl⟩ (by rw [Heap.size_push, hz]) fun b o x => Heap.get?_push_of_some _ (Heap.get?_push_of_some _ x)⟩
end
/-- the tuple at a, each item in a new pair with its place -/
def IteT (K : PySem.W.Frag) (a : Addr) : It :=
  ⟨fun i H => ∃ (xs : List V) (x : V), SqT K H a xs ∧ xs[i]? = some x, fun i H v H' => ∃ T x, v = .ref T ∧ H T = none ∧ H' = upd H T (.tup [.int (i : Nat), x]) ∧ ∀ xs, SqT K H a xs → xs[i]? = some x, fun i H => ∃ xs : List V, SqT K H a xs ∧ xs.length ≤ i⟩
section
variable {prog : Program} {w : World} {A : Around} {E : Value → Shared → Prop} {s : Shared}
theorem next_enumT_end {e it l : Addr} {i : Nat} {items : Array Value} {old : Value} {Q : Option Value → Shared → Prop} (hh : A.handled = none)
    (he : IsEnum s.heap e it i old) (hit : s.heap.IsTupleIter it l i) (hl : s.heap.IsTuple l items) (hx : items[i]? = none)
    (hQ : ∀ h', Heap.ExtBut it s.heap h' → Q none { s with heap := h' }) : wpAny (model prog w) A (pyNext (.ref e)) Q E s := by
  have hT : s.TypeIs (.ref e) "enumerate" := ⟨_, he, rfl⟩
  unfold pyNext
  refine wpAny_bind (wpAny_attempt (wpAny_callSpecial?_slot (name := Str.ofString "__next__") hT F.slot_enumerate_next
    (wpAny_call_entry F.slot_enumerate_next hT F.entry_enumerate_next ?_ (F.args_enumerate_next_1 _))))
  show wpAny _ _ (field (.ref e) 2 >>= _) _ _ _
  refine wpAny_bind (wpAny_field he rfl (x := .ref it) rfl ?_)
  refine wpAny_bind (wpAny_nextOf_tuple_end hh hit hl hx fun h' x he' hx' => ?_)
  obtain ⟨o, ho, hc⟩ := hx'
  refine wpAny_bind (wpAny_isInstance (T := "StopIteration") (b := true) ⟨o, ho, hc⟩ isSubtype_stop ?_)
  exact wpAny_pure (hQ _ he')
end
theorem turn_enumT {P : Program} {w : World} {K : PySem.W.Frag} {elts : List Expr} {kk : Nat} {tpos : Pos} (a e it : Addr) :
    Turn P w K (.Tuple elts kk tpos) (IteT K a) [e, it] e (fun i h => (∃ old, IsEnum h e it ((i : Nat) : Int) old) ∧ h.IsTupleIter it a i ∧ e ≠ it) where
  mem := by simp
  obj := fun i h st b hb => by
    obtain ⟨⟨old, he⟩, ⟨o, ho, hc, hd⟩, _⟩ := st
    have e' : b = e ∨ b = it := by simpa using hb
    rcases e' with z | z
    · rw [z]; exact ⟨_, he, fun v q => nomatch q⟩
    · rw [z]; exact ⟨o, ho, fun v q => by rw [hd] at q; cases q⟩
  keep := fun i h h' st k => let ⟨⟨old, he⟩, hi, hne⟩ := st; ⟨⟨old, k e (by simp) _ he⟩, hi.at fun o q => k it (by simp) o q, hne⟩
  item := by
    intro X hP hw hK hc i pins s σ H E I hf st hg
    subst hP hw hK
    obtain ⟨⟨old, he⟩, hit, hne⟩ := st
    obtain ⟨xs, x, hq, hx⟩ := hg
    obtain ⟨its, rv, p, hz⟩ := I.tuple hq
    obtain ⟨u, hu, ru⟩ := rv.get hx
    have hel : e < s.heap.objs.size := Heap.lt_size he
    have hil : it < s.heap.objs.size := by obtain ⟨_, q, _⟩ := hit; exact Heap.lt_size q
    have hai : a ≠ it := fun z => by
      obtain ⟨o1, q1, c1, _⟩ := hit
      obtain ⟨o2, q2, c2, _⟩ := p
      rw [z, q1] at q2; cases q2; rw [c1] at c2; exact absurd c2 (by decide)
    have hae : e ≠ a := fun z => by
      obtain ⟨o2, q2, c2, _⟩ := p
      rw [← z, he] at q2; cases q2; exact absurd (show Value.type "enumerate" = Value.type "tuple" from c2) (by decide)
    have hef : e ∉ [it, a] := fun hm => by
      rcases List.mem_cons.mp hm with z | z
      · exact hne z
      · exact hae (List.mem_singleton.mp z)
    have hii : i < its.toArray.size := by
      have := (List.getElem?_eq_some_iff.mp hu).1
      rw [List.size_toArray]; exact this
    refine wpAny_pyNext_enum_itemD (Draws.tuple (A := X.A.in1) (I.ok.hd hc) it a hai its.toArray) he ⟨hit, p⟩ hii hne hef fun u' h' tk hPx ho hst' hT hsz hk => ?_
    have eu : u' = u := by
      have hPx : its.toArray[i]? = some u' := hPx
      rw [List.getElem?_toArray, hu] at hPx
      exact (Option.some.inj hPx).symm
    subst eu
    have hit' := hst'.1
    refine ⟨_, rfl, wpAny_letOwnedTupleGo_enum (s := { s with heap := h', toks := tk + 1 }) ho fun h'' he' sb => ?_⟩
    have hT2 : h''.get? s.heap.objs.size = some { cls := .type "tuple", data := .seq #[.int i tk, u'] } := (sb.2 _ (Nat.ne_of_gt hel)).trans hT
    have new : ObjOk X.prog X.w (upd H s.heap.objs.size (.tup [.int (i : Nat), x])) h'' s.heap.objs.size (.tup [.int (i : Nat), x]) :=
      ⟨by show 2 ≤ sizeLine; decide, [.int i tk, u'], .cons ⟨_, rfl⟩ (.cons ru .nil), ⟨_, hT2, rfl, _, rfl⟩⟩
    have I1 : Inv X pins σ (upd H s.heap.objs.size (.tup [.int (i : Nat), x])) { s with heap := h'', toks := tk + 1 } :=
      I.turnedNew (ch := [e, it]) (fun b ob hb q => (sb.2 b (fun z => hb (by simp [z]))).trans (hk b ob (fun z => hb (by simp [z])) (fun z => hb (by simp [z])) q)) hf (Nat.le_refl _) new
    refine ⟨.ref s.heap.objs.size, _, I1, rfl, ⟨_, x, rfl, I.hok.fresh (Nat.le_refl _), rfl, fun ys hy => by rw [I.tuple_inj hy hq]; exact hx⟩, ⟨⟨u', ?_⟩, hit'.at fun o q => (sb.2 it (Ne.symm hne)).trans q, hne⟩, fun b hb => ?_⟩
    · have e1 : ((i + 1 : Nat) : Int) = (i : Int) + 1 := by omega
      rw [e1]; exact he'
    · have hb' : b < s.heap.objs.size := by
        have e' : b = e ∨ b = it := by simpa using hb
        rcases e' with z | z
        · rw [z]; exact hel
        · rw [z]; exact hil
      rw [upd_ne (Nat.ne_of_lt hb')]
      exact (hf b hb).1
  done := by
    intro X hP hw hK hc i pins s σ H E I hf st hg
    subst hP hw hK
    obtain ⟨⟨old, he⟩, hit, hne⟩ := st
    obtain ⟨xs, hq, hx⟩ := hg
    obtain ⟨its, rv, p, hz⟩ := I.tuple hq
    obtain ⟨f0, f1, f2, f3, f4, f5⟩ := hf it (by simp)
    have hl := rv.length
    exact next_enumT_end (I.ok.hd hc) he hit p (by simp; omega) fun h' eb => ⟨rfl, I.turned (t' := s.toks) (fun b o hb q => eb b o hb q) f0 f1 f3 f4 f5⟩
  self := fun A i s Q E st h => let ⟨⟨_, he⟩, _⟩ := st; wpAny_pyIter_enum he h
def iEnumT (K : PySem.W.Frag) (ta : TA) : TI := fun σ H R => ta σ H fun vs H1 => ∃ a xs, vs = [.ref a] ∧ SqT K H1 a xs ∧ R (IteT K a) H1
theorem pi_enumT {X : Cx} {e : Expr} {ta : TA} {p pos tpos : Pos} {elts : List Expr} {kk : Nat} (hg : Gl X "enumerate") (hm : X.mg "enumerate" = none) (ha : PA X [e] ta) (hs : starEach [e] X.env = [(false, eval e X.env)] := by rfl) :
    PI X (.Tuple elts kk tpos) (.Call (.Name "enumerate" p) [e] [] pos) (iEnumT X.K ta) := by
  refine ⟨fun pins s σ H R I h => ?_⟩
  refine Call_ (ld_blt I hg hm boot_enumerate (PyProof.Rows.callWith_type1 (thn (ha.run pos pins s σ H _ I h) fun us s1 ⟨vs, H1, I1, r1, q1⟩ => ?_) hs rfl))
  obtain ⟨a, xs, ex, hq, q⟩ := q1
  subst ex
  cases r1 with
  | cons r rr =>
    cases rr
    cases r
    obtain ⟨its, rv, p', hz⟩ := I1.tuple hq
    refine call_enumerate_tuple p' fun h' he hit hsz hk => wpAny_pyIter_enum he ?_
    have I2 : Inv X pins σ H1 { s1 with heap := h' } := I1.kept (t' := s1.toks) hk
    refine ⟨s1.heap.objs.size + 1, [s1.heap.objs.size + 1, s1.heap.objs.size], _, _, H1, rfl, I2, turn_enumT a (s1.heap.objs.size + 1) s1.heap.objs.size, ⟨⟨.none, he⟩, hit, Nat.succ_ne_self _⟩, fun b hb => ?_, q⟩
    have e' : b = s1.heap.objs.size + 1 ∨ b = s1.heap.objs.size := by simpa using hb
    have hle : s1.heap.objs.size ≤ b := by
      rcases e' with z | z
      · rw [z]; exact Nat.le_add_right _ _
      · rw [z]; exact Nat.le_refl _
    exact I1.fpOk hle (I1.hok.fresh hle)
/-! on the data -/
def enumF : Nat → List PyData → List PyData
  | _, [] => []
  | i, d :: r => .tuple [.int (i : Int), d] :: enumF (i + 1) r
theorem enumF_len : ∀ {i : Nat} {ds : List PyData}, (enumF i ds).length = ds.length
  | _, [] => rfl
  | i, d :: r => by rw [enumF, List.length_cons, List.length_cons, enumF_len]
theorem enumF_get : ∀ {i j : Nat} {ds : List PyData} {z : PyData}, (enumF i ds)[j]? = some z → ∃ d, ds[j]? = some d ∧ z = .tuple [.int ((i + j : Nat) : Int), d]
  | _, _, [], _, h => by simp [enumF] at h
  | i, 0, d :: r, z, h => by
    rw [enumF, List.getElem?_cons_zero] at h
    exact ⟨d, rfl, (Option.some.inj h).symm⟩
  | i, j + 1, d :: r, z, h => by
    rw [enumF, List.getElem?_cons_succ] at h
    obtain ⟨d', h1, h2⟩ := enumF_get h
    refine ⟨d', by rw [List.getElem?_cons_succ]; exact h1, ?_⟩
    rw [h2]
    have : i + 1 + j = i + (j + 1) := by omega
    rw [this]
def dEnum : List PyData → Option (List PyData)
  | [.tuple ds] => some (enumF 0 ds)
  | _ => none
section
variable {X : Cx} {K : Kx} {E : XK} {a : Expr} {ta : TA} {ga : GA} {pos : Pos}
theorem wk_enumT {F : PySem.W.Frag} (hKF : K.F = F) {G1 : Hp} {a : Addr} {xs : List V} {ds : List PyData} (h : TupAt K.F G1 a xs) (r : RpL K G1 xs ds) : Wk K (IteT F a) G1 (enumF 0 ds) := by
  intro c H G cu k w
  have hH : SqT F H a xs := TupAt.sq' hKF ((h.mono k).mono w.sub)
  refine ⟨fun i d e => ?_, ⟨xs, hH, by rw [enumF_len]; exact Nat.le_of_eq r.length⟩⟩
  obtain ⟨d', e1, rfl⟩ := enumF_get e
  rw [Nat.zero_add]
  obtain ⟨v, e2, rv⟩ := r.get e1
  refine ⟨⟨xs, v, hH, e2⟩, fun x H' y => ?_⟩
  obtain ⟨T, x', rfl, hT, rfl, hx⟩ := y
  have ev : v = x' := Option.some.inj (e2.symm.trans (hx xs hH))
  subst ev
  obtain ⟨x1, w1⟩ := w.new (o := .tup [.int (i : Int), v]) hT
  exact ⟨_, x1, w1, .tup upd_same ((RpL.cons (.int _) (.cons (rv.mono k) .nil)).upd (w.gp hT))⟩
theorem pid_enumT {elts : List Expr} {kk : Nat} {tpos p : Pos} (hg : Gl X "enumerate") (hm : X.mg "enumerate" = none) (ha : PAD X K E [a] ta ga) (hs : starEach [a] X.env = [(false, eval a X.env)] := by rfl) (hKF : K.F = X.K := by assumption) :
    PID X K E (.Tuple elts kk tpos) (.Call (.Name "enumerate" p) [a] [] pos) (iEnumT X.K ta) (giArg dEnum ga) := by
  refine ⟨pi_enumT hg hm ha.pa hs, fun c H0 G0 σ H G ρ cu R s q => ?_⟩
  refine ha.sem c H0 G0 σ H G ρ cu _ s (q.bind.imp fun as H1 G1 cu1 x1 w1 q1 vs rvs => ?_)
  obtain ⟨z, e1, q2⟩ := q1.ofO
  obtain ⟨ds, e2, e3⟩ := Option.bind_eq_some_iff.mp e1
  have rr := dats_rp rvs e2
  unfold dEnum at e3
  split at e3
  · rename_i ds'
    cases e3
    obtain ⟨v, rfl, rv⟩ := rr.one
    obtain ⟨b, xs, rfl, hb, rb⟩ := rv.tup_of
    exact ⟨b, xs, rfl, TupAt.sq' hKF (TupAt.mono w1.sub hb), q2 H1 G1 Ext.refl w1 _ (wk_enumT hKF hb rb)⟩
  · cases e3
end
/-! is None -/
section
variable {K : Kx}
def isNoneD : PyData → Bool
  | .none => true
  | _ => false
def dIsN : PyData → PyData → Option PyData
  | d, .none => some (.bool (isNoneD d))
  | _, _ => none
def dNotN : PyData → PyData → Option PyData
  | d, .none => some (.bool (!isNoneD d))
  | _, _ => none
theorem isNoneD_rp {G : Hp} {v : V} {d : PyData} (r : Rp K G v d) : decide (v = .non) = isNoneD d := by
  cases r <;> first | rfl | (apply decide_eq_false; intro z; cases z)
theorem Rp.none_of {G : Hp} {v : V} (r : Rp K G v .none) : v = .non := by cases r; rfl
theorem opD_isN : OpD K (fun x y H Q => y = .non ∧ Q (.bl (decide (x = .non))) H) dIsN := by
  intro c H G cu v w d e z Q wd r1 r2 hz q
  unfold dIsN at hz
  split at hz
  · cases hz
    refine ⟨r2.none_of, q _ H G Ext.refl wd ?_⟩
    rw [isNoneD_rp r1]; exact .bl _
  · cases hz
theorem opD_notN : OpD K (fun x y H Q => y = .non ∧ Q (.bl (!decide (x = .non))) H) dNotN := by
  intro c H G cu v w d e z Q wd r1 r2 hz q
  unfold dNotN at hz
  split at hz
  · cases hz
    refine ⟨r2.none_of, q _ H G Ext.refl wd ?_⟩
    rw [isNoneD_rp r1]; exact .bl _
  · cases hz
end
end DL

set_option Elab.async false
set_option linter.all false
set_option maxRecDepth 100000
set_option maxHeartbeats 2000000
set_option autoImplicit false
/-! min, max of a tuple of numbers -/
namespace DL
open PySem PySem.Spec PyProof.Rows L2
section
variable {prog : Program} {w : World} {A : Around} {E : Value → Shared → Prop} {s : Shared} {l : Addr} {its : List Value} {ns : List Int} {Q : Value → Shared → Prop}
theorem iter_tupI {xs : Array Value} {R : Value → Shared → Prop} (hl : s.heap.IsTuple l xs)
    (h : ∀ s₂, s₂ = { s with heap := s.heap.push { cls := .type "tuple_iterator", data := .fields #[.ref l, .int 0 0] } } → s₂.heap.IsTupleIter s.heap.objs.size l 0 → s₂.heap.IsTuple l xs → (∀ b ∈ [s.heap.objs.size, l], b < s₂.heap.objs.size) → l ≠ s.heap.objs.size → R (.ref s.heap.objs.size) s₂) :
    wpAny (model prog w) A (pyIter (.ref l)) R E s := by
  have hal : l < s.heap.objs.size := let ⟨o, e, _⟩ := hl; Heap.lt_size e
  refine wpAny_pyIter_tuple hl ?_
  refine h _ rfl ⟨_, Heap.get?_push_size _ rfl, rfl, rfl⟩ (let ⟨u, e, r⟩ := hl; ⟨u, Heap.get?_push_of_some _ e, r⟩) (fun b hb => ?_) (Nat.ne_of_lt hal)
  show b < (s.heap.push _).objs.size
  rw [Heap.size_push]
  rcases List.mem_cons.mp hb with z | z
  · rw [z]; exact Nat.lt_succ_self _
  · rw [List.mem_singleton.mp z]; exact Nat.lt_succ_of_lt hal
theorem keptT {o : Obj} {h' : Heap} (hk : ∀ b u, b ∉ [s.heap.objs.size] → (s.heap.push o).get? b = some u → h'.get? b = some u) :
    ∀ b u, s.heap.get? b = some u → h'.get? b = some u := fun b u e => by
  refine hk b u (fun hm => ?_) (Heap.get?_push_of_some _ e)
  rcases List.mem_cons.mp hm with e1 | hm
  · exact absurd (e1 ▸ Heap.lt_size e) (Nat.lt_irrefl _)
  · cases hm
theorem max_rawT (hh : A.handled = none) (hl : s.heap.IsTuple l its.toArray) (hi : IntsAre its ns) (hne : 0 < ns.length)
    (h : ∀ h' tk M t', (∀ b o, s.heap.get? b = some o → h'.get? b = some o) → M ∈ ns → (∀ a, a ∈ ns → a ≤ M) → Q (.int M t') { s with heap := h', toks := tk }) : wpAny (model prog w) A (call (.builtin "max") [.ref l]) Q E s := by
  obtain ⟨xs, e⟩ := hi.allInts.items
  have hn : numsOf (intItems xs).toList = ns := by rw [← e]; exact hi.numsOf
  rw [nums_intItems] at hn
  subst hn
  rw [e] at hl
  have hsz : 0 < xs.size := by simpa using hne
  refine call_max_walk (iter_tupI hl fun s₂ es st1 st2 hfp hlI => ?_)
  subst es
  refine ⟨_, _, _, _, _, _, _, rfl, Walks.tuple (A := A.in1) hh _ l hlI (intItems xs), ⟨st1, st2⟩, hfp, by simpa [intItems] using hsz, CmpOf.ints_gt (numAt xs) (fun _ _ => intItems_at), fun v h' tk hP hk => ?_⟩
  have hv : (intItems xs)[argBest (fun i j => decide (numAt xs i > numAt xs j)) (xs.size - 1)]? = some v := by simpa [intItems] using hP
  obtain ⟨t, rfl⟩ := intItems_at hv
  obtain ⟨h1, h2⟩ := argBest_gt (numAt xs) (xs.size - 1)
  refine h h' tk _ t (keptT hk) ?_ fun a ha => ?_
  · rw [numAt_eq]; exact PySem.getD_mem (by rw [List.length_map, Array.length_toList]; omega)
  · obtain ⟨j, hj, rfl⟩ := mem_getD ha
    rw [List.length_map, Array.length_toList] at hj
    rw [← numAt_eq]; exact h2 j (by omega)
theorem min_rawT (hh : A.handled = none) (hl : s.heap.IsTuple l its.toArray) (hi : IntsAre its ns) (hne : 0 < ns.length)
    (h : ∀ h' tk M t', (∀ b o, s.heap.get? b = some o → h'.get? b = some o) → M ∈ ns → (∀ a, a ∈ ns → M ≤ a) → Q (.int M t') { s with heap := h', toks := tk }) : wpAny (model prog w) A (call (.builtin "min") [.ref l]) Q E s := by
  obtain ⟨xs, e⟩ := hi.allInts.items
  have hn : numsOf (intItems xs).toList = ns := by rw [← e]; exact hi.numsOf
  rw [nums_intItems] at hn
  subst hn
  rw [e] at hl
  have hsz : 0 < xs.size := by simpa using hne
  refine call_min_walk (iter_tupI hl fun s₂ es st1 st2 hfp hlI => ?_)
  subst es
  refine ⟨_, _, _, _, _, _, _, rfl, Walks.tuple (A := A.in1) hh _ l hlI (intItems xs), ⟨st1, st2⟩, hfp, by simpa [intItems] using hsz, CmpOf.ints_lt (numAt xs) (fun _ _ => intItems_at), fun v h' tk hP hk => ?_⟩
  have hv : (intItems xs)[argBest (fun i j => decide (numAt xs i < numAt xs j)) (xs.size - 1)]? = some v := by simpa [intItems] using hP
  obtain ⟨t, rfl⟩ := intItems_at hv
  obtain ⟨h1, h2⟩ := argBest_lt (numAt xs) (xs.size - 1)
  refine h h' tk _ t (keptT hk) ?_ fun a ha => ?_
  · rw [numAt_eq]; exact PySem.getD_mem (by rw [List.length_map, Array.length_toList]; omega)
  · obtain ⟨j, hj, rfl⟩ := mem_getD ha
    rw [List.length_map, Array.length_toList] at hj
    rw [← numAt_eq]; exact h2 j (by omega)
end
section
variable {X : Cx} {K : Kx}
def rMaxT (F : PySem.W.Frag) : List V → Hp → VK → Prop := fun vs H Q => ∃ (a : Addr) (ns : List Int), vs = [V.ref a] ∧ SqT F H a (ns.map V.int) ∧ 0 < ns.length ∧ ∀ m, m ∈ ns → (∀ y, y ∈ ns → y ≤ m) → Q (.int m) H
def rMinT (F : PySem.W.Frag) : List V → Hp → VK → Prop := fun vs H Q => ∃ (a : Addr) (ns : List Int), vs = [V.ref a] ∧ SqT F H a (ns.map V.int) ∧ 0 < ns.length ∧ ∀ m, m ∈ ns → (∀ y, y ∈ ns → m ≤ y) → Q (.int m) H
theorem cr_maxT (hc : X.calm = true) : CallR X (.builtin "max") (rMaxT X.K) := by
  intro pins s σ H vs us Q I r h
  obtain ⟨a, ns, rfl, hs, hne, q⟩ := h
  obtain ⟨its, rv, hl, _⟩ := I.tuple hs
  rw [Vals.ref1 r]
  exact max_rawT (I.ok.hd hc) hl rv.ints hne fun h' tk m t' hk h1 h2 => ⟨.int _, H, I.kept hk, ⟨_, rfl⟩, q m h1 h2⟩
theorem cr_minT (hc : X.calm = true) : CallR X (.builtin "min") (rMinT X.K) := by
  intro pins s σ H vs us Q I r h
  obtain ⟨a, ns, rfl, hs, hne, q⟩ := h
  obtain ⟨its, rv, hl, _⟩ := I.tuple hs
  rw [Vals.ref1 r]
  exact min_rawT (I.ok.hd hc) hl rv.ints hne fun h' tk m t' hk h1 h2 => ⟨.int _, H, I.kept hk, ⟨_, rfl⟩, q m h1 h2⟩
def dMaxT : List PyData → Option PyData
  | [.tuple ds] => (intsD ds).bind fun ns => ns.max?.map .int
  | _ => none
def dMinT : List PyData → Option PyData
  | [.tuple ds] => (intsD ds).bind fun ns => ns.min?.map .int
  | _ => none
theorem callD_maxT (hKF : K.F = X.K := by assumption) : CallD K (rMaxT X.K) dMaxT := by
  intro c H G cu vs ds z Q wd r hz q
  unfold dMaxT at hz
  split at hz
  · rename_i es
    obtain ⟨v, rfl, rv⟩ := r.one
    obtain ⟨a, xs, rfl, ha, ra⟩ := rv.tup_of
    obtain ⟨ns, ei, hz⟩ := Option.bind_eq_some_iff.mp hz
    obtain ⟨m, em, rfl⟩ := Option.map_eq_some_iff.mp hz
    obtain ⟨h1, h2⟩ := List.max?_eq_some_iff.mp em
    refine ⟨a, ns, rfl, ?_, List.length_pos_of_mem h1, fun m' k1 k2 => ?_⟩
    · rw [← ints_rp ra ei]
      exact TupAt.sq' hKF (TupAt.mono wd.sub ha)
    · have : m' = m := Int.le_antisymm (h2 _ k1) (k2 _ h1)
      subst this
      exact q _ H G Ext.refl wd (.int _)
  · cases hz
theorem callD_minT (hKF : K.F = X.K := by assumption) : CallD K (rMinT X.K) dMinT := by
  intro c H G cu vs ds z Q wd r hz q
  unfold dMinT at hz
  split at hz
  · rename_i es
    obtain ⟨v, rfl, rv⟩ := r.one
    obtain ⟨a, xs, rfl, ha, ra⟩ := rv.tup_of
    obtain ⟨ns, ei, hz⟩ := Option.bind_eq_some_iff.mp hz
    obtain ⟨m, em, rfl⟩ := Option.map_eq_some_iff.mp hz
    obtain ⟨h1, h2⟩ := List.min?_eq_some_iff.mp em
    refine ⟨a, ns, rfl, ?_, List.length_pos_of_mem h1, fun m' k1 k2 => ?_⟩
    · rw [← ints_rp ra ei]
      exact TupAt.sq' hKF (TupAt.mono wd.sub ha)
    · have : m' = m := Int.le_antisymm (k2 _ h1) (h2 _ k1)
      subst this
      exact q _ H G Ext.refl wd (.int _)
  · cases hz
end
end DL

set_option Elab.async false
set_option linter.all false
set_option maxRecDepth 100000
set_option maxHeartbeats 2000000
set_option autoImplicit false
/-! x op= e; bit_length; reversed of a list; a builtin held by a name; a thing in a list -/
namespace DL
open PySem PySem.Spec PyProof.Rows L2
section
variable {X : Cx}
theorem bits_of_log {i : Int} {k : Nat} (h : i.natAbs.log2 ≤ k) : Builtin.Int.intBits i ≤ k + 1 := by
  unfold Builtin.Int.intBits
  split <;> omega
theorem bits_64 {i : Int} (h : i.natAbs < 2 ^ 64) : Builtin.Int.intBits i ≤ 64 := bits_of_log (k := 63) (by have := log2_lt (k := 64) h (by decide); omega)
theorem mulOk_bits {i j : Int} (hc : mulOk i j = true) : IntMulOk i j := by
  unfold mulOk at hc
  rw [Bool.or_eq_true, Bool.or_eq_true, decide_eq_true_eq, decide_eq_true_eq, decide_eq_true_eq] at hc
  rcases hc with hc | hc | hc
  · exact IntMulOk.of_left (bits_64 hc)
  · exact IntMulOk.of_right (bits_64 hc)
  · exact IntMulOk.of_le (bits_of_log (Nat.le_refl _)) (bits_of_log (Nat.le_refl _)) (by omega)
theorem ip_mulD : PIp X .Mult (rI CMulD fun i j => .int (i * j)) := opI (f := inplaceOp .Mult) fun i j _ _ _ _ _ hc q => imul_int q (mulOk_bits hc)
theorem ip_divD : PIp X .FloorDiv (rI CDivD fun i j => .int (i.fdiv j)) := opI (f := inplaceOp .FloorDiv) fun i j _ _ _ _ _ hc q => by
  have hc : divOk i j = true := hc
  unfold divOk at hc
  rw [Bool.and_eq_true, decide_eq_true_eq, decide_eq_true_eq] at hc
  exact ifloordiv_int hc.1 q (.inl (PyProof.noPylong_of_log2 hc.2))
theorem ip_addD : PIp X .Add (rI0 fun i j => .int (i + j)) := ip_add
theorem ip_subD : PIp X .Sub (rI0 fun i j => .int (i - j)) := ip_sub
end
section
variable {X : Cx} {K : Kx} {E : XK} {e : Expr} {te : TE} {ge : GE} {pos : Pos}
/-! x op= e -/
def gAug (i : Nat) (f : PyData → PyData → Option PyData) (g : GE) : GS := fun ρ cu => match ρ[i]? with
  | some (.dat d) => (g ρ cu).bind fun z cu1 => (Rs.ofO (f d z) cu1).bind fun y cu2 => .ok (.nx (ρ.set i (.dat y))) cu2
  | _ => .stuck
theorem psd_aug {i : Nat} {x : Str} {pos' : Pos} {op : Operator} {ti : TIp} {f : PyData → PyData → Option PyData} (hN : X.N.Nodup) (hi : X.N[i]? = some x) (hx : Loc X.env.scope x) (ho : PIp X op ti) (hf : OpD K ti f) (he : PD X K E e te ge)
    (hl : X.fn x = true ∨ X.env.scope.names.lookup x = some .local := by first | exact .inl rfl | exact .inr rfl | assumption) :
    PSD X K E (.AugAssign (.Name x pos') op e pos) (tAug i te ti) (gAug i f ge) := by
  refine ⟨ps_aug hN hi hx he.pe ho hl, fun c H0 G0 σ H G ρ cu D s q => ?_⟩
  unfold gAug at q
  split at q
  · rename_i d ed
    obtain ⟨v, ev, rv⟩ := s.rep.dat i d ed
    refine ⟨v, ev, ?_⟩
    refine he.sem c H0 G0 σ H G ρ cu _ s ((q.exp s).imp fun z H1 G1 cu1 x1 w1 q1 u ru => ?_)
    obtain ⟨y, e2, q2⟩ := PostS.ofO q1
    exact hf c H1 G1 cu1 v u d z y _ w1 (rv.mono x1.g) ru e2 fun v' H' G' x2 w2 r2 => q2 _ H' G' (((s.go x1 w1).go x2 w2).set r2)
  · exact q.elim
end
/-! bit_length -/
def dBits : PyData → Option PyData
  | .int i => some (.int (Builtin.Int.intBits i : Nat))
  | _ => none
def gBits (g : GE) : GE := fun ρ cu => (g ρ cu).bind fun d cu1 => .ofO (dBits d) cu1
section
variable {X : Cx} {K : Kx} {E : XK} {e o : Expr} {te : TE} {ge : GE} {pos apos : Pos}
theorem pd_bits (h : PD X K E o te ge) (h1 : attributeBase o "bit_length" X.env (eval o X.env) = eval o X.env := by rfl) (h2 : (apos.endLine == pos.line) = true := by rfl) : PD X K E (.Call (.Attribute o "bit_length" apos) [] [] pos) (tBits te) (gBits ge) := by
  refine ⟨pe_bits h.pe h1 h2, fun c H0 G0 σ H G ρ cu Q s q => ?_⟩
  refine h.sem c H0 G0 σ H G ρ cu _ s (q.bind.imp fun d H1 G1 cu1 x1 w1 q1 v rv => ?_)
  obtain ⟨z, e1, q2⟩ := q1.ofO
  unfold dBits at e1
  split at e1
  · cases e1
    exact ⟨_, rv.int_of, q2 H1 G1 Ext.refl w1 _ (.int _)⟩
  · cases e1
/-! reversed of a list -/
def dRevL : PyData → Option (List PyData)
  | .list ds => some ds.reverse
  | _ => none
def giRev (g : GE) : GI := fun ρ cu => (g ρ cu).bind fun d cu1 => .ofO (dRevL d) cu1
theorem wk_revL {F : PySem.W.Frag} {G1 : Hp} {a : Addr} {xs : List V} {ds : List PyData} (h : G1 a = some (.lst xs)) (r : RpL K G1 xs ds) : Wk K (Itv F a xs.length) G1 ds.reverse := by
  intro c H G cu k w
  have hH : SqL F H a xs := SqL.of (w.sub _ _ (k _ _ h))
  have hl := r.length
  refine ⟨fun i d e => ?_, by show xs.length ≤ ds.reverse.length; rw [List.length_reverse]; exact Nat.le_of_eq hl⟩
  have hi : i < ds.length := by
    have := (List.getElem?_eq_some_iff.mp e).1
    rwa [List.length_reverse] at this
  rw [List.getElem?_reverse hi] at e
  obtain ⟨v, e1, rv⟩ := r.get e
  rw [← hl] at e1
  refine ⟨⟨by omega, xs, v, hH, e1⟩, fun x H' y => ?_⟩
  obtain ⟨rfl, y⟩ := y
  have ev : v = x := Option.some.inj (e1.symm.trans (y xs hH))
  subst ev
  exact ⟨G, Ext.refl, w, rv.mono k⟩
theorem pid_rev {tg : Expr} {p : Pos} (hg : Gl X "reversed") (hm : X.mg "reversed" = none) (h : PD X K E e te ge) (hs : starEach [e] X.env = (false, eval e X.env) :: starEach [] X.env := by rfl) :
    PID X K E tg (.Call (.Name "reversed" p) [e] [] pos) (RT.iRevA X.K te) (giRev ge) := by
  refine ⟨RT.pi_revA hg hm h.pe hs, fun c H0 G0 σ H G ρ cu R s q => ?_⟩
  refine h.sem c H0 G0 σ H G ρ cu _ s (q.bind.imp fun d H1 G1 cu1 x1 w1 q1 v rv => ?_)
  obtain ⟨ds, ed, q2⟩ := q1.ofO
  unfold dRevL at ed
  split at ed
  · cases ed
    obtain ⟨a, xs, rfl, ha, ra⟩ := rv.lst_of
    exact ⟨a, xs, rfl, .inl ⟨SqL.of (w1.sub _ _ ha), q2 H1 G1 Ext.refl w1 _ (wk_revL ha ra)⟩⟩
  · cases ed
/-! isqrt -/
def rIsq : List V → Hp → VK → Prop := fun vs H Q => ∃ i : Int, vs = [V.int i] ∧ 0 ≤ i ∧ i < 2 ^ 64 ∧ Q (.int ((Float64.isqrt i.toNat : Nat) : Int)) H
theorem cr_isqrt : CallR X (.builtin "math.isqrt") rIsq := by
  intro pins s σ H xs us Q I vs h
  obtain ⟨i, rfl, h0, h1, q⟩ := h
  cases vs with
  | cons h r =>
    cases r
    obtain ⟨t, rfl⟩ := h
    exact PySem.W.mg_isqrt h0 h1 ⟨.int _, H, I.kept fun b u e => e, ⟨_, rfl⟩, q⟩
def dIsq : List PyData → Option PyData
  | [.int i] => if 0 ≤ i ∧ i < 2 ^ 64 then some (.int ((Float64.isqrt i.toNat : Nat) : Int)) else none
  | _ => none
theorem callD_isq : CallD K rIsq dIsq := by
  intro c H G cu vs ds z Q wd r hz q
  unfold dIsq at hz
  split at hz
  · rename_i i
    obtain ⟨v, rfl, rv⟩ := r.one
    split at hz
    · rename_i hi
      cases hz
      rw [rv.int_of]
      exact ⟨i, rfl, hi.1, hi.2, q _ H G Ext.refl wd (.int _)⟩
    · cases hz
  · cases hz
theorem pd_callBf {es : List Expr} {t : TA} {g : GA} {id : String} {x : Str} {p : Pos} {r : List V → Hp → VK → Prop} {f : List PyData → Option PyData} (hc : CallR X (.builtin id) r) (hf : CallD K r f) (hg : Gl X x) (hm : X.mg x = some (.builtin id)) (ha : PAD X K E (e :: es) t g)
    (hdb : (x == ("__debug__" : Str)) = false := by decide)
    (he : starEach (e :: es) X.env = (false, eval e X.env) :: starEach es X.env := by rfl) (hpl : (backTo pos (starEach es X.env)).any (·.1) = false := by rfl) : PD X K E (.Call (.Name x p) (e :: es) [] pos) (tCB r t) (gCall f g) :=
  ⟨pe_callBfun hc hg hm ha.pa hdb he hpl, sem_callB hf ha.sem⟩
/-! a thing in a list -/
def dInL : PyData → PyData → Option PyData
  | d, .list ds => if SeqAt.shaped d = true ∧ SeqAt.shaped (.list ds) = true then some (.bool (ds.any fun z => PyData.eqv z d)) else none
  | _, _ => none
theorem opD_inL (hKF : K.F = X.K := by assumption) : OpD K (rInD X.K) dInL := by
  intro c H G cu v w d e z Q wd r1 r2 hz q
  unfold dInL at hz
  split at hz
  · split at hz
    · rename_i hs
      cases hz
      exact ⟨_, _, (r1.mono wd.sub).dp hKF, (r2.mono wd.sub).dp hKF, hs.1, hs.2, q _ H G Ext.refl wd (.bl _)⟩
    · cases hz
  · cases hz
/-! x, y = [..], e, where x is one's own list -/
def gParO (i j : Nat) (g1 : GI) (g2 : GE) : GS := fun ρ cu => (g1 ρ cu).bind fun ds cu1 => (g2 ρ cu1).bind fun d cu2 => .ok (.nx ((ρ.set i (.own ds)).set j (.dat d))) cu2
theorem psd_parO {i j : Nat} {x y : Str} {a b : Expr} {ta tb : TE} {g1 : GI} {g2 : GE} {px py pt : Pos} {kt k2 : Nat} {pt2 : Pos} (hc : X.calm = true) (hN : X.N.Nodup) (hi : X.N[i]? = some x) (hj : X.N[j]? = some y) (hij : i ≠ j)
    (hx : X.env.scope.names.lookup x = some .local) (hy : X.env.scope.names.lookup y = some .local) (ha : PFD X K E a ta g1) (hb : PD X K E b tb g2)
    (hw : swappedStores [.Tuple [.Name x px, .Name y py] kt pt] (.Tuple [a, b] k2 pt2) X.env = pure (some [x, y]) := by rfl)
    (hs : swapsWithSole [.Tuple [.Name x px, .Name y py] kt pt] (.Tuple [a, b] k2 pt2) pos.line X.env = pure false := by rfl)
    (h1 : starEach [a, b] X.env = (false, eval a X.env) :: starEach [b] X.env := by rfl) (h2 : starEach [b] X.env = (false, eval b X.env) :: starEach [] X.env := by rfl) :
    PSD X K E (.Assign [.Tuple [.Name x px, .Name y py] kt pt] (.Tuple [a, b] k2 pt2) pos) (tPar i j (tCons ta (tCons tb tNil))) (gParO i j g1 g2) := by
  refine ⟨ps_par hc hN hi hj hij hx hy (pa_cons ha.pe (pa_cons hb.pe pa_nil h2) h1) hw hs, fun c H0 G0 σ H G ρ cu D s q => ?_⟩
  refine ha.sem c H0 G0 σ H G ρ cu _ s ((q.exp s).imp fun ds H1 G1 cu1 x1 w1 q1 p xs hp hp' r gp => ?_)
  refine hb.sem c H0 G0 σ H1 G1 ρ cu1 _ (s.go x1 w1) ((q1.exp (s.go x1 w1)).imp fun d H2 G2 cu2 x2 w2 q2 v rv => ?_)
  exact ⟨_, _, rfl, q2 _ H2 G2 ((s.setO (x1.trans x2) w2 hp (x2.h p _ hp' nt_lst (s.wd.nc hp)) (r.mono x2.g) (x2.n p _ hp' nt_lst gp)).set rv)⟩
end
end DL

set_option Elab.async false
set_option linter.all false
set_option maxRecDepth 100000
set_option maxHeartbeats 2000000
set_option autoImplicit false
/-! a tuple from its end to its head -/
namespace DL
open PySem PySem.Spec PyProof.Rows L2
section
variable {prog : Program} {w : World} {A : Around} {E : Value → Shared → Prop} {s : Shared}
theorem sliceApplied_rev {sl : Addr} {n : Nat} {u : Tok} {Q : Int × Int × Nat → Shared → Prop} (h : s.heap.IsSliceOf sl .none .none (.int (-1) u)) (q : Q ((n : Int) - 1, -1, n) s) :
    wpAny (model prog w) A (Builtin.Slice.sliceApplied (.ref sl) (pure (n : Int))) Q E s := by
  obtain ⟨o, h1, h2, h3⟩ := h
  unfold Builtin.Slice.sliceApplied
  refine wpAny_bind ?_
  unfold Builtin.Slice.sliceFields
  refine wpAny_bind (wpAny_field h1 h3 rfl (wpAny_bind (wpAny_field h1 h3 rfl (wpAny_bind (wpAny_field h1 h3 rfl (wpAny_pure ?_))))))
  refine wpAny_bind (slicePart_int ?_)
  show wpAny (model prog w) A (if ((-1 : Int) == 0) = true then _ else _) Q E s
  rw [if_neg (by decide)]
  refine wpAny_bind (slicePart_none (wpAny_bind (slicePart_none (wpAny_bind (wpAny_pure ?_)))))
  have ha : Builtin.Slice.sliceAdjust none none (-1) (n : Int) = ((n : Int) - 1, -1) := rfl
  have hp : Builtin.Slice.slicePlaces ((n : Int) - 1) (-1) (-1) = n := by
    unfold Builtin.Slice.slicePlaces
    rw [if_neg (by decide)]
    by_cases h : (n : Int) - 1 > -1
    · rw [if_pos h, Int.neg_neg, Int.ediv_one]; omega
    · rw [if_neg h]; omega
  show wpAny (model prog w) A (match Builtin.Slice.sliceAdjust none none (-1) (n : Int) with | (lo, hi) => pure (lo, (-1 : Int), Builtin.Slice.slicePlaces lo hi (-1))) Q E s
  rw [ha]
  refine wpAny_pure ?_
  show Q ((n : Int) - 1, -1, Builtin.Slice.slicePlaces ((n : Int) - 1) (-1) (-1)) s
  rw [hp]
  exact q
theorem filterMap_eq {α β : Type} {f g : α → Option β} : ∀ {l : List α}, (∀ x ∈ l, f x = g x) → l.filterMap f = l.filterMap g
  | [], _ => rfl
  | x :: l, h => by
    rw [List.filterMap_cons, List.filterMap_cons, h x (List.mem_cons_self ..), filterMap_eq fun y hy => h y (List.mem_cons_of_mem _ hy)]
theorem pick_rev (xs : Array Value) : (List.filterMap (fun (k : Nat) => xs[((xs.size : Int) - 1 + (k : Int) * -1).toNat]?) (List.range xs.size)).toArray = xs.toList.reverse.toArray := by
  have h := pick_from xs.toList.reverse.toArray 0 (Nat.zero_le _)
  rw [List.drop_zero] at h
  have hs : xs.toList.reverse.toArray.size - 0 = xs.size := by simp
  rw [hs] at h
  have hc : List.filterMap (fun (k : Nat) => xs[((xs.size : Int) - 1 + (k : Int) * -1).toNat]?) (List.range xs.size) = List.filterMap (fun (k : Nat) => xs.toList.reverse.toArray[(((0 : Nat) : Int) + (k : Int) * 1).toNat]?) (List.range xs.size) := by
    refine filterMap_eq fun k hk => ?_
    have hk := List.mem_range.mp hk
    have e1 : ((xs.size : Int) - 1 + (k : Int) * -1).toNat = xs.size - 1 - k := by omega
    have e2 : (((0 : Nat) : Int) + (k : Int) * 1).toNat = k := by omega
    have hk2 : k < xs.toList.length := by rw [Array.length_toList]; exact hk
    have h5 := List.getElem?_reverse hk2
    rw [Array.length_toList] at h5
    have e4 : xs.toList.reverse.toArray[k]? = xs.toList.reverse[k]? := by simp
    have e5 : xs[xs.size - 1 - k]? = xs.toList[xs.size - 1 - k]? := by simp
    rw [e1, e2, e4, h5, e5]
  rw [hc, h]
theorem getItem_tuple_rev {t sl : Addr} {items : Array Value} {u : Tok} {Q : Value → Shared → Prop} (ht : IsTup s.heap t items) (h : s.heap.IsSliceOf sl .none .none (.int (-1) u))
    (q : Q (.ref s.heap.objs.size) { heap := s.heap.push { cls := .type "tuple", data := .seq items.toList.reverse.toArray }, gens := s.gens, drawn := s.drawn, toks := s.toks, os := s.os }) (hz : items.size ≤ sizeLine) :
    wpAny (model prog w) A (getItem (.ref t) (.ref sl)) Q E s := by
  have hts : s.TypeIs (.ref sl) "slice" := by
    obtain ⟨o, h1, h2, _⟩ := h
    exact ⟨o, h1, h2⟩
  unfold getItem
  refine wpAny_holding (wpAny_bind (wpAny_sequenceKey ht.typeIs (by decide) ?_))
  refine wpAny_bind (wpAny_callSpecial?_slot ht.typeIs slot_tuple_getitem ?_)
  refine wpAny_call_entry slot_tuple_getitem ht.typeIs entry_tuple_getitem ?_ (args_tuple_getitem _ _)
  unfold Builtin.«tuple.__getitem__»
  show wpAny (model prog w) A.in1 (Builtin.Tuple.tupleItemsOf (.ref t) >>= _) _ E s
  refine wpAny_bind (tupleItemsOf_ ht (wpAny_bind (wpAny_typeOf hts ?_)))
  rw [if_pos (by decide)]
  refine wpAny_bind (sliceApplied_rev h ?_)
  show wpAny (model prog w) A.in1 (if (((items.size : Int) - 1 == 0) && ((-1 : Int) == 1) && (items.size == items.size)) = true then _ else _) _ E s
  rw [if_neg (by simp)]
  refine wpAny_bind ?_
  unfold Builtin.Tuple.tupleExact
  rw [pick_rev]
  refine wpAny_newObj_type ?_ ?_
  · exact wpAny_pure ⟨_, rfl, wpAny_pure q⟩
  · show items.toList.reverse.toArray.size ≤ sizeLine
    simpa using hz
end
section
variable {X : Cx} {K : Kx} {E : XK} {e : Expr} {te : TE} {ge : GE} {pos : Pos}
theorem RpL.rev {G : Hp} : ∀ {xs : List V} {ds : List PyData}, RpL K G xs ds → RpL K G xs.reverse ds.reverse
  | _, _, .nil => .nil
  | _, _, .cons h r => by
    rw [List.reverse_cons, List.reverse_cons]
    exact (RpL.rev r).app (.cons h .nil)
theorem units65 {k : Nat} {A : Around} (h : Room k A) : A.units + 65 < cLine := by have := h.un; omega
def dRevT : PyData → Option PyData
  | .tuple ds => some (.tuple ds.reverse)
  | _ => none
def tRevT (K : PySem.W.Frag) (te : TE) : TE := fun σ H Q => te σ H fun x H1 => ∃ a xs, x = .ref a ∧ SqT K H1 a xs ∧ ∀ p, H1 p = none → Q (.ref p) (upd H1 p (.tup xs.reverse))
theorem pe_revT {k : Nat} {p1 p2 p3 : Pos} (h : PE X e te) : PE X (.Subscript e (.Slice none none (some (.UnaryOp .USub (.Constant (.int 1) k p1) p2)) p3) pos) (tRevT X.K te) := by
  refine ⟨fun pins s σ H Q I q => ?_⟩
  refine Subscript_ (thn (h.run pins s σ H _ I q) ?_)
  rintro o s1 ⟨v, H1, I1, rv, a, xs, rfl, hs, q1⟩
  cases rv
  refine wpAny_Slice (thn (po_none.run pins s1 σ H1 (fun o H' => o = none ∧ H' = H1) I1 ⟨rfl, rfl⟩) ?_)
  rintro u1 s2 ⟨o1, H2, I2, p1', rfl, rfl⟩
  cases p1'
  refine thn (po_none.run pins s2 σ H2 (fun o H' => o = none ∧ H' = H2) I2 ⟨rfl, rfl⟩) ?_
  rintro u2 s3 ⟨o2, H3, I3, p2', rfl, rfl⟩
  cases p2'
  refine thn ((po_some (pe_un un_neg pe_int)).run pins s3 σ H3 (fun o H' => o = some (-1) ∧ H' = H3) I3 ⟨1, rfl, -1, rfl, rfl, rfl⟩) ?_
  rintro u3 s4 ⟨o3, H4, I4, p3', rfl, rfl⟩
  cases p3' with
  | int i t =>
    have I5 := I4.kept (h' := s4.heap.push { cls := .type "slice", data := .fields #[.none, .none, .int (-1) t] }) (t' := s4.toks) (fun b u e => Heap.get?_push_of_some _ e)
    obtain ⟨its, vs, ht, hz⟩ := I5.tuple hs
    have hlen := vs.length
    refine tail_any ht.typeIs slot_tuple_getitem.lookup (getItem_tuple_rev ht (Heap.IsSliceOf.new ..) ?_ (by rw [List.size_toArray, ← hlen]; exact hz)) rfl
    refine ⟨.ref _, upd H4 _ (.tup xs.reverse), I5.laid (t' := s4.toks) (fun b o e => Heap.get?_push_of_some _ e) (Nat.le_refl _) ?_, rfl, q1 _ (I5.hok.fresh (Nat.le_refl _))⟩
    refine ⟨by rw [List.length_reverse]; exact hz, its.reverse, vs.reverse, ?_⟩
    exact ⟨_, Heap.get?_push_size _ rfl, rfl, 0, rfl⟩
theorem pd_revT {k : Nat} {p1 p2 p3 : Pos} (h : PD X K E e te ge) (hKF : K.F = X.K := by assumption) : PD X K E (.Subscript e (.Slice none none (some (.UnaryOp .USub (.Constant (.int 1) k p1) p2)) p3) pos) (tRevT X.K te) (gUn dRevT ge) := by
  refine ⟨pe_revT h.pe, fun c H0 G0 σ H G ρ cu Q s q => ?_⟩
  refine h.sem c H0 G0 σ H G ρ cu _ s (q.bind.imp fun d H1 G1 cu1 x1 w1 q1 v rv => ?_)
  obtain ⟨z, e1, q2⟩ := q1.ofO
  unfold dRevT at e1
  split at e1
  · cases e1
    obtain ⟨a, xs, rfl, ha, ra⟩ := rv.tup_of
    exact ⟨a, xs, rfl, TupAt.sq' hKF (TupAt.mono w1.sub ha), fun p hp => new_tup w1 ra.rev (fun v' H' G' x w r => q2 H' G' x w v' r) hp⟩
  · cases e1
end
end DL

set_option Elab.async false
set_option linter.all false
set_option maxRecDepth 100000
set_option maxHeartbeats 2000000
set_option autoImplicit false
/-! the head, where some names hold builtins of a module -/
namespace DL
open PySem PySem.Spec PyProof.Rows L2
def biB (K : PySem.W.Frag) (x : Str) (id : String) : Bool := He.eqO (PySem.W.nsIn K mainGlobals x) (some (some (Value.builtin id)))
theorem bi_ok {K : PySem.W.Frag} {h : Heap} {mg : Str → Option Value} (X : K.In h) (G : h.Ns mainGlobals mg) {x : Str} {id : String} (hb : biB K x id = true) : mg x = some (.builtin id) := PySem.W.mg_of X G (He.eqO_ok hb)
def obsB (n : Nat) (fa : List He.Fa) (fn : List He.DefD) (xs : List Str) (bs : List (Str × String)) (g : Addr → Option Obj) : AlT :=
  (He.obsD fa fn (He.frG g (He.asD g n)), ((tabO xs (He.frG g (He.asD g n)) g).1 && bs.all fun b => biB (He.frG g (He.asD g n)) b.1 b.2, (tabO xs (He.frG g (He.asD g n)) g).2))
structure SaysB (fa : List He.Fa) (fn : List He.DefD) (xs : List Str) (bs : List (Str × String)) (K : PySem.W.Frag) (h : Heap) : Prop extends SaysT fa fn xs K h where
  bi : ∀ b ∈ bs, biB K b.1 b.2 = true
def hookB (n : Nat) (fa : List He.Fa) (fn : List He.DefD) (xs : List Str) (bs : List (Str × String)) : PySem.W.Hook where
  α := AlT
  obs := fun s => obsB n fa fn xs bs s.heap.get?
  val := fun _ => (He.valD fn, tabV xs)
  says := fun _ h => ∃ K : PySem.W.Frag, SaysB fa fn xs bs K h
  of := fun w s e => by
    have e1 := congrArg (fun z : AlT => z.1) e
    have e2 := congrArg (fun z : AlT => z.2.1) e
    have e3 := congrArg (fun z : AlT => z.2.2) e
    have e2 : (((xs.all fun x => tabB (He.frG s.heap.get? (He.asD s.heap.get? n)) x) && decide (xs.map fun x => (tabP (He.frG s.heap.get? (He.asD s.heap.get? n)) x).2).Nodup) && bs.all fun b => biB (He.frG s.heap.get? (He.asD s.heap.get? n)) b.1 b.2) = true := e2
    rw [Bool.and_eq_true, Bool.and_eq_true, List.all_eq_true, List.all_eq_true, decide_eq_true_eq] at e2
    have e3 : (xs.map fun x => s.heap.get? (tabP (He.frG s.heap.get? (He.asD s.heap.get? n)) x).2) = xs.map fun _ => some (PySem.W.tabObj #[]) := e3
    exact ⟨_, ⟨He.frG_in, e1, fun x hx => ⟨e2.1.1 x hx, List.map_inj_left.mp e3 x hx⟩, e2.1.2⟩, e2.2⟩
  keeps := fun w h h' ⟨K, S⟩ k => ⟨K, ⟨PySem.W.Frag.In.keeps S.kin k, S.facts, fun x hx => ⟨(S.tab x hx).1, k _ _ (S.tab x hx).2⟩, S.nd⟩, S.bi⟩
theorem obsB_eq {n : Nat} {fa : List He.Fa} {fn : List He.DefD} {xs : List Str} {bs : List (Str × String)} {g : Addr → Option Obj} {s : Shared} (h : ∀ a, g a = s.heap.get? a) : obsB n fa fn xs bs g = (hookB n fa fn xs bs).obs s := by
  have e : g = s.heap.get? := funext h
  rw [e] <;> rfl
end DL

set_option Elab.async false
set_option linter.all false
set_option maxRecDepth 100000
set_option maxHeartbeats 2000000
set_option autoImplicit false
/-! generator expressions whose elements call: the context of their frame -/
namespace DL
open PySem PySem.Spec PyProof.Rows L2
/-- the context of a generator expression's frame: entered at s, its iterator's objects at fp -/
abbrev gcx (X : Cx) (A : Around) (s : Shared) (H : Hp) (cenv : Env) (fp : List Addr) (pn : List (Addr × Obj)) : Cx :=
  { X with A := A, s_0 := s, H_0 := H, env := cenv, outer := X.stack, stack := cenv :: X.stack, ex := fp, fn := fun _ => false, calm := true, pn := pn, xe := fun _ _ => False }
abbrev gEnv (X : Cx) (scope : Scope) (C : Addr) (code : Value) : Env := genEnv scope (cloFrom X.env.cells scope.names []) C code builtinsNs X.env
section
variable {X : Cx} {pins : List (Addr × Obj)} {σ : L2.St} {H : Hp} {s : Shared}
theorem gx_start {A : Around} {scope : Scope} {own : List (Str × Nat)} {fp : List Addr} {code : Value} {h' : Heap} {m : Str → Option Value} {g' : Array GenState} {tk : Nat} (I : Inv X pins σ H s) (ok : BlkOk X.N X.env.scope scope own) (hN : X.N.Nodup)
    (hcell : ∀ y ∈ scope.names, y.2 ≠ .cell) (hA : A.handled = none) (hfr : A.frames = some (gEnv X scope s.heap.objs.size code :: X.stack)) (hfp : ∀ b ∈ fp, FpOk X pins H b ∧ b < s.heap.objs.size)
    (hns : h'.Ns s.heap.objs.size m) (kp : ∀ b o, s.heap.get? b = some o → h'.get? b = some o) (hgb : AllBare g') :
    Inv (gcx X A s H (gEnv X scope s.heap.objs.size code) fp []) [] (wipe σ (own.map (·.2))) H { s with heap := h', gens := g', toks := tk } := by
  have hfree : ∀ y ∈ scope.names, y.2 = .free → ∃ c, X.env.cells.lookup y.1 = some c := fun y hy e => by
    rcases ok.free y hy e with k | k
    · exact I.ok.has _ (.inl k)
    · exact I.ok.has _ (.inr k)
  have cm : ∀ {y c}, (cloFrom X.env.cells scope.names []).lookup y = some c → X.env.cells.lookup y = some c := fun {y c} e => by
    rcases cloFrom_mem (PySem.mem_of_lookup e) with hm | ⟨h1, h2⟩
    · cases hm
    · obtain ⟨c1, hc⟩ := hfree _ h1 rfl
      have hc : X.env.cells.lookup y = some c1 := hc
      have e2 : c = c1 := by
        rw [h2, hc] <;> rfl
      rw [e2]
      exact hc
  have look : ∀ {y}, scope.names.lookup y = some .free → ∃ c, (cloFrom X.env.cells scope.names []).lookup y = some c := fun {y} hl => by
    have hy : (y, NameKind.free) ∈ scope.names := PySem.mem_of_lookup hl
    exact mem_lookup (cloFrom_has (cells := X.env.cells) (acc := []) hy)
  have clt : ∀ {y c}, X.env.cells.lookup y = some c → c < s.heap.objs.size := fun {y c} e => let ⟨_, z⟩ := I.cell y c e; z.lt
  refine ⟨⟨I.ok.mod, ok.kind, I.ok.glob, rfl, Nat.le_refl _, fun y z c e1 e2 => I.ok.inj y z c (cm e1) (cm e2), fun y hy => ?_, fun y c z _ => ?_, fun _ => hA, hfr, .inr ⟨rfl, rfl⟩, fun b hb => ⟨?_, fun y c e z => ?_⟩, I.bs, Nat.le_trans I.ok.bsz I.sz, fun b o e hb => ?_, fun b hb z => ?_, I.stack, I.stkFree⟩,
    rfl, hgb, Un.kept kp, ⟨m, hns, fun i y av e1 e2 e3 => ?_⟩, fun y c e => ?_, I.hok.fresh (Nat.le_refl _), fun y c e => I.freeC y c (cm e), fun p hp => absurd (show p ∈ ([] : List (Addr × Obj)) ++ [] from hp) (by simp), I.hok.kept kp, by rw [wipe_length]; exact I.len⟩
  · have hy : scope.names.lookup y = some .cell ∨ scope.names.lookup y = some .free := hy
    rcases hy with hy | hy
    · exact absurd rfl (hcell _ (PySem.mem_of_lookup hy))
    · exact look hy
  · have z : false = true := z
    cases z
  · show b ≠ s.heap.objs.size
    exact Nat.ne_of_lt (hfp b hb).2
  · exact (hfp b hb).1.2.2.2.2.1 y c (cm e) z
  · rcases (hfp b hb).1.2.2.2.1 with z | z
    · exact I.ok.noex b o e z
    · exact absurd (Nat.lt_of_lt_of_le (Heap.lt_size e) (Nat.le_trans I.ok.bsz z)) (Nat.lt_irrefl _)
  · rcases List.mem_cons.mp (I.stkSub b z) with z | z
    · exact (hfp b hb).1.2.1 z
    · exact (hfp b hb).1.2.2.1 z
  · obtain ⟨e2, hne⟩ := wipe_some e2
    have hfr' : scope.names.lookup y = some .free := by
      have e3 : Vis scope y := e3
      have no : ∀ {k}, scope.names.lookup y = some k → ¬ (k = .local ∨ k = .cell) := fun {k} e hh => by
        rcases ok.own _ (PySem.mem_of_lookup e) hh with e' | e'
        · obtain ⟨p, hp, hpy⟩ := List.mem_map.mp e'
          have e3 := ok.ix p hp
          have : p.1 = y := hpy
          rw [this] at e3
          exact hne (List.mem_map.mpr ⟨p, hp, nodup_ix hN e3 e1⟩)
        · exact e' (List.mem_of_getElem? e1)
      rcases e3 with e3 | e3 | e3
      · exact absurd (.inl rfl) (no e3)
      · exact absurd (.inr rfl) (no e3)
      · exact e3
    obtain ⟨mm, hn, hl⟩ := I.loc
    have hvis : Vis X.env.scope y := (ok.free _ (PySem.mem_of_lookup hfr') rfl).elim (fun k => .inr (.inl k)) (fun k => .inr (.inr k))
    obtain ⟨w, r, q⟩ := hl i y av e1 e2 hvis
    obtain ⟨c2, h2⟩ := look hfr'
    refine ⟨w, r, .inr ⟨.inr hfr', c2, h2, ?_⟩⟩
    have c1 := cm h2
    rcases q with ⟨k, _⟩ | ⟨_, c', e', z⟩
    · have k : X.env.scope.names.lookup y = some .local := k
      rcases ok.free _ (PySem.mem_of_lookup hfr') rfl with k' | k' <;> rw [show X.env.scope.names.lookup y = _ from k'] at k <;> cases k
    · rw [c1] at e'
      cases e'
      exact z.keeps kp
  · obtain ⟨w, z⟩ := I.cell y c (cm e)
    exact ⟨w, z.keeps kp⟩
/-- what the consumer may do while the generator sleeps: nothing to what stood -/
structure Woke (s s' : Shared) : Prop where
  os : s'.os = s.os
  bare : AllBare s'.gens
  keep : ∀ b o, s.heap.get? b = some o → s'.heap.get? b = some o
theorem Inv.woke {s' : Shared} (I : Inv X pins σ H s) (w : Woke s s') : Inv X pins σ H s' :=
  I.call' (ch := []) w.os (Un.kept w.keep) (I.hok.kept w.keep) w.bare fun b z => by simp at z
/-- the iterator's objects as they stand, as pins -/
def pinsAt (fp : List Addr) (h : Heap) : List (Addr × Obj) := fp.filterMap fun b => (h.get? b).map fun o => (b, o)
theorem pinsAt_mem {fp : List Addr} {h : Heap} {p : Addr × Obj} (hp : p ∈ pinsAt fp h) : p.1 ∈ fp ∧ h.get? p.1 = some p.2 := by
  obtain ⟨b, hb, e⟩ := List.mem_filterMap.mp hp
  cases q : h.get? b with
  | none => rw [q] at e; cases e
  | some o => rw [q] at e; cases e; exact ⟨hb, q⟩
theorem pinsAt_of {fp : List Addr} {h : Heap} {b : Addr} {o : Obj} (hb : b ∈ fp) (e : h.get? b = some o) : (b, o) ∈ pinsAt fp h :=
  List.mem_filterMap.mpr ⟨b, hb, by rw [e]; rfl⟩
end
end DL

set_option Elab.async false
set_option linter.all false
set_option maxRecDepth 100000
set_option maxHeartbeats 2000000
set_option autoImplicit false
/-! generator expressions whose elements call: their frame's run -/
namespace DL
open PySem PySem.Spec PyProof.Rows L2
theorem wipeE_in {ρ : En} {i : Nat} : ∀ {vs : List Nat}, i ∈ vs → ∀ {z : Sl}, (wipeE ρ vs)[i]? = some z → z = .un
  | v :: vs, h, z, e => by
    rw [wipeE] at e
    by_cases hi : v = i
    · subst hi
      by_cases hl : v < (wipeE ρ vs).length
      · rw [List.getElem?_set_self hl] at e; cases e; rfl
      · rw [List.getElem?_eq_none (by rw [List.length_set]; omega)] at e; cases e
    · rw [List.getElem?_set_ne hi] at e
      rcases List.mem_cons.mp h with q | q
      · exact absurd q.symm hi
      · exact wipeE_in q e
section
variable {K : Kx} {c : Option Addr} {Hc Gc H G : Hp} {σ1 σ2 : L2.St} {ρ : En} {cu : Cu} {vs ws : List Nat}
theorem srep_ws (s : SRep K c Hc Gc σ1 H G (wipeE ρ vs) cu) (hl : σ2.length = σ1.length) (hk : ∀ j : Nat, j ∉ ws → σ2[j]? = σ1[j]?) (hw : ∀ j ∈ ws, j ∈ vs) : SRep K c Hc Gc σ2 H G (wipeE ρ vs) cu := by
  have nw : ∀ {i : Nat} {z : Sl}, (wipeE ρ vs)[i]? = some z → z ≠ .un → σ2[i]? = σ1[i]? := fun {i z} e hz => hk i fun hi => hz (wipeE_in (hw i hi) e)
  obtain ⟨A, h1, h2⟩ := s.rep.own
  refine ⟨s.wd, s.ext, s.rep.len.trans hl.symm, fun i d e => ?_, fun i e => ?_, A, fun i ds e => ?_, h2⟩
  · rw [nw e (fun z => nomatch z)]; exact s.rep.dat i d e
  · rw [nw e (fun z => nomatch z)]; exact s.rep.cup i e
  · rw [nw e (fun z => nomatch z)]; exact h1 i ds e
end
def dYes : PyData → Option Bool
  | .bool b => some b
  | _ => none
/-- all(elt for tg in items if tests) -/
def gAllL (gg : GG) (gt : GT) (ge : GE) : List PyData → En → Cu → Rs Bool
  | [] => fun _ cu => .ok true cu
  | d :: r => fun ρ cu => (Rs.ofO (gg d ρ) cu).bind fun ρ1 cu1 => (gt ρ1 cu1).nox.bind fun b cu2 => if b = true then (ge ρ1 cu2).nox.bind fun y cu3 => (Rs.ofO (dYes y) cu3).bind fun t cu4 => if t = true then gAllL gg gt ge r ρ cu4 else .ok false cu4 else gAllL gg gt ge r ρ cu2
section
variable {K : Kx} {X : Cx} {AG : Around} {s0 : Shared} {H0 : Hp} {cenv : Env} {fp : List Addr} {pn : List (Addr × Obj)} {tg elt iter : Expr} {ifs : List Expr} {scope : Scope} {pos : Pos} {J : It} {it : Addr} {tn : Nat → Heap → Prop}
  {gg : GG} {gt : GT} {ge : GE} {ws vs : List Nat} {ρ : En} {items : List PyData} {G1 : Hp} {c : Option Addr} {Hc Gc : Hp} {QB : Bool → Hp → Hp → Cu → Prop}
/-- the end of such a run -/
def FinB (X : Cx) (A : Around) (s0 : Shared) (H0 : Hp) (cenv : Env) (fp : List Addr) (pn : List (Addr × Obj)) (QB : Bool → Hp → Hp → Cu → Prop) (b : Bool) (s1 : Shared) : Prop := ∃ σ' H G cu, Inv (gcx X A s0 H0 cenv fp pn) [] σ' H s1 ∧ QB b H G cu
def RAll (X : Cx) (A : Around) (s0 : Shared) (H0 : Hp) (cenv : Env) (fp : List Addr) (pn : List (Addr × Obj)) (QB : Bool → Hp → Hp → Cu → Prop) : GenEnd := fun _ _ r s1 => ((r = .ok (.ret .none) ∨ r = .ok .next) ∧ FinB X A s0 H0 cenv fp pn QB true s1) ∨ ∃ e, r = .error e ∧ False
def YAll (X : Cx) (A : Around) (s0 : Shared) (H0 : Hp) (cenv : Env) (fp : List Addr) (pn : List (Addr × Obj)) (QB : Bool → Hp → Hp → Cu → Prop) : Protocol := fun _ _ v s1 kap =>
  ∃ b : Bool, v = .bool b ∧ (∃ σ' H, Inv (gcx X A s0 H0 cenv fp pn) [] σ' H s1) ∧ (b = false → FinB X A s0 H0 cenv fp pn QB false s1) ∧ (b = true → ∀ s', Woke s1 s' → kap (.send .none) s')
theorem seg_allL (hco : cenv.scope.isCoroutine = false) (hov : AG.over (.compLoop (.GeneratorExp elt [⟨tg, iter, ifs, 0⟩] scope pos) 0 (.ref it) .none cenv) [] = AG.deeper cenv)
    (T : Turn X.prog X.w X.K tg J fp it tn) (hfx : ∀ b ∈ fp, b ≠ cenv.locals ∧ b ∉ frs X.stack ∧ (∀ x c, cenv.cells.lookup x = some c → c ≠ b) ∧ ∀ p ∈ pn, p.1 ≠ b) (wk : Wk K J G1 items)
    (hg : PG (gcx X (AG.deeper cenv) s0 H0 cenv fp pn) tg (tgOf K gg ws)) (ht : PTs (gcx X (AG.deeper cenv) s0 H0 cenv fp pn) ifs (ttOf K E0 gt)) (he : PE (gcx X (AG.deeper cenv) s0 H0 cenv fp pn) elt (tOf K E0 ge)) (hw : ∀ j ∈ ws, j ∈ vs) :
    ∀ (k i n : Nat) (s₀ s : Shared) (σ1 : L2.St) (H G : Hp) (cu : Cu), items.length - i = k → i ≤ items.length → k ≤ n → Inv (gcx X (AG.deeper cenv) s0 H0 cenv fp pn) [] σ1 H s → SRep K c Hc Gc σ1 H G (wipeE ρ vs) cu → tn i s.heap → (∀ b ∈ fp, H b = none) →
      (∀ b o, G1 b = some o → G b = some o) → Post K E0 c H G (gAllL gg gt ge (items.drop i) (wipeE ρ vs) cu) QB →
      Seg (model X.prog X.w) AG (RAll X (AG.deeper cenv) s0 H0 cenv fp pn QB) (YAll X (AG.deeper cenv) s0 H0 cenv fp pn QB) n s₀
        (.compLoop (.GeneratorExp elt [⟨tg, iter, ifs, 0⟩] scope pos) 0 (.ref it) .none cenv) ((model X.prog X.w).den (.compLoop (.GeneratorExp elt [⟨tg, iter, ifs, 0⟩] scope pos) 0 (.ref it) .none cenv)) [] s := by
  have fpok : ∀ {H : Hp}, (∀ b ∈ fp, H b = none) → ∀ b ∈ fp, FpOk (gcx X (AG.deeper cenv) s0 H0 cenv fp pn) [] H b := fun {H} hn b hb => by
    obtain ⟨h1, h2, h3, h4⟩ := hfx b hb
    refine ⟨hn b hb, h1, h2, .inl hb, h3, fun p hp => ?_⟩
    rcases List.mem_append.mp hp with z | z
    · exact h4 p z
    · exact absurd z (by simp)
  intro k
  induction k with
  | zero =>
    intro i n s₀ s σ1 H G cu hk hi hn I r htn hfn hG q
    show Seg _ AG _ _ n s₀ _ ((compTurn (.GeneratorExp elt [⟨tg, iter, ifs, 0⟩] scope pos) 0 (.ref it) .none cenv).onRaise (leaving cenv)) [] s
    rw [compTurn_gen, Sem.onRaise_eq_wrap]
    refine seg_bind_wrap (wpAny_standAt ?_)
    have hstop := (wk c H G cu hG r.wd).2
    have hii : i = items.length := by omega
    subst hii
    rw [List.drop_length] at q
    refine seg_bind_wrap ?_
    rw [hov]
    refine wpAny_mono (T.done (gcx X (AG.deeper cenv) s0 H0 cenv fp pn) rfl rfl rfl rfl items.length [] s σ1 H (fun _ _ => False) I (fpok hfn) htn hstop) (fun o s1 ho => ?_) fun _ _ z => z.elim
    obtain ⟨rfl, I1⟩ := ho
    exact seg_end (.ok .next) (.inl ⟨.inr rfl, σ1, H, G, cu, I1, q H G Ext.refl r.wd⟩)
  | succ k ih =>
    intro i n s₀ s σ1 H G cu hk hi hn I r htn hfn hG q
    have hlt : i < items.length := by omega
    obtain ⟨n, rfl⟩ : ∃ n', n = n' + 1 := ⟨n - 1, by omega⟩
    show Seg _ AG _ _ (n + 1) s₀ _ ((compTurn (.GeneratorExp elt [⟨tg, iter, ifs, 0⟩] scope pos) 0 (.ref it) .none cenv).onRaise (leaving cenv)) [] s
    rw [compTurn_gen, Sem.onRaise_eq_wrap]
    refine seg_bind_wrap (wpAny_standAt ?_)
    obtain ⟨go, yl⟩ := (wk c H G cu hG r.wd).1 i _ (List.getElem?_eq_getElem hlt)
    refine seg_bind_wrap ?_
    rw [hov]
    refine wpAny_mono (T.item (gcx X (AG.deeper cenv) s0 H0 cenv fp pn) rfl rfl rfl rfl i [] s σ1 H (fun _ _ => False) I (fpok hfn) htn go) (fun o s1 ho => ?_) fun _ _ z => z.elim
    obtain ⟨u, rfl, ho⟩ := ho
    refine seg_bind_wrap ?_
    rw [hov]
    refine wpAny_mono ho (fun _ s2 h2 => ?_) fun _ _ z => z.elim
    obtain ⟨x, H2, I2, rv, y, tn2, fn2⟩ := h2
    obtain ⟨G2, x2, w2, rx⟩ := yl x H2 y
    have r2 : SRep K c Hc Gc σ1 H2 G2 (wipeE ρ vs) cu := r.go x2 w2
    have q2 : Post K E0 c H2 G2 (gAllL gg gt ge (items.drop i) (wipeE ρ vs) cu) QB := Post.go x2 q
    rw [List.drop_eq_getElem_cons hlt] at q2
    -- the iterator's objects are pinned
    have Ip : Inv (gcx X (AG.deeper cenv) s0 H0 cenv fp pn) (pinsAt fp s2.heap) σ1 H2 s2 := I2.pins_of fun p hp => by
      obtain ⟨hb, e⟩ := pinsAt_mem hp
      obtain ⟨o, e', nc⟩ := T.obj (i + 1) s2.heap tn2 p.1 hb
      rw [e] at e'
      cases e'
      exact ⟨e, fn2 _ hb, (hfx _ hb).1, (hfx _ hb).2.1, nc⟩
    have keepIt : ∀ {σ' : L2.St} {H' : Hp} {s' : Shared}, Inv (gcx X (AG.deeper cenv) s0 H0 cenv fp pn) (pinsAt fp s2.heap) σ' H' s' → tn (i + 1) s'.heap ∧ ∀ b ∈ fp, H' b = none := fun {σ' H' s'} I' => by
      refine ⟨T.keep (i + 1) s2.heap s'.heap tn2 fun b hb o e => (I'.pin (b, o) (List.mem_append_right _ (pinsAt_of hb e))).1, fun b hb => ?_⟩
      obtain ⟨o, e, _⟩ := T.obj (i + 1) s2.heap tn2 b hb
      exact (I'.pin (b, o) (List.mem_append_right _ (pinsAt_of hb e))).2.1
    have unpin : ∀ {σ' : L2.St} {H' : Hp} {s' : Shared}, Inv (gcx X (AG.deeper cenv) s0 H0 cenv fp pn) (pinsAt fp s2.heap) σ' H' s' → Inv (gcx X (AG.deeper cenv) s0 H0 cenv fp pn) [] σ' H' s' := fun {σ' H' s'} I' => I'.pins_of fun p hp => absurd hp (by simp)
    -- the target
    obtain ⟨ρ1, e1, q3⟩ := (Post.bind q2).ofO
    refine seg_bind_wrap ?_
    rw [hov]
    refine wpAny_mono (hg.run (pinsAt fp s2.heap) s2 σ1 H2 x u (fun σ' H' => H' = H2 ∧ SRep K c Hc Gc σ' H2 G2 ρ1 cu ∧ σ'.length = σ1.length ∧ ∀ j : Nat, j ∉ ws → σ'[j]? = σ1[j]?) Ip rv ⟨c, Hc, Gc, G2, _, cu, _, ρ1, r2, rx, e1, fun σ' a b d => ⟨rfl, a, b, d⟩⟩) (fun _ s3 h3 => ?_) fun _ _ z => z.elim
    obtain ⟨σ3, H3, I3, rfl, r3, l3, k3⟩ := h3
    have q3 := q3 H3 G2 Ext.refl w2
    have rw3 : SRep K c Hc Gc σ3 H3 G2 (wipeE ρ vs) cu := srep_ws r2 l3 k3 hw
    -- the tests
    refine seg_bind_wrap ?_
    rw [hov]
    refine wpAny_mono (ht.run (pinsAt fp s2.heap) s3 σ3 H3 (fun b H4 => ∃ G4 cu4, Ext c H3 G2 H4 G4 ∧ Wd K c H4 G4 cu4 ∧ Post K E0 c H4 G4 (if b = true then (ge ρ1 cu4).nox.bind fun y cu3 => (Rs.ofO (dYes y) cu3).bind fun t cu4 => if t = true then gAllL gg gt ge (items.drop (i + 1)) (wipeE ρ vs) cu4 else .ok false cu4 else gAllL gg gt ge (items.drop (i + 1)) (wipeE ρ vs) cu4) QB) I3
      ⟨c, Hc, Gc, G2, ρ1, cu, r3, (Post.nox q3).imp fun b H4 G4 cu4 x4 w4 q4 => ⟨G4, cu4, x4, w4, Post.go x4 q4⟩⟩) (fun b s4 h4 => ?_) fun _ _ z => z.elim
    obtain ⟨H4, I4, G4, cu4, x4, w4, q4⟩ := h4
    cases b with
    | false =>
      simp only [Bool.false_eq_true, if_false] at q4 ⊢
      obtain ⟨tn4, fn4⟩ := keepIt I4
      exact seg_again rfl (ih (i + 1) (n + 1) s₀ s4 σ3 H4 G4 cu4 (by omega) hlt (by omega) (unpin I4) (rw3.go x4 w4) tn4 fn4 (fun b o e => x4.g _ _ (x2.g _ _ (hG b o e))) q4)
    | true =>
      simp only [if_true] at q4 ⊢
      have hy : ∀ v, yieldOut cenv v = yieldValue v := fun v => by simp only [yieldOut, hco, Bool.false_eq_true, if_false]
      simp only [hy]
      rw [Sem.bind_eq_wrap', Sem.bind_eq_wrap', Sem.wrap_wrap, Sem.wrap_wrap]
      refine seg_wrap ?_
      rw [hov]
      refine wpAny_mono (he.run (pinsAt fp s2.heap) s4 σ3 H4 (fun v H5 => ∃ b G5 cu5, v = .bl b ∧ Ext c H4 G4 H5 G5 ∧ Wd K c H5 G5 cu5 ∧ Post K E0 c H5 G5 (if b = true then gAllL gg gt ge (items.drop (i + 1)) (wipeE ρ vs) cu5 else .ok false cu5) QB) I4
        ⟨c, Hc, Gc, G4, ρ1, cu4, r3.go x4 w4, (Post.nox q4).imp fun z H5 G5 cu5 x5 w5 q5 v rz => by
          obtain ⟨b, eb, q6⟩ := (Post.bind q5).ofO
          unfold dYes at eb
          split at eb
          · cases eb
            cases rz
            exact ⟨_, G5, cu5, rfl, x5, w5, q6 H5 G5 x5 w5⟩
          · cases eb⟩) (fun v s5 h5 => ?_) fun _ _ z => z.elim
      obtain ⟨xv, H5, I5, rv5, b, G5, cu5, rfl, x5, w5, q5⟩ := h5
      have ev : v = .bool b := rv5
      subst ev
      obtain ⟨tn5, fn5⟩ := keepIt I5
      refine seg_at (seg_yield rfl rfl rfl ⟨b, rfl, ⟨σ3, H5, unpin I5⟩, fun hb => ?_, fun hb s' wo => ?_⟩)
      · subst hb
        exact ⟨σ3, H5, G5, cu5, unpin I5, q5 H5 G5 Ext.refl w5⟩
      · subst hb
        refine seg_again rfl (ih (i + 1) n s' s' σ3 H5 G5 cu5 (by omega) hlt (by omega) (DL.Inv.woke (unpin I5) wo) ((rw3.go x4 w4).go x5 w5) (T.keep (i + 1) s5.heap s'.heap tn5 fun b _ o e => wo.keep b o e) fn5 (fun b o e => x5.g _ _ (x4.g _ _ (x2.g _ _ (hG b o e)))) q5)
end
end DL

set_option Elab.async false
set_option linter.all false
set_option maxRecDepth 100000
set_option maxHeartbeats 2000000
set_option autoImplicit false
/-! all(elt for ..), the elements calling -/
namespace DL
open PySem PySem.Spec PyProof.Rows L2 GenW
section
variable {X : Cx} {A : Around} {s0 : Shared} {H0 : Hp} {cenv : Env} {fp : List Addr} {pn : List (Addr × Obj)} {QB : Bool → Hp → Hp → Cu → Prop} {R : Result → Shared → Prop} {a : Addr} {g : Nat} {go : Obj}
theorem woke_run {s s' : Shared} {x : GenState} (hb : AllBare s.gens) (hx : x.bare = true) : Woke s ((s.setGen g x).setGen g .running) := ⟨rfl, allBare_setGen (allBare_setGen hb hx) rfl, fun _ _ e => e⟩
theorem drain_all (hh : A.handled = none) (hd : A.depth < recursionLimit) (hgen : ∀ h : Heap, h.get? a = some go → h.IsGen a g) (hpn : (a, go) ∈ pn)
    (hend : ∀ (b : Bool) (s1 s' : Shared), FinB X (A.in1.in1.deeper cenv) s0 H0 cenv fp pn QB b s1 → Woke s1 s' → R (.ok (.ret (.bool b))) s') :
    ∀ (m : Nat) (s : Shared), s.heap.IsGen a g → s.heap.NoLimit →
      (∃ gs, s.gens[g]? = some gs ∧ gs.Goes (model X.prog X.w) A.in1.in1 (RAll X (A.in1.in1.deeper cenv) s0 H0 cenv fp pn QB) (YAll X (A.in1.in1.deeper cenv) s0 H0 cenv fp pn QB) m (.send .none) (s.setGen g .running)) →
      codeAny (model X.prog X.w) A (.builtin "all.loop" ⟨[.ref a], []⟩) R s := by
  have goes : ∀ {gs : GenState} {B : Around} {n : Nat} {r : Resume} {s : Shared}, gs.Goes (model X.prog X.w) B (RAll X (A.in1.in1.deeper cenv) s0 H0 cenv fp pn QB) (YAll X (A.in1.in1.deeper cenv) s0 H0 cenv fp pn QB) n r s →
      gs.Goes (model X.prog X.w) B (fun n s₀ r s1 => ((r = .ok (.ret .none) ∨ r = .ok .next) ∧ FinB X (A.in1.in1.deeper cenv) s0 H0 cenv fp pn QB true s1) ∨ ∃ e, r = .error e ∧ False) (YAll X (A.in1.in1.deeper cenv) s0 H0 cenv fp pn QB) n r s := fun h => h
  have pinned : ∀ {σ' : L2.St} {H' : Hp} {s1 : Shared}, Inv (gcx X (A.in1.in1.deeper cenv) s0 H0 cenv fp pn) [] σ' H' s1 → s1.heap.IsGen a g := fun {σ' H' s1} I => hgen _ (I.pin (a, go) (List.mem_append_left _ hpn)).1
  have bareF : ∀ {b : Bool} {s1 : Shared}, FinB X (A.in1.in1.deeper cenv) s0 H0 cenv fp pn QB b s1 → AllBare s1.gens := fun {b s1} h => let ⟨_, _, _, _, I, _⟩ := h; I.bare
  intro m
  induction m with
  | zero =>
    intro s hg hl ⟨gs, hgs, hgo⟩
    refine codeAny_builtin F.entry_all_loop ?_
    rw [Around.under_plainId F.plain_all_loop _]
    show wpAny _ A.in1 (pyNext (.ref a) >>= _) _ _ s
    refine wpAny_bind (next_genG (A := A.in1) hh hl hd hg hgs (goes hgo) (fun v s₁ gs' hbare hv => ?_) (fun s₁ hp h' hk => ?_) fun e s₁ he => he.elim)
    · obtain ⟨b, rfl, ⟨σ', H', I⟩, hF, hk⟩ := hv
      cases b with
      | true => exact (hk rfl _ (woke_run (s' := s₁) (g := g) I.bare hbare)).elim
      | false =>
        refine wpAny_bind (wpAny_holding (wpAny_truthy_bool ?_))
        refine wpAny_bind (wpAny_letGo ?_)
        simp only [Bool.false_eq_true, if_false]
        exact wpAny_bind (wpAny_rule (wpAny_pure (hend false s₁ (s₁.setGen g gs') (hF rfl) ⟨rfl, allBare_setGen (s := s₁) (g := g) I.bare hbare, fun _ _ e => e⟩)))
    · exact wpAny_bind (wpAny_rule (wpAny_pure (hend true s₁ { s₁.setGen g .finished with heap := h' } hp ⟨rfl, allBare_setGen (s := s₁) (g := g) (bareF hp) rfl, hk⟩)))
  | succ m ih =>
    intro s hg hl ⟨gs, hgs, hgo⟩
    have hgl : g < s.gens.size := (Array.getElem?_eq_some_iff.mp hgs).1
    refine codeAny_builtin F.entry_all_loop ?_
    rw [Around.under_plainId F.plain_all_loop _]
    show wpAny _ A.in1 (pyNext (.ref a) >>= _) _ _ s
    refine wpAny_bind (wpAny_gsz (n := g + 1) hgl (next_genG (A := A.in1) hh hl hd hg hgs (goes hgo) (fun v s₁ gs' hbare hv => ?_) (fun s₁ hp h' hk => ?_) fun e s₁ he => he.elim))
    · intro hsz
      obtain ⟨b, rfl, ⟨σ', H', I⟩, hF, hk⟩ := hv
      cases b with
      | false =>
        refine wpAny_bind (wpAny_holding (wpAny_truthy_bool ?_))
        refine wpAny_bind (wpAny_letGo ?_)
        simp only [Bool.false_eq_true, if_false]
        exact wpAny_bind (wpAny_rule (wpAny_pure (hend false s₁ (s₁.setGen g gs') (hF rfl) ⟨rfl, allBare_setGen (s := s₁) (g := g) I.bare hbare, fun _ _ e => e⟩)))
      | true =>
        have hsz1 : g < s₁.gens.size := by
          have q : (s₁.setGen g gs').gens.size = s₁.gens.size := setGen_size _ _ _
          have hsz' : g + 1 ≤ (s₁.setGen g gs').gens.size := hsz
          omega
        refine wpAny_bind (wpAny_holding (wpAny_truthy_bool ?_))
        refine wpAny_bind (wpAny_letGo ?_)
        simp only [if_true]
        exact wpAny_pure ⟨plainId_quiet F.plain_all_loop _, ih (s₁.setGen g gs') (show s₁.heap.IsGen a g from pinned I) (show s₁.heap.NoLimit from I.nolimit) ⟨gs', setGen_at hsz1, hk rfl _ (woke_run (s' := s₁) (g := g) I.bare hbare)⟩⟩
    · intro hsz
      exact wpAny_bind (wpAny_rule (wpAny_pure (hend true s₁ { s₁.setGen g .finished with heap := h' } hp ⟨rfl, allBare_setGen (s := s₁) (g := g) (bareF hp) rfl, hk⟩)))
end
end DL

set_option Elab.async false
set_option linter.all false
set_option maxRecDepth 100000
set_option maxHeartbeats 2000000
set_option autoImplicit false
/-! a generator expression is made; all(..) of it -/
namespace DL
open PySem PySem.Spec PyProof.Rows L2 GenW
theorem over_loop' {A : Around} {gens : List Comprehension} {elt : Expr} {scope : Scope} {pos : Pos} {it acc : Value} {cenv : Env} : A.over (.compLoop (.GeneratorExp elt gens scope pos) 0 it acc cenv) [] = A.deeper cenv := by
  first
    | rfl
    | (obtain ⟨hd, d, fr, gs, u⟩ := A; simp [Around.over, Around.deeper, marksOver, frameCount, unitsOf, envsOf, guardsOf, pushEnvs, pushGuards, Code.envs, Code.env?, Code.isFrame, Code.guards, Code.isGuard, Code.weight, Code.frames, Code.isCreation, Code.isCaller, Code.cUnits])
theorem over_start' {A : Around} {gens : List Comprehension} {elt : Expr} {scope : Scope} {pos : Pos} {it acc : Value} {cenv : Env} : A.over (.compStart (.GeneratorExp elt gens scope pos) 0 it acc cenv) [] = A.deeper cenv := by
  first
    | rfl
    | (obtain ⟨hd, d, fr, gs, u⟩ := A; simp [Around.over, Around.deeper, marksOver, frameCount, unitsOf, envsOf, guardsOf, pushEnvs, pushGuards, Code.envs, Code.env?, Code.isFrame, Code.guards, Code.isGuard, Code.weight, Code.frames, Code.isCreation, Code.isCaller, Code.cUnits])
section
variable {X : Cx} {pins : List (Addr × Obj)} {σ : L2.St} {H : Hp} {s : Shared}
theorem passX {A : Around} {s : Shared} {H : Hp} {cenv : Env} {fp : List Addr} {pn : List (Addr × Obj)} : Passes (L2.CX (gcx X A s H cenv fp pn).prog (gcx X A s H cenv fp pn).w) (gcx X A s H cenv fp pn) E0 := by
  intro pins σ H s e s' I h
  obtain ⟨_, _, _, _, _, _, _, _, _, _, _, _, z⟩ := h
  exact z.elim
/-- one pin more in the context -/
theorem gx_pinned {A : Around} {s0 s1 : Shared} {H0 H' : Hp} {cenv : Env} {fp : List Addr} {pn : List (Addr × Obj)} (I : Inv (gcx X A s0 H0 cenv fp []) [] σ H' s1)
    (h : ∀ p ∈ pn, s1.heap.get? p.1 = some p.2 ∧ H' p.1 = none ∧ p.1 ≠ cenv.locals ∧ p.1 ∉ frs X.stack ∧ ∀ v, p.2.data ≠ .cell v) : Inv (gcx X A s0 H0 cenv fp pn) [] σ H' s1 :=
  ⟨⟨I.ok.mod, I.ok.kind, I.ok.glob, I.ok.blt, I.ok.above, I.ok.inj, I.ok.has, I.ok.cab, I.ok.hd, I.ok.frames, I.ok.stk, I.ok.exf, I.ok.bs, I.ok.bsz, I.ok.noex, I.ok.exfs, I.ok.funs, I.ok.frf⟩, I.os, I.bare, I.base, I.loc, I.cell, I.free, I.freeC,
    fun p hp => (List.mem_append.mp hp).elim (h p) fun z => absurd z (by simp), I.hok, I.len⟩
/-- behind the run: the outer frame goes on -/
theorem gx_back {A : Around} {s0 s1 : Shared} {H0 H' : Hp} {σ' : L2.St} {cenv : Env} {fp : List Addr} {pn : List (Addr × Obj)} (I0 : Inv X pins σ H0 s0) (hfp : ∀ b ∈ fp, FpOk X pins H0 b) (I : Inv (gcx X A s0 H0 cenv fp pn) [] σ' H' s1) : Inv X pins σ H' s1 :=
  I0.call' (ch := fp) I.os I.base I.hok I.bare fun b hb => let ⟨_, h2, _, h4, h5, h6⟩ := hfp b hb; ⟨h4, h2, h5, h6⟩
/-- the code object of the generator's frame: found or made -/
theorem gx_code {K : Kx} {c P : Addr} {scope : Scope} {gpos : Pos} {Q : Value → Shared → Prop} {E : Value → Shared → Prop} (I : Inv X pins σ H s) (TB : LamX.TabB X.base X.mg c P) (hcode : X.env.code = .ref c) (hmT : (P, X.env.qual ++ "<genexpr>") ∈ K.T) (hu : ∀ p ∈ K.T, p.1 = P → p.2 = X.env.qual ++ "<genexpr>") (hT : LamX.Tabs K.T H)
    (h : ∀ (code : Value) (H1 : Hp) (s1 : Shared), Inv X pins σ H1 s1 → LamX.ExtN H H1 → LamX.Tabs K.T H1 → s.heap.objs.size ≤ s1.heap.objs.size → (∀ b o, b ≠ P → s.heap.get? b = some o → s1.heap.get? b = some o) → (∀ b, b < s.heap.objs.size → H b = none → H1 b = none) → Q code s1) :
    wpAny (model X.prog X.w) X.A (genexprCode X.env gpos (X.env.qual ++ "<genexpr>") scope) Q E s := by
  obtain ⟨ps, hP, htr, hamong⟩ := hT _ hmT
  have hPs : s.heap.get? P = some { cls := .none, data := .fields ps } := I.hok P _ hP
  have cd : PySem.W.CodeHd s.heap c P := TB.code.keeps I.bk
  cases hf : codeAmong gpos ps.toList with
  | none =>
    refine wpAny_genexprCodeX hcode (cd.code hPs htr) (cd.tab hPs) hf fun c' h' tk hx hge hlt hco' hrec htab' _ => ?_
    have nC : H c' = none := I.hok.fresh hge
    obtain ⟨c2, oc, vs2, t2, e2, hoc, hdc, hvc⟩ := hrec
    cases e2
    have J := LamX.inv_table (t' := tk) (c := c') (q := X.env.qual ++ "<genexpr>") (more := #[rawInt gpos.line, rawInt gpos.col, .ref c']) (h' := h') I hP (fun b u hb e => hx b u hb e) htab'.2 hge ⟨oc, vs2, t2, hoc, hdc, hvc⟩
    have hE : LamX.ExtN H (upd (upd H P (.tbl (ps ++ #[rawInt gpos.line, rawInt gpos.col, .ref c']))) c' (LamX.CodeO c' (X.env.qual ++ "<genexpr>"))) := fun b o e n => by
      rw [upd_ne (ne_of_none e nC), upd_ne (fun z => n ps (Option.some.inj (e.symm.trans (by rw [z]; exact hP))))]
      exact e
    have eL : (ps ++ #[rawInt gpos.line, rawInt gpos.col, .ref c']).toList = ps.toList ++ [rawInt gpos.line, rawInt gpos.col, .ref c'] := by simp
    refine h _ _ _ J hE (fun p hp => ?_) (Nat.le_trans hge (Nat.le_of_lt hlt)) (fun b o hb e => hx b o hb e) fun b hb e => ?_
    · by_cases hb : p.1 = P
      · rw [hu p hp hb, hb]
        refine ⟨_, by rw [upd_ne (ne_of_none hP nC), upd_same], by rw [eL]; exact PySem.TriplesOk_snoc _ _ _ _ htr, fun p' cv hcv => ?_⟩
        rw [eL] at hcv
        rcases LamX.among_app _ htr hcv with z | z
        · obtain ⟨c0, e1, e2⟩ := hamong p' cv z
          exact ⟨c0, e1, hE _ _ e2 LamX.codeO_ne⟩
        · exact ⟨c', z, upd_same⟩
      · obtain ⟨ps', a1, a2, a3⟩ := hT p hp
        refine ⟨ps', by rw [upd_ne (ne_of_none a1 nC), upd_ne hb]; exact a1, a2, fun p' cv hcv => ?_⟩
        obtain ⟨c0, e1, e2⟩ := a3 p' cv hcv
        exact ⟨c0, e1, hE _ _ e2 LamX.codeO_ne⟩
    · rw [upd_ne (Nat.ne_of_lt (Nat.lt_of_lt_of_le hb hge)), upd_ne (fun z => by rw [z, hP] at e; cases e)]
      exact e
  | some cv => exact wpAny_genexprCode_hit hcode (cd.code hPs htr) hf (h cv H s I (LamX.ExtN.refl H) hT (Nat.le_refl _) (fun b o _ e => e) fun b _ e => e)
theorem wd_ext {K : Kx} {c : Option Addr} {H1 G : Hp} {cu : Cu} (w : Wd K c H G cu) (eN : LamX.ExtN H H1) (T1 : LamX.Tabs K.T H1) : Ext c H G H1 G ∧ Wd K c H1 G cu := by
  refine ⟨⟨fun b o e n _ => eN b o e n, fun b o e n => ⟨o, eN b o e n, n⟩, fun _ _ e => e, fun _ _ _ _ e => e⟩, fun b o e => eN b o (w.sub _ _ e) fun ps z => w.nt b ps (by rw [← z]; exact e), T1, w.nt, fun a ha => ?_⟩
  obtain ⟨h1, h2⟩ := w.cup a ha
  exact ⟨eN _ _ h1 (fun ps z => by cases z), h2⟩
end
end DL

set_option Elab.async false
set_option linter.all false
set_option maxRecDepth 100000
set_option maxHeartbeats 2000000
set_option autoImplicit false
/-! all(elt for tg in iter if tests), its elements calling: the rule -/
namespace DL
open PySem PySem.Spec PyProof.Rows L2 GenW
def gAllE (gi : GI) (vs : List Nat) (gg : GG) (gt : GT) (ge : GE) : GE := fun ρ cu => (gi ρ cu).bind fun items cu1 => (gAllL gg gt ge items (wipeE ρ vs) cu1).bind fun b cu2 => .ok (.bool b) cu2
/-- the scope of a generator expression -/
def gnB (scope : Scope) : Bool := !scope.isCoroutine && decide (scope.names.lookup (".0" : Str) = some .local) && scope.names.all fun y => !decide (y.2 = .cell)
section
variable {X : Cx} {K : Kx}
/-- the frame of a generator expression, made and not begun: what its consumer finds -/
theorem gx_make {c P : Addr} {tg iter elt : Expr} {ifs : List Expr} {gpos : Pos} {scope : Scope} {own : List (Str × Nat)} {wi : TI} {pins : List (Addr × Obj)} {σ : L2.St} {H : Hp} {s : Shared} {cc : Option Addr} {Hc Gc G : Hp} {ρ : En} {cu : Cu} {Q' : Value → Shared → Prop}
    {RJ : It → Hp → Prop} (hN : X.N.Nodup) (hd : X.A.depth < recursionLimit) (hh : X.A.handled = none) (TB : LamX.TabB X.base X.mg c P) (hcode : X.env.code = .ref c) (hmT : (P, X.env.qual ++ "<genexpr>") ∈ K.T) (hu : ∀ p ∈ K.T, p.1 = P → p.2 = X.env.qual ++ "<genexpr>")
    (hi : PI X tg iter wi) (ok : BlkOk X.N X.env.scope scope own) (S : gnB scope = true) (hs : ∀ x, genFold iter X.env x = pure x) (I : Inv X pins σ H s) (r : SRep K cc Hc Gc σ H G ρ cu) (hwi : wi σ H RJ)
    (hT : ∀ J H1, RJ J H1 → LamX.Tabs K.T H1)
    (hQ : ∀ (it : Addr) (fp : List Addr) (tn : Nat → Heap → Prop) (J : It) (H1 H3 : Hp) (s3 s5 : Shared) (code : Value) (a : Addr) (go : Obj), RJ J H1 → LamX.ExtN H1 H3 → LamX.Tabs K.T H3 → Inv X pins σ H3 s3 → (∀ b ∈ fp, FpOk X pins H3 b) → Turn X.prog X.w X.K tg J fp it tn → tn 0 s5.heap →
      Inv (gcx X (X.A.in1.in1.deeper (gEnv X scope s3.heap.objs.size code)) s3 H3 (gEnv X scope s3.heap.objs.size code) fp [(a, go)]) [] (wipe σ (own.map (·.2))) H3 s5 →
      (∀ h : Heap, h.get? a = some go → h.IsGen a s3.gens.size) → s5.heap.get? a = some go → s5.gens[s3.gens.size]? = some (.fresh (.compStart (.GeneratorExp elt [⟨tg, iter, ifs, 0⟩] scope gpos) 0 (.ref it) .none (gEnv X scope s3.heap.objs.size code))) →
      (∀ b ∈ fp, b ≠ s3.heap.objs.size ∧ b ∉ frs X.stack ∧ (∀ x c, (gEnv X scope s3.heap.objs.size code).cells.lookup x = some c → c ≠ b) ∧ ∀ p ∈ [(a, go)], p.1 ≠ b) → Q' (.ref a) s5) :
    wpAny (model X.prog X.w) X.A (eval (.GeneratorExp elt [⟨tg, iter, ifs, 0⟩] scope gpos) X.env) Q' X.xe s := by
  unfold gnB at S
  simp only [Bool.and_eq_true, Bool.not_eq_true', decide_eq_true_eq, List.all_eq_true, decide_eq_false_iff_not] at S
  obtain ⟨⟨hco, h0⟩, hcell⟩ := S
  have hfree : ∀ y ∈ scope.names, y.2 = .free → ∃ c, X.env.cells.lookup y.1 = some c := fun y hy e => by
    rcases ok.free y hy e with k | k
    · exact I.ok.has _ (.inl k)
    · exact I.ok.has _ (.inr k)
  refine wpAny_GeneratorExp_make hco (closure_ok hfree) hcell h0 ok.kind hd ?_ hs
  refine wpAny_mono (hi.run pins s σ H RJ I hwi) (fun xv s1 h1 => ?_) fun _ _ e => e
  refine wpAny_mono h1 (fun itv s2 h2 => ?_) fun _ _ e => e
  obtain ⟨it, fp, tn, J, H1, rfl, I1, T, tn0, hfp, hR⟩ := h2
  refine ⟨I1.nolimit, gx_code I1 TB hcode hmT hu (hT J H1 hR) fun code H3 s3 I3 eN T3 hsz hkp hnn => ?_⟩
  obtain ⟨bm, ob, e1, e2, e3, e4, e5, e6, e7, e8⟩ := TB.bm
  refine wpAny_builtinsFor (m := X.mg) (by rw [I.ok.glob]; exact I3.mod.glob.keeps I3.bk) e1 e2 (I3.bk _ _ e5) e6 e7 e8 ?_
  intro h' hns hsb
  obtain ⟨ps, hP, _, _⟩ := hT J H1 hR _ hmT
  have flt : ∀ b ∈ fp, b < s2.heap.objs.size := fun b hb => let ⟨_, e, _⟩ := T.obj 0 s2.heap tn0 b hb; Heap.lt_size e
  have fneP : ∀ b ∈ fp, b ≠ P := fun b hb z => by
    have := (hfp b hb).1
    rw [z, hP] at this; cases this
  have hfp3 : ∀ b ∈ fp, FpOk X pins H3 b := fun b hb => ⟨hnn b (flt b hb) (hfp b hb).1, (hfp b hb).2⟩
  have kp0 : ∀ b o, s3.heap.get? b = some o → h'.get? b = some o := fun b o e => hsb.extBut b o (Nat.ne_of_lt (Heap.lt_size e)) (Heap.get?_push_of_some _ e)
  have szlt : s3.heap.objs.size < h'.objs.size := hns.lt
  generalize hgo : ({ cls := .type "generator", data := .fields #[.int s3.gens.size 0, .str "<genexpr>" (s3.toks + 1), .str (X.env.qual ++ "<genexpr>") (s3.toks + 1 + 1)] } : Obj) = go
  have kp : ∀ b o, s3.heap.get? b = some o → (h'.push go).get? b = some o := fun b o e => Heap.get?_push_of_some _ (kp0 b o e)
  have hAG : (X.A.in1.in1.deeper (gEnv X scope s3.heap.objs.size code)).handled = none := hh
  have I5 := gx_start (A := X.A.in1.in1.deeper (gEnv X scope s3.heap.objs.size code)) (own := own) (fp := fp) (code := code) (h' := h'.push go) (g' := s3.gens.push (.fresh (.compStart (.GeneratorExp elt [⟨tg, iter, ifs, 0⟩] scope gpos) 0 (.ref it) .none (gEnv X scope s3.heap.objs.size code))))
    (tk := s3.toks + 1 + 1 + 1) I3 ok hN hcell hAG (Around.frames_deeper (A := X.A.in1.in1) I.ok.frames) (fun b hb => ⟨hfp3 b hb, Nat.lt_of_lt_of_le (flt b hb) hsz⟩) (hns.keeps fun b o e => Heap.get?_push_of_some _ e) kp (I3.bare.push rfl)
  have hget : (h'.push go).get? h'.objs.size = some go := Heap.get?_push_size _ (by rw [← hgo]; rfl)
  have hgd : ∀ v, go.data ≠ .cell v := fun v z => by rw [← hgo] at z; cases z
  have hfresh : H3 h'.objs.size = none := I3.hok.fresh (Nat.le_of_lt szlt)
  have I5p := gx_pinned (pn := [(h'.objs.size, go)]) I5 fun p hp => by
    rw [List.mem_singleton.mp hp]
    refine ⟨hget, hfresh, Nat.ne_of_gt szlt, fun z => ?_, hgd⟩
    rcases List.mem_cons.mp (I3.stkSub _ z) with z | z
    · have h1 := I3.lt
      rw [← z] at h1
      exact Nat.lt_irrefl _ (Nat.lt_trans h1 szlt)
    · exact I3.nofs (Nat.le_of_lt szlt) z
  refine hQ it fp tn J H1 H3 s3 _ code h'.objs.size go hR eN T3 I3 hfp3 T (T.keep 0 s2.heap _ tn0 fun b hb o e => kp b o (hkp b o (fneP b hb) e)) I5p (fun h e => ?_) hget (Array.getElem?_push_size ..) fun b hb => ⟨Nat.ne_of_lt (Nat.lt_of_lt_of_le (flt b hb) hsz), I5.ok.exfs b hb, (I5.ok.exf b hb).2, fun p hp => ?_⟩
  · exact ⟨go, _, _, e, by rw [← hgo], by rw [← hgo], by rw [← hgo]⟩
  · rw [List.mem_singleton.mp hp]
    exact Nat.ne_of_gt (Nat.lt_trans (Nat.lt_of_lt_of_le (flt b hb) hsz) szlt)
end
end DL

set_option Elab.async false
set_option linter.all false
set_option maxRecDepth 100000
set_option maxHeartbeats 2000000
set_option autoImplicit false
/-! all(elt for tg in iter if tests), its elements calling: the rule -/
namespace DL
open PySem PySem.Spec PyProof.Rows L2 GenW
theorem post_nox {K : Kx} {E : XK} {c : Option Addr} {H G : Hp} {α : Type} {r : Rs α} {Q : α → Hp → Hp → Cu → Prop} (h : Post K E c H G r.nox Q) : Post K E0 c H G r Q := by
  cases r with
  | stuck => exact h
  | exc k cu => exact h.elim
  | ok a cu => exact h
theorem room_gx {k : Nat} {A : Around} {env : Env} (r : Room (k + 2) A) : Room k (A.in1.in1.deeper env) := by
  obtain ⟨h1, h2, h3⟩ := r
  exact ⟨h1, by show A.depth + 1 + 3 * k + 5 < _; omega, by show A.units + 1 + 1 + 3 + 16 * k + 200 < _; omega⟩
section
variable {X : Cx} {K : Kx}
theorem pe_gAll {c P : Addr} {tg iter elt : Expr} {ifs : List Expr} {p pos gpos : Pos} {scope : Scope} {own : List (Str × Nat)} {wi : TI} {gi : GI} {gg : GG} {gt : GT} {ge : GE} {ws : List Nat} {k : Nat}
    (hN : X.N.Nodup) (hr : Room (k + 2) X.A) (hgl : Gl X "all") (hm : X.mg "all" = none) (TB : LamX.TabB X.base X.mg c P) (hcode : X.env.code = .ref c) (hmT : (P, X.env.qual ++ "<genexpr>") ∈ K.T) (hu : ∀ p ∈ K.T, p.1 = P → p.2 = X.env.qual ++ "<genexpr>")
    (hi : PID X K E0 tg iter wi gi) (ok : BlkOk X.N X.env.scope scope own) (S : gnB scope = true)
    (hg : ∀ (A : Around) (s : Shared) (H : Hp) (C : Addr) (code : Value) (fp : List Addr) (pn : List (Addr × Obj)), ∃ t1, PGD (gcx X A s H (gEnv X scope C code) fp pn) K tg t1 gg ws)
    (ht : ∀ (A : Around) (s : Shared) (H : Hp) (C : Addr) (code : Value) (fp : List Addr) (pn : List (Addr × Obj)), Room k A → ∃ tt, PTsD (gcx X A s H (gEnv X scope C code) fp pn) K E0 ifs tt gt)
    (he : ∀ (A : Around) (s : Shared) (H : Hp) (C : Addr) (code : Value) (fp : List Addr) (pn : List (Addr × Obj)), Room k A → ∃ te, PD (gcx X A s H (gEnv X scope C code) fp pn) K E0 elt te ge)
    (hw : ∀ j ∈ ws, j ∈ own.map (·.2)) (hs : ∀ x, genFold iter X.env x = pure x)
    (hst : starEach [.GeneratorExp elt [⟨tg, iter, ifs, 0⟩] scope gpos] X.env = (false, eval (.GeneratorExp elt [⟨tg, iter, ifs, 0⟩] scope gpos) X.env) :: starEach [] X.env) :
    PE X (.Call (.Name "all" p) [.GeneratorExp elt [⟨tg, iter, ifs, 0⟩] scope gpos] [] pos) (tOf K E0 (gAllE gi (own.map (·.2)) gg gt ge)) := by
  refine ⟨fun pins s σ H Q I h => ?_⟩
  obtain ⟨cc, Hc, Gc, G, ρ, cu, r, q⟩ := h
  have hwi : wi σ H (fun J H1 => ∃ items G1 cu1, Wk K J G1 items ∧ Ext cc H G H1 G1 ∧ Wd K cc H1 G1 cu1 ∧ Post K E0 cc H1 G1 (gAllL gg gt ge items (wipeE ρ (own.map (·.2))) cu1) (fun b H' _ _ => Q (.bl b) H')) :=
    hi.sem cc Hc Gc σ H G ρ cu _ r ((Post.bind q).imp fun items H1 G1 cu1 x1 w1 q2 J wk => ⟨items, G1, cu1, wk, x1, w1, (Post.bind q2).imp fun b H' G' cu' x w h => h H' G' Ext.refl w (.bl b) (.bl b)⟩)
  have hroom : X.A.depth < recursionLimit := by have := hr.dp; omega
  refine wpAny_Call_Name_kw (ld_blt I hgl hm bb_all ?_)
  refine PyProof.Rows.callWith_builtin1 ?_ hst (by rfl)
  rw [hst]
  show wpAny _ _ (spliced ((false, eval (.GeneratorExp elt [⟨tg, iter, ifs, 0⟩] scope gpos) X.env) :: backTo pos (starEach [] X.env))) _ _ s
  refine Calls.spliced_cons (gx_make hN hroom hr.hd TB hcode hmT hu hi.pi ok S hs I r hwi (fun J H1 hR => let ⟨_, _, _, _, _, w, _⟩ := hR; w.tab) fun it fp tn J H1 H3 s3 s5 code a go hR eN T3 I3 hfp3 T tn5 I5 hgen hget hgs hfx => ?_)
  obtain ⟨items, G1, cu1, wk, x1, w1, q1⟩ := hR
  refine Calls.spliced_nil ?_
  obtain ⟨x3, w3⟩ := wd_ext w1 eN T3
  have r1 : SRep K cc Hc Gc (wipe σ (own.map (·.2))) H1 G1 (wipeE ρ (own.map (·.2))) cu1 := ⟨w1, r.ext.trans x1, (r.go x1 w1).rep.wipe (own.map (·.2))⟩
  have r3 := r1.go x3 w3
  obtain ⟨t1, hg1⟩ := hg (X.A.in1.in1.deeper (gEnv X scope s3.heap.objs.size code)) s3 H3 s3.heap.objs.size code fp [(a, go)]
  obtain ⟨tt, ht1⟩ := ht (X.A.in1.in1.deeper (gEnv X scope s3.heap.objs.size code)) s3 H3 s3.heap.objs.size code fp [(a, go)] (room_gx hr)
  obtain ⟨te, he1⟩ := he (X.A.in1.in1.deeper (gEnv X scope s3.heap.objs.size code)) s3 H3 s3.heap.objs.size code fp [(a, go)] (room_gx hr)
  have hco : (gEnv X scope s3.heap.objs.size code).scope.isCoroutine = false := by
    unfold gnB at S
    simp only [Bool.and_eq_true, Bool.not_eq_true'] at S
    exact S.1.1
  have loop := seg_allL (AG := X.A.in1.in1) (ρ := ρ) (iter := iter) (scope := scope) (pos := gpos) (c := cc) (Hc := Hc) (Gc := Gc) (QB := fun b H' _ _ => Q (.bl b) H') hco over_loop' T hfx wk hg1.canon ht1.canon he1.canon hw
  have hsz5 : s5.heap.IsGen a s3.gens.size := hgen _ hget
  refine call_function_tree F.kind_all F.plain_all F.entry_all (F.args_all1 _) ?_
  unfold Builtin.«all»
  refine wpAny_bind (m := oneArg "all" _) (wpAny_pure ?_)
  refine wpAny_bind (wpAny_pyIter_gen hsz5 ?_)
  refine wpAny_pure ⟨plainId_quiet F.plain_all_loop _, ?_⟩
  refine drain_all (QB := fun b H' _ _ => Q (.bl b) H') (cenv := gEnv X scope s3.heap.objs.size code) (fp := fp) (pn := [(a, go)]) (s0 := s3) (H0 := H3) hr.hd hroom hgen (List.mem_singleton.mpr rfl) (fun b s1 s' hF wo => ?_) items.length s5 hsz5 I5.nolimit ⟨_, hgs, rfl, ?_⟩
  · obtain ⟨σ', Hf, Gf, cuf, If, qf⟩ := hF
    exact ⟨.bl b, Hf, DL.Inv.woke (gx_back I3 hfp3 If) wo, rfl, qf⟩
  · have I6 : Inv (gcx X (X.A.in1.in1.deeper (gEnv X scope s3.heap.objs.size code)) s3 H3 (gEnv X scope s3.heap.objs.size code) fp [(a, go)]) [] (wipe σ (own.map (·.2))) H3 (s5.setGen s3.gens.size .running) :=
      DL.Inv.woke I5 ⟨rfl, allBare_setGen I5.bare rfl, fun _ _ e => e⟩
    have hfn : ∀ b ∈ fp, H3 b = none := fun b hb => (hfp3 b hb).1
    have lp := fun s₀ => loop items.length 0 items.length s₀ (s5.setGen s3.gens.size .running) _ H3 G1 cu1 (Nat.sub_zero _) (Nat.zero_le _) (Nat.le_refl _) I6 r3 tn5 hfn (fun b o e => e) (by rw [List.drop_zero]; exact Post.go x3 q1)
    show Seg _ X.A.in1.in1 _ _ _ _ _ ((compStart (.GeneratorExp elt [⟨tg, iter, ifs, 0⟩] scope gpos) 0 (.ref it) .none (gEnv X scope s3.heap.objs.size code)).onRaise (leaving (gEnv X scope s3.heap.objs.size code))) [] _
    unfold compStart
    rw [Sem.onRaise_eq_wrap]
    show Seg _ X.A.in1.in1 _ _ _ _ _ ((ask >>= _).wrap _ _ _ _) [] _
    refine seg_bind_wrap (wpAny_askSetting ?_)
    split
    · exact seg_again rfl (lp _)
    · first
        | exact seg_bind_wrap (wpAny_rule (seg_bind_wrap (wpAny_standAt (seg_bind_wrap (T.self _ 0 _ _ _ tn5 (seg_again rfl (lp _)))))))
        | (refine seg_bind_wrap (wpAny_rule ?_); show Seg _ X.A.in1.in1 _ _ _ _ _ ((standAt iter.pos >>= _).wrap _ _ _ _) [] _; exact seg_bind_wrap (wpAny_standAt (seg_bind_wrap (T.self _ 0 _ _ _ tn5 (seg_again rfl (lp _))))))
def gAllN (gi : GI) (vs : List Nat) (gg : GG) (gt : GT) (ge : GE) : GE := fun ρ cu => (gAllE gi vs gg gt ge ρ cu).nox
/-- all(elt for tg in iter if tests) -/
theorem pd_gAll {E : XK} {c P : Addr} {tg iter elt : Expr} {ifs : List Expr} {p pos gpos : Pos} {scope : Scope} {own : List (Str × Nat)} {wi : TI} {gi : GI} {gg : GG} {gt : GT} {ge : GE} {ws : List Nat} {k : Nat}
    (hN : X.N.Nodup) (hr : Room (k + 2) X.A) (hgl : Gl X "all") (hm : X.mg "all" = none) (TB : LamX.TabB X.base X.mg c P) (hcode : X.env.code = .ref c) (hmT : (P, X.env.qual ++ "<genexpr>") ∈ K.T) (hu : ∀ p ∈ K.T, p.1 = P → p.2 = X.env.qual ++ "<genexpr>")
    (hi : PID X K E0 tg iter wi gi) (ok : BlkOk X.N X.env.scope scope own) (S : gnB scope = true)
    (hg : ∀ (A : Around) (s : Shared) (H : Hp) (C : Addr) (code : Value) (fp : List Addr) (pn : List (Addr × Obj)), ∃ t1, PGD (gcx X A s H (gEnv X scope C code) fp pn) K tg t1 gg ws)
    (ht : ∀ (A : Around) (s : Shared) (H : Hp) (C : Addr) (code : Value) (fp : List Addr) (pn : List (Addr × Obj)), Room k A → ∃ tt, PTsD (gcx X A s H (gEnv X scope C code) fp pn) K E0 ifs tt gt)
    (he : ∀ (A : Around) (s : Shared) (H : Hp) (C : Addr) (code : Value) (fp : List Addr) (pn : List (Addr × Obj)), Room k A → ∃ te, PD (gcx X A s H (gEnv X scope C code) fp pn) K E0 elt te ge)
    (hw : ∀ j ∈ ws, j ∈ own.map (·.2) := by decide) (hs : ∀ x, genFold iter X.env x = pure x := by intro _; rfl)
    (hst : starEach [.GeneratorExp elt [⟨tg, iter, ifs, 0⟩] scope gpos] X.env = (false, eval (.GeneratorExp elt [⟨tg, iter, ifs, 0⟩] scope gpos) X.env) :: starEach [] X.env := by rfl) :
    PD X K E (.Call (.Name "all" p) [.GeneratorExp elt [⟨tg, iter, ifs, 0⟩] scope gpos] [] pos) (tOf K E0 (gAllE gi (own.map (·.2)) gg gt ge)) (gAllN gi (own.map (·.2)) gg gt ge) :=
  ⟨pe_gAll hN hr hgl hm TB hcode hmT hu hi ok S hg ht he hw hs hst, fun c H0 G0 σ H G ρ cu Q s q => ⟨c, H0, G0, G, ρ, cu, s, post_nox q⟩⟩
end
end DL

set_option Elab.async false
set_option linter.all false
set_option maxRecDepth 100000
set_option maxHeartbeats 2000000
set_option autoImplicit false
/-! i & 1, i >>= 1, gcd -/
namespace DL
open PySem PySem.Spec PyProof.Rows L2
section
variable {X : Cx} {K : Kx}
def rAndM : R2 := fun x y H Q => ∃ (i : Int) (k : Nat), x = .int i ∧ y = .int (2 ^ k - 1) ∧ Q (.int (i % 2 ^ k)) H
theorem op_and1 : OpR X (binaryOp .BitAnd) rAndM := op_andM
def dAnd1 : PyData → PyData → Option PyData
  | .int i, .int j => if j = 1 then some (.int (i % 2)) else none
  | _, _ => none
theorem opD_and1 : OpD K rAndM dAnd1 := by
  intro c H G cu v w d e z Q wd r1 r2 hz q
  unfold dAnd1 at hz
  split at hz
  · rename_i i j
    split at hz
    · rename_i hj
      cases hz
      subst hj
      rw [r1.int_of, r2.int_of]
      exact ⟨i, 1, rfl, rfl, q _ H G Ext.refl wd (.int _)⟩
    · cases hz
  · cases hz
def rHalf : TIp := fun x y H Q => ∃ i : Int, x = .int i ∧ y = .int 1 ∧ Q (.int (i / 2)) H
theorem ip_half : PIp X .RShift rHalf := iop_halfI
def dHalf : PyData → PyData → Option PyData
  | .int i, .int j => if j = 1 then some (.int (i / 2)) else none
  | _, _ => none
theorem opD_half : OpD K rHalf dHalf := by
  intro c H G cu v w d e z Q wd r1 r2 hz q
  unfold dHalf at hz
  split at hz
  · rename_i i j
    split at hz
    · rename_i hj
      cases hz
      subst hj
      rw [r1.int_of, r2.int_of]
      exact ⟨i, rfl, rfl, q _ H G Ext.refl wd (.int _)⟩
    · cases hz
  · cases hz
def dGcd : List PyData → Option PyData
  | [.int a, .int b] => some (.int ((Int.gcd a b : Nat) : Int))
  | _ => none
theorem callD_gcd : CallD K rGcd dGcd := by
  intro c H G cu vs ds z Q wd r hz q
  unfold dGcd at hz
  split at hz
  · rename_i a b
    cases hz
    cases r with
    | cons h r =>
      obtain ⟨v, rfl, rv⟩ := r.one
      rw [h.int_of, rv.int_of]
      exact ⟨a, b, rfl, q _ H G Ext.refl wd (.int _)⟩
  · cases hz
theorem dAnd1_int {i : Int} : dAnd1 (.int i) (.int 1) = some (.int (i % 2)) := rfl
theorem dHalf_int {i : Int} : dHalf (.int i) (.int 1) = some (.int (i / 2)) := rfl
theorem dGcd_int {a b : Int} : dGcd [.int a, .int b] = some (.int ((Int.gcd a b : Nat) : Int)) := rfl
end
end DL

set_option Elab.async false
set_option linter.all false
set_option maxRecDepth 100000
set_option autoImplicit false
/-! what a law never reaches: an expression, a test or a row whose reckoning is stuck asks for no derivation -/
namespace DL
open PySem PySem.Spec PyProof.Rows L2
def stkE : GE := fun _ _ => .stuck
def stkT : GT := fun _ _ => .stuck
def stkS : GS := fun _ _ => .stuck
def noE : TE := fun _ _ _ => False
def noT : TT := fun _ _ _ => False
def noS : TS := fun _ _ _ => False
section
variable {X : Cx} {K : Kx} {E : XK}
theorem pd_stk {e : Expr} : PD X K E e noE stkE := ⟨⟨fun _ _ _ _ _ _ h => h.elim⟩, fun _ _ _ _ _ _ _ _ _ _ h => h⟩
theorem ptd_stk {e : Expr} : PTD X K E e noT stkT := ⟨⟨fun _ _ _ _ _ _ h => h.elim⟩, fun _ _ _ _ _ _ _ _ _ _ h => h⟩
theorem psd_stk {st : Stmt} : PSD X K E st noS stkS := ⟨⟨fun _ _ _ _ _ _ h => h.elim⟩, fun _ _ _ _ _ _ _ _ _ _ h => h⟩
theorem pssd_stk {st : List Stmt} : PSsD X K E st noS stkS := ⟨⟨fun _ _ _ _ _ _ h => h.elim⟩, fun _ _ _ _ _ _ _ _ _ _ h => h⟩
end
end DL

set_option Elab.async false
set_option linter.all false
set_option maxRecDepth 100000
set_option autoImplicit false
/-! a list of one's own: an item stored, read, changed -/
namespace DL
open PySem PySem.Spec PyProof.Rows L2
theorem RpL.set {K : Kx} {G : Hp} {v : V} {d : PyData} (h : Rp K G v d) : ∀ {vs : List V} {ds : List PyData} (j : Nat), RpL K G vs ds → RpL K G (vs.set j v) (ds.set j d)
  | _, _, _, .nil => .nil
  | _, _, 0, .cons _ r => .cons h r
  | _, _, j + 1, .cons a r => .cons a (RpL.set h j r)
section
variable {K : Kx} {X : Cx} {E : XK} {e ie b : Expr} {te ti tb : TE} {ge gi gb : GE} {pos : Pos}
/-- another list at the place of one's own -/
theorem SRep.updO {c : Option Addr} {H0 G0 H G H1 G1 : Hp} {σ : L2.St} {ρ : En} {cu cu1 : Cu} {i : Nat} {xs ys : List PyData} {ws : List V} {p : Addr} (s : SRep K c H0 G0 σ H G ρ cu) (x : Ext c H G H1 G1) (w : Wd K c H1 G1 cu1)
    (e : ρ[i]? = some (.own xs)) (ep : σ[i]? = some (some (V.ref p))) (r : RpL K G1 ws ys) : SRep K c H0 G0 σ (upd H1 p (.lst ws)) G1 (ρ.set i (.own ys)) cu1 := by
  obtain ⟨A, h1, h2⟩ := s.rep.own
  obtain ⟨e1, ⟨vs, e2, e3⟩, e4, e5, e6⟩ := h1 i xs e
  have hp : A i = p := by
    rw [e1] at ep
    injection ep with ep
    injection ep with ep
    injection ep
  subst hp
  have a1 := x.h _ _ e2 nt_lst e6
  have g1 : G1 (A i) = none := x.n _ _ e2 nt_lst e4
  have s1 := (s.go x w).rep
  refine ⟨w.updL a1 g1 e6, (s.ext.trans x).updL e5, ?_⟩
  have ne : ∀ (j : Nat) (t : Sl), (ρ.set i (.own ys))[j]? = some t → j ≠ i → ρ[j]? = some t := fun j t e hj => by rw [List.getElem?_set_ne (Ne.symm hj)] at e; exact e
  have at_ : ∀ (t : Sl), (ρ.set i (.own ys))[i]? = some t → t = .own ys := fun t e => by
    by_cases hi : i < ρ.length
    · rw [List.getElem?_set_self hi] at e; cases e; rfl
    · rw [List.getElem?_eq_none (by simpa using hi)] at e; cases e
  refine ⟨by rw [List.length_set]; exact s.rep.len, fun j d' e => ?_, fun j e => ?_, A, fun j es e => ?_, fun j k es fs q1 q2 hjk => ?_⟩
  · by_cases hj : j = i
    · subst hj; cases at_ _ e
    · exact s1.dat j d' (ne j _ e hj)
  · by_cases hj : j = i
    · subst hj; cases at_ _ e
    · exact s1.cup j (ne j _ e hj)
  · by_cases hj : j = i
    · subst hj
      cases at_ _ e
      exact ⟨e1, ⟨_, upd_same, r⟩, g1, e5, e6⟩
    · have e0 := ne j _ e hj
      obtain ⟨q1, ⟨zs, q2, q3⟩, q4, q5, q6⟩ := h1 j es e0
      have nij : A j ≠ A i := h2 j i es xs e0 (by assumption) hj
      exact ⟨q1, ⟨zs, by rw [upd_ne nij]; exact x.h _ _ q2 nt_lst q6, q3.mono x.g⟩, x.n _ _ q2 nt_lst q4, q5, q6⟩
  · by_cases hj : j = i
    · subst hj
      have hk : k ≠ j := fun z => hjk z.symm
      exact h2 j k xs fs (by assumption) (ne k _ q2 hk) hjk
    · by_cases hk : k = i
      · subst hk; exact h2 j k es xs (ne j _ q1 hj) (by assumption) hjk
      · exact h2 j k es fs (ne j _ q1 hj) (ne k _ q2 hk) hjk
/-- the list with an item stored -/
def ixO (xs : List PyData) (k d : PyData) : Option (List PyData) :=
  match k with
  | .int k => (ixN xs.length k).map fun j => xs.set j d
  | _ => none
theorem ixO_of {xs ys : List PyData} {k d : PyData} (h : ixO xs k d = some ys) : ∃ (z : Int) (j : Nat), k = .int z ∧ ixN xs.length z = some j ∧ ys = xs.set j d := by
  cases k with
  | int z =>
    have h : (ixN xs.length z).map (fun j => xs.set j d) = some ys := h
    cases hj : ixN xs.length z with
    | none => rw [hj] at h; cases h
    | some j => rw [hj] at h; cases h; exact ⟨z, j, rfl, hj, rfl⟩
  | _ => cases h
/-- x[ie] = e -/
def gStO (i : Nat) (ge gi : GE) : GS := fun ρ cu => match ρ[i]? with
  | some (.own xs) => (ge ρ cu).bind fun d cu1 => (gi ρ cu1).bind fun k cu2 => (Rs.ofO (ixO xs k d) cu2).bind fun ys cu3 => .ok (.nx (ρ.set i (.own ys))) cu3
  | _ => .stuck
theorem psd_stO {i : Nat} {x : Str} {p tpos : Pos} (h : PE X (.Name x p) (tVar i)) (he : PD X K E e te ge) (hi : PD X K E ie ti gi)
    (hs : swapsWithSole [.Subscript (.Name x p) ie tpos] e pos.line X.env = pure false := by rfl) (hw : swappedStores [.Subscript (.Name x p) ie tpos] e X.env = pure none := by rfl)
    (h1 : (assignEach [.Subscript (.Name x p) ie tpos] X.env).map (·.2) = [assign (.Subscript (.Name x p) ie tpos) X.env] := by rfl)
    (ha : ∀ v, assign (.Subscript (.Name x p) ie tpos) X.env v = (do
      let ov ← holding [v] (eval (.Name x p) X.env)
      let iv ← holding [v, ov] (eval ie X.env)
      standAt tpos
      holding [v, ov, iv] (setItem ov iv v)
      release [v, ov, iv] []) := by intro _; rfl) :
    PSD X K E (.Assign [.Subscript (.Name x p) ie tpos] e pos) (tAsg te (gSub (tVar i) ti rSetL)) (gStO i ge gi) := by
  refine ⟨ps_asg he.pe (pg_sub h hi.pe set_list ha) hs hw h1, fun c H0 G0 σ H G ρ cu D s q => ?_⟩
  unfold gStO at q
  split at q
  · rename_i xs eo
    obtain ⟨A, k1, k2⟩ := s.rep.own
    obtain ⟨e1, ⟨vs, e2, e3⟩, e4, e5, e6⟩ := k1 i xs eo
    refine he.sem c H0 G0 σ H G ρ cu _ s ((q.exp s).imp fun d H1 G1 cu1 x1 w1 q1 v rv => ?_)
    refine ⟨_, e1, ?_⟩
    refine hi.sem c H0 G0 σ H1 G1 ρ cu1 _ (s.go x1 w1) ((q1.exp (s.go x1 w1)).imp fun k H2 G2 cu2 x2 w2 q2 kv rk => ?_)
    obtain ⟨ys, ey, q3⟩ := PostS.ofO q2
    obtain ⟨z, j, rfl, hj, rfl⟩ := ixO_of ey
    have a2 := (x1.trans x2).h _ _ e2 nt_lst e6
    exact ⟨A i, vs, z, j, rfl, rk.int_of, a2, by rw [e3.length]; exact hj, q3 σ _ G2 (s.updO (x1.trans x2) w2 eo e1 (RpL.set (rv.mono x2.g) j (e3.mono (x1.trans x2).g)))⟩
  · exact q.elim
/-- x[ie] of a list of one's own -/
def gIxO (i : Nat) (gb : GE) : GE := fun ρ cu => match ρ[i]? with
  | some (.own xs) => (gb ρ cu).bind fun k cu1 => .ofO (dIx (.list xs) k) cu1
  | _ => .stuck
theorem pd_ixO {i : Nat} {x : Str} {p : Pos} (h : PE X (.Name x p) (tVar i)) (hb : PD X K E b tb gb) (hs : PlainIx b) : PD X K E (.Subscript (.Name x p) b pos) (tOp (rIxD X.K) (tVar i) tb) (gIxO i gb) := by
  refine ⟨pe_ix ixR_D h hb.pe hs, fun c H0 G0 σ H G ρ cu Q s q => ?_⟩
  unfold gIxO at q
  split at q
  · rename_i xs eo
    obtain ⟨A, k1, k2⟩ := s.rep.own
    obtain ⟨e1, ⟨vs, e2, e3⟩, e4, e5, e6⟩ := k1 i xs eo
    refine ⟨_, e1, ?_⟩
    refine hb.sem c H0 G0 σ H G ρ cu _ s (q.bind.imp fun k H1 G1 cu1 x1 w1 q1 kv rk => ?_)
    obtain ⟨d, ed, q2⟩ := q1.ofO
    have a1 := x1.h _ _ e2 nt_lst e6
    cases k with
    | int z =>
      obtain ⟨y, ey, ry⟩ := atI_rp (e3.mono x1.g) (show atI xs z = some d from ed)
      exact .inr ⟨A i, vs, z, y, rfl, rk.int_of, SqL.of a1, ey, q2 H1 G1 Ext.refl w1 y ry⟩
    | _ => cases ed
  · exact q.elim
theorem get_list : PGet X (rIxL X.K) := by
  intro pins s σ H x y v u Q I rx ry h
  obtain ⟨p, xs, i, z, rfl, rfl, hq, he, q⟩ := h
  cases rx
  obtain ⟨t, rfl⟩ := ry
  obtain ⟨its, r, pl, hz⟩ := I.list hq
  obtain ⟨j, h1, h2, h3, h4, h5⟩ := atI_get he
  obtain ⟨w, ew, rw'⟩ := r.get h2
  have hl := r.length
  have hn := line63
  have fin : EP X pins σ Q w s := ⟨z, H, I, rw', q⟩
  by_cases h0 : 0 ≤ i
  · have hj : i.toNat = j := by
      rw [seqIndex_of h0 h5] at h1
      exact Option.some.inj h1
    exact wpAny_getItem_list pl.isList h0 (by omega) (by rw [hj]; simpa using ew) fin
  · have hj : (i + (its.toArray.size : Int)).toNat = j := by
      rw [seqIndex_neg (by omega) h4] at h1
      rw [List.size_toArray, ← hl]
      exact Option.some.inj h1
    exact wpAny_getItem_list_neg pl.isList (by omega) (by rw [List.size_toArray] <;> omega) (by omega) (by rw [hj]; simpa using ew) fin
/-- x[ie] op= e -/
def gAugO (i : Nat) (f : PyData → PyData → Option PyData) (gi ge : GE) : GS := fun ρ cu => match ρ[i]? with
  | some (.own xs) => (gi ρ cu).bind fun k cu1 => (Rs.ofO (dIx (.list xs) k) cu1).bind fun a cu2 => (ge ρ cu2).bind fun b cu3 => (Rs.ofO (f a b) cu3).bind fun d cu4 => (Rs.ofO (ixO xs k d) cu4).bind fun ys cu5 => .ok (.nx (ρ.set i (.own ys))) cu5
  | _ => .stuck
theorem psd_augO {i : Nat} {x : Str} {p tpos : Pos} {op : Operator} {tip : TIp} {f : PyData → PyData → Option PyData} (h : PE X (.Name x p) (tVar i)) (hi : PD X K E ie ti gi) (ho : PIp X op tip) (hf : OpD K tip f) (he : PD X K E e te ge)
    (ha : ∀ ov iv new, augStore ie ov iv new = (do holding [new, ov, iv] (setItem ov iv new); release [new, ov, iv] []; pure .next) := by intros; rfl) :
    PSD X K E (.AugAssign (.Subscript (.Name x p) ie tpos) op e pos) (tAugS (tVar i) ti te (rIxL X.K) tip rSetL) (gAugO i f gi ge) := by
  refine ⟨ps_augS h hi.pe get_list he.pe ho set_list ha, fun c H0 G0 σ H G ρ cu D s q => ?_⟩
  unfold gAugO at q
  split at q
  · rename_i xs eo
    obtain ⟨A, k1, k2⟩ := s.rep.own
    obtain ⟨e1, ⟨vs, e2, e3⟩, e4, e5, e6⟩ := k1 i xs eo
    refine ⟨_, e1, ?_⟩
    refine hi.sem c H0 G0 σ H G ρ cu _ s ((q.exp s).imp fun k H1 G1 cu1 x1 w1 q1 kv rk => ?_)
    obtain ⟨a, ea, q2⟩ := PostS.ofO q1
    have a1 := x1.h _ _ e2 nt_lst e6
    cases k with
    | int z =>
      obtain ⟨y, ey, ry⟩ := atI_rp (e3.mono x1.g) (show atI xs z = some a from ea)
      refine ⟨A i, vs, z, y, rfl, rk.int_of, SqL.of a1, ey, ?_⟩
      refine he.sem c H0 G0 σ H1 G1 ρ cu1 _ (s.go x1 w1) ((q2.exp (s.go x1 w1)).imp fun b H2 G2 cu2 x2 w2 q3 bv rb => ?_)
      obtain ⟨d, ed, q4⟩ := PostS.ofO q3
      refine hf c H2 G2 cu2 y bv a b d _ w2 (ry.mono x2.g) rb ed fun v' H3 G3 x3 w3 r3 => ?_
      obtain ⟨ys, eys, q5⟩ := PostS.ofO q4
      obtain ⟨z', j, hz, hj, rfl⟩ := ixO_of eys
      cases hz
      have x13 := (x1.trans x2).trans x3
      have a3 := x13.h _ _ e2 nt_lst e6
      exact ⟨A i, vs, z, j, rfl, rk.int_of, a3, by rw [e3.length]; exact hj, q5 σ _ G3 (s.updO x13 w3 eo e1 (RpL.set r3 j (e3.mono x13.g)))⟩
    | _ => cases ea
  · exact q.elim
end
end DL

set_option Elab.async false
set_option linter.all false
set_option maxRecDepth 100000
set_option autoImplicit false
/-! lists of one's own: repeated, list(..), pop, truth, extend -/
namespace DL
open PySem PySem.Spec PyProof.Rows L2
section
variable {K : Kx} {X : Cx} {E : XK} {a b e : Expr} {es : List Expr} {ta tb te : TE} {t : TA} {ga gb ge : GE} {g : GA} {pos : Pos}
/-- [c] * n, new -/
def repL : PyData → PyData → Option (List PyData)
  | .list xs, .int k => if k ≤ 1000 ∧ -1000 ≤ k ∧ xs.length ≤ 1000 then some (List.replicate k.toNat xs).flatten else none
  | _, _ => none
def gfRep (ga gb : GE) : GI := fun ρ cu => (ga ρ cu).bind fun d cu1 => (gb ρ cu1).bind fun e cu2 => .ofO (repL d e) cu2
theorem pf_rep (ha : PD X K E a ta ga) (hb : PD X K E b tb gb) : PFD X K E (.BinOp a .Mult b pos) (tOp rRep ta tb) (gfRep ga gb) := by
  refine ⟨pe_op op_rep ha.pe hb.pe, fun c H0 G0 σ H G ρ cu Q s q => ?_⟩
  refine ha.sem c H0 G0 σ H G ρ cu _ s (q.bind.imp fun d H1 G1 cu1 x1 w1 q1 v rv => ?_)
  refine hb.sem c H0 G0 σ H1 G1 ρ cu1 _ (s.go x1 w1) (q1.bind.imp fun d2 H2 G2 cu2 x2 w2 q2 v2 rv2 => ?_)
  obtain ⟨ds, ez, q3⟩ := q2.ofO
  unfold repL at ez
  split at ez
  · split at ez
    · rename_i xs k hc
      cases ez
      obtain ⟨p0, vs, rfl, hp0, ra⟩ := (rv.mono x2.g).lst_of
      have hl := ra.length
      refine ⟨p0, k, vs, rfl, rv2.int_of, w2.sub _ _ hp0, by omega, by omega, ?_, fun p hp => ?_⟩
      · rw [hl, sizeLine_eq]
        have h1 : k.toNat ≤ 1000 := by omega
        calc xs.length * k.toNat ≤ 1000 * 1000 := Nat.mul_le_mul hc.2.2 h1
          _ ≤ 16777216 := by decide
      · obtain ⟨x3, w3, gp⟩ := w2.newH (o := .lst (List.replicate k.toNat vs).flatten) hp
        exact q3 _ _ x3 w3 p _ ((x1.trans x2).free (.of hp)) upd_same (ra.rep _) gp
    · cases ez
  · cases ez
/-- list(e), new -/
def toL : List PyData → Option (List PyData)
  | [.list xs] => some xs
  | [.tuple xs] => some xs
  | _ => none
def gfTo (g : GA) : GI := fun ρ cu => (g ρ cu).bind fun as cu1 => .ofO ((dats as).bind toL) cu1
theorem pf_to {x : Str} {p : Pos} (hg : Gl X x) (hm : X.mg x = none) (hv : bootBuiltins x = some (.type "list")) (ha : PAD X K E (e :: es) t g)
    (hn : x ≠ "__name__" := by decide) (hdb : (x == ("__debug__" : Str)) = false := by decide)
    (he : starEach (e :: es) X.env = (false, eval e X.env) :: starEach es X.env := by rfl) (hpl : (backTo pos (starEach es X.env)).any (·.1) = false := by rfl) (hKF : K.F = X.K := by assumption) :
    PFD X K E (.Call (.Name x p) (e :: es) [] pos) (tCB (fun xs H Q => ∃ p ys, xs = [.ref p] ∧ (SqL X.K H p ys ∨ SqT X.K H p ys) ∧ ∀ l, H l = none → Q (.ref l) (upd H l (.lst ys))) t) (gfTo g) := by
  refine ⟨pe_callTy call_list_of hg hm hv ha.pa hn hdb he hpl, fun c H0 G0 σ H G ρ cu Q s q => ?_⟩
  refine ha.sem c H0 G0 σ H G ρ cu _ s (q.bind.imp fun as H1 G1 cu1 x1 w1 q1 vs rvs => ?_)
  obtain ⟨ds, ez, q2⟩ := q1.ofO
  cases ed : dats as with
  | none => rw [ed] at ez; cases ez
  | some zs =>
    rw [ed] at ez
    have ez : toL zs = some ds := ez
    have r := dats_rp rvs ed
    unfold toL at ez
    split at ez
    · cases ez
      obtain ⟨v, rfl, rv⟩ := r.one
      obtain ⟨p0, xs, rfl, hp0, ra⟩ := rv.lst_of
      refine ⟨p0, xs, rfl, .inl (SqL.of (w1.sub _ _ hp0)), fun p hp => ?_⟩
      obtain ⟨x2, w2, gp⟩ := w1.newH (o := .lst xs) hp
      exact q2 _ _ x2 w2 p _ (x1.free (.of hp)) upd_same ra gp
    · cases ez
      obtain ⟨v, rfl, rv⟩ := r.one
      obtain ⟨p0, xs, rfl, hp0, ra⟩ := rv.tup_of
      refine ⟨p0, xs, rfl, .inr (TupAt.sq' hKF (TupAt.mono w1.sub hp0)), fun p hp => ?_⟩
      obtain ⟨x2, w2, gp⟩ := w1.newH (o := .lst xs) hp
      exact q2 _ _ x2 w2 p _ (x1.free (.of hp)) upd_same ra gp
    · cases ez
/-- y = x.pop() -/
def gPop (j i : Nat) : GS := fun ρ cu => match ρ[i]? with
  | some (.own xs) => (Rs.ofO xs.getLast? cu).bind fun d cu1 => .ok (.nx ((ρ.set i (.own xs.dropLast)).set j (.dat d))) cu1
  | _ => .stuck
theorem RpL.dropLast {G : Hp} : ∀ {vs : List V} {ds : List PyData}, RpL K G vs ds → RpL K G vs.dropLast ds.dropLast
  | _, _, .nil => .nil
  | _, _, .cons h .nil => .nil
  | _, _, .cons h (.cons h2 r) => .cons h (RpL.dropLast (.cons h2 r))
theorem psd_pop {i j : Nat} {x y : Str} {p ap cp pos' : Pos} (hN : X.N.Nodup) (hj : X.N[j]? = some y) (hy : Loc X.env.scope y) (h : PE X (.Name x p) (tVar i))
    (hpe : PE X (.Call (.Attribute (.Name x p) "pop" ap) [] [] cp) (tBM0 X.K "list" rPop (tVar i)))
    (hs : swapsWith (.Call (.Attribute (.Name x p) "pop" ap) [] [] cp) (some (.Name y pos')) pos.line X.env = pure false := by rfl)
    (hf : X.fn y = true ∨ X.env.scope.names.lookup y = some .local := by first | exact .inl rfl | exact .inr rfl | assumption) :
    PSD X K E (.Assign [.Name y pos'] (.Call (.Attribute (.Name x p) "pop" ap) [] [] cp) pos) (tAsg (tBM0 X.K "list" rPop (tVar i)) (gName j)) (gPop j i) := by
  refine ⟨ps_set hN hj hy hpe hs hf, fun c H0 G0 σ H G ρ cu D s q => ?_⟩
  unfold gPop at q
  split at q
  · rename_i xs eo
    obtain ⟨A, k1, k2⟩ := s.rep.own
    obtain ⟨e1, ⟨vs, e2, e3⟩, e4, e5, e6⟩ := k1 i xs eo
    obtain ⟨d, ed, q2⟩ := PostS.ofO q
    have hl := e3.length
    rw [List.getLast?_eq_getElem?] at ed
    obtain ⟨v, ev, rv⟩ := e3.get ed
    refine ⟨_, e1, .inl ⟨rfl, _, SqL.of e2⟩, ?_⟩
    exact ⟨A i, vs, v, rfl, rfl, e2, by rw [hl]; exact ev, q2 _ _ G ((s.updO Ext.refl s.wd eo e1 (RpL.dropLast e3)).set rv)⟩
  · exact q.elim
/-- a list of one's own as a test -/
def gTruO (i : Nat) : GT := fun ρ cu => match ρ[i]? with
  | some (.own xs) => .ok (!xs.isEmpty) cu
  | _ => .stuck
theorem ptd_own {i : Nat} {x : Str} {p : Pos} (h : PE X (.Name x p) (tVar i)) (he : ∀ whole, isTrue (.Name x p) X.env whole = (do let v ← whole; standAt (Expr.Name x p).pos; holding [v] (truthy v)) := by intro _; rfl) :
    PTD X K E (.Name x p) (fun σ H Q => tVar i σ H fun x H' => ∃ k, TruV X.K x H' k ∧ Q k H') (gTruO i) := by
  refine ⟨pt_truth h he, fun c H0 G0 σ H G ρ cu Q s q => ?_⟩
  unfold gTruO at q
  split at q
  · rename_i xs eo
    obtain ⟨A, k1, k2⟩ := s.rep.own
    obtain ⟨e1, ⟨vs, e2, e3⟩, e4, e5, e6⟩ := k1 i xs eo
    have hem : (!xs.isEmpty) = !vs.isEmpty := by cases e3 <;> rfl
    exact ⟨_, e1, !xs.isEmpty, .inl ⟨vs, SqL.of e2, hem⟩, q H G Ext.refl s.wd⟩
  · exact q.elim
end
end DL

set_option Elab.async false
set_option linter.all false
set_option maxRecDepth 100000
set_option maxHeartbeats 4000000
set_option autoImplicit false
/-! x.extend(a known list or tuple) -/
namespace DL
open PySem PySem.Spec PyProof.Rows L2
theorem list_extend_tupG (l : Addr) (items : Array Value) (n : Nat) (b : Addr) (items2 : Array Value) (n2 : Nat) (o2 : Obj) (hc2 : o2.cls = .type "tuple") (hd2 : o2.data = .seq items2 n2) (hs0 : ¬(!items.isEmpty && Builtin.List.listTooLong (items.size + items2.size)) = true) (hs1 : items.size ≤ sizeLine) (hs2 : items.size + items2.size ≤ sizeLine + 1) :
    Meets (Builtin.«list.extend» ⟨[.ref l, .ref b], []⟩) (fun _ R s => s.heap.get? l = some { cls := .type "list", dict := none, data := .seq items n, slots := #[] } ∧ s.heap.get? b = some o2 ∧ R (.ok (.ret Value.none)) { s with heap := s.heap.update l (Obj.mapSeq fun x => x ++ items2), toks := s.toks }) :=
  .of_wp fun prog w A R s h => by
    cases o2
    simp only at hc2 hd2
    subst hc2 hd2
    obtain ⟨hp, g, d, tk, os⟩ := s; obtain ⟨hl, hb, h⟩ := h; have f1 := PySem.AutoSeq1.idx_int; have f2 := PySem.AutoSeq1.sub_tuple_tuple; have f3 := PySem.AutoSeq1.sub_list_list; have f4 := PySem.AutoSeq1.sub_tuple_list; have f5 := PySem.AutoSeq1.sub_list_tuple;
    have hz' : (items ++ items2).size ≤ sizeLine + 1 := by rw [Array.size_append]; exact hs2
    wp_walk using (wpAny_updateSeq hl rfl (hz := hs1) (_hz' := hz')), PySem.AutoSeq1.wpAny_loadPart' hl, PySem.AutoSeq1.wpAny_loadPart' hb; exact ⟨_, rfl, h⟩
def rExtD (F : PySem.W.Frag) : V → List V → Hp → VK → Prop := fun x vs H Q => ∃ l b xs zs, x = .ref l ∧ vs = [.ref b] ∧ H l = some (.lst xs) ∧ (H b = some (.lst zs) ∨ SqT F H b zs) ∧ xs.length + zs.length ≤ sizeLine ∧ Q .non (upd H l (.lst (xs ++ zs)))
section
variable {K : Kx} {X : Cx} {E : XK} {e : Expr} {te : TE} {ge : GE} {pos : Pos}
theorem mt_extD : MtM X "list.extend" (rExtD X.K) := by
  intro pins s σ H x vs v us Q I rx rv h
  obtain ⟨l, b, xs, zs, rfl, rfl, hH, hB | hB, hz, q⟩ := h
  · exact mt_extend pins s σ H _ _ v us Q I rx rv ⟨l, b, xs, zs, rfl, rfl, hH, hB, hz, q⟩
  cases rx
  obtain ⟨u, rfl, ru⟩ := rv.one
  cases ru
  obtain ⟨z, its, n, r, hl, e⟩ := I.lstM hH
  obtain ⟨its2, r2, ⟨o2, e2, c2, n2, d2⟩, z2⟩ := I.tuple hB
  have hl2 := r2.length
  have hsz : its.toArray.size + its2.toArray.size ≤ sizeLine := by rw [List.size_toArray, List.size_toArray]; omega
  have hlong : ¬ (!its.toArray.isEmpty && Builtin.List.listTooLong (its.toArray.size + its2.toArray.size)) = true := by
    rw [notLongL hsz, Bool.and_false]
    exact Bool.false_ne_true
  refine call_meets F.slot_list_extend ⟨_, e, rfl⟩ F.entry_list_extend (F.args_list_extend_2 _ _)
    (list_extend_tupG l its.toArray n b its2.toArray n2 o2 c2 d2 hlong (by rw [List.size_toArray]; omega) (by omega)) ⟨e, e2, ?_⟩
  refine ⟨.non, _, I.lset (its' := its ++ its2) hH e (by simp) (r.append r2) ?_, rfl, q⟩
  rw [List.length_append]
  omega
def dItems : PyData → Option (List PyData)
  | .list ys => some ys
  | .tuple ys => some ys
  | _ => none
/-- x.extend(e) -/
def gExt (i : Nat) (g : GE) : GS := fun ρ cu => match ρ[i]? with
  | some (.own xs) => (g ρ cu).bind fun d cu1 => (Rs.ofO (dItems d) cu1).bind fun ys cu2 => if xs.length + ys.length ≤ 16777216 then .ok (.nx (ρ.set i (.own (xs ++ ys)))) cu2 else .stuck
  | _ => .stuck
theorem psd_extend {i : Nat} {x : Str} {p ap cp : Pos} (h : PE X (.Name x p) (tVar i)) (he : PD X K E e te ge)
    (hpe : PA X [e] (tCons te tNil) → PE X (.Call (.Attribute (.Name x p) "extend" ap) [e] [] cp) (tBM X.K "list" (rExtD X.K) (tVar i) (tCons te tNil)))
    (hs0 : starEach [e] X.env = (false, eval e X.env) :: starEach [] X.env := by rfl)
    (hs : swapsWith (.Call (.Attribute (.Name x p) "extend" ap) [e] [] cp) none pos.line X.env = pure false := by rfl) (hKF : K.F = X.K := by assumption) :
    PSD X K E (.Expr (.Call (.Attribute (.Name x p) "extend" ap) [e] [] cp) pos) (tDrop (tBM X.K "list" (rExtD X.K) (tVar i) (tCons te tNil))) (gExt i ge) := by
  refine ⟨ps_expr (hpe (pa_cons he.pe pa_nil hs0)) hs, fun c H0 G0 σ H G ρ cu D s q => ?_⟩
  unfold gExt at q
  split at q
  · rename_i xs eo
    obtain ⟨A, k1, k2⟩ := s.rep.own
    obtain ⟨e1, ⟨vs, e2, e3⟩, e4, e5, e6⟩ := k1 i xs eo
    refine ⟨_, e1, .inl ⟨rfl, _, SqL.of e2⟩, ?_⟩
    refine he.sem c H0 G0 σ H G ρ cu _ s ((q.exp s).imp fun d H1 G1 cu1 x1 w1 q1 v rv => ?_)
    obtain ⟨ys, ey, q2⟩ := PostS.ofO q1
    split at q2
    · rename_i hl
      have a1 := x1.h _ _ e2 nt_lst e6
      cases d with
      | list zs =>
        cases ey
        obtain ⟨b, us, rfl, hb, rb⟩ := rv.lst_of
        exact ⟨A i, b, vs, us, rfl, rfl, a1, .inl (w1.sub _ _ hb), by rw [e3.length, rb.length, sizeLine_eq]; exact hl, q2 σ _ G1 (s.updO x1 w1 eo e1 ((e3.mono x1.g).app rb))⟩
      | tuple zs =>
        cases ey
        obtain ⟨b, us, rfl, hb, rb⟩ := rv.tup_of
        exact ⟨A i, b, vs, us, rfl, rfl, a1, .inr (TupAt.sq' hKF (TupAt.mono w1.sub hb)), by rw [e3.length, rb.length, sizeLine_eq]; exact hl, q2 σ _ G1 (s.updO x1 w1 eo e1 ((e3.mono x1.g).app rb))⟩
      | _ => cases ey
    · exact q2.elim
  · exact q.elim
end
end DL

set_option Elab.async false
set_option linter.all false
set_option maxRecDepth 100000
set_option autoImplicit false
/-! reversed(range(n)) -/
namespace DL
open PySem PySem.Spec PyProof.Rows L2
def rngR (n : Nat) : List PyData := (List.range n).map fun (i : Nat) => .int ((n : Int) - 1 - (i : Int))
section
variable {K : Kx} {X : Cx} {E : XK} {a : Expr} {ta : TE} {ga : GE} {pos : Pos}
theorem wk_rngR {G1 : Hp} (n : Nat) : Wk K (Itc (0 + (n : Int) - 1) (-1) n) G1 (rngR n) := by
  intro c H G cu k w
  have hl : (rngR n).length = n := by unfold rngR; rw [List.length_map, List.length_range]
  refine ⟨fun i d e => ?_, by rw [hl]; exact Nat.le_refl n⟩
  have hi : i < n := by rw [← hl]; exact (List.getElem?_eq_some_iff.mp e).1
  unfold rngR at e
  rw [List.getElem?_map, List.getElem?_range hi] at e
  cases e
  refine ⟨hi, fun x H' y => ?_⟩
  obtain ⟨rfl, rfl⟩ := y
  have : (0 + (n : Int) - 1 + (i : Int) * -1) = (n : Int) - 1 - (i : Int) := by omega
  rw [this]
  exact ⟨G, Ext.refl, w, .int _⟩
def dRngR : PyData → Option (List PyData)
  | .int j => if -(2 ^ 62) ≤ j ∧ j < 2 ^ 62 then some (rngR j.toNat) else none
  | _ => none
def giRngR (g : GE) : GI := fun ρ cu => (g ρ cu).bind fun d cu1 => .ofO (dRngR d) cu1
theorem pid_revR {tg : Expr} {p p2 pos2 : Pos} (hg : Gl X "reversed") (hm : X.mg "reversed" = none) (hg2 : Gl X "range") (hm2 : X.mg "range" = none) (ha : PD X K E a ta ga)
    (na : starEach [a] X.env = (false, eval a X.env) :: starEach [] X.env := by rfl)
    (hs : starEach [.Call (.Name "range" p2) [a] [] pos2] X.env = (false, eval (.Call (.Name "range" p2) [a] [] pos2) X.env) :: starEach [] X.env := by rfl) :
    PID X K E tg (.Call (.Name "reversed" p) [.Call (.Name "range" p2) [a] [] pos2] [] pos) (iRevR (tRg1 ta)) (giRngR ga) := by
  refine ⟨pi_revR hg hm (prg_1 hg2 hm2 ha.pe na) hs, fun c H0 G0 σ H G ρ cu R s q => ?_⟩
  refine ha.sem c H0 G0 σ H G ρ cu _ s (q.bind.imp fun d H1 G1 cu1 x1 w1 q1 v rv => ?_)
  obtain ⟨items, ez, q2⟩ := q1.ofO
  unfold dRngR at ez
  split at ez
  · split at ez
    · rename_i j hb
      cases ez
      refine ⟨j, rv.int_of, by decide, by decide, hb.1, hb.2, ?_⟩
      have e : (j - 0).toNat = j.toNat := by rw [Int.sub_zero]
      rw [e]
      exact q2 H1 G1 Ext.refl w1 _ (wk_rngR _)
    · cases ez
  · cases ez
/-! reversed of a tuple -/
def dRevTup : PyData → Option (List PyData)
  | .tuple ds => some ds.reverse
  | _ => none
def giRevT (g : GE) : GI := fun ρ cu => (g ρ cu).bind fun d cu1 => .ofO (dRevTup d) cu1
theorem wk_revT {F : PySem.W.Frag} (hKF : K.F = F) {G1 : Hp} {a : Addr} {xs : List V} {ds : List PyData} (h : TupAt K.F G1 a xs) (r : RpL K G1 xs ds) : Wk K (RT.ItvT F a xs.length) G1 ds.reverse := by
  intro c H G cu k w
  have hH : SqT F H a xs := TupAt.sq' hKF ((h.mono k).mono w.sub)
  have hl := r.length
  refine ⟨fun i d e => ?_, by show xs.length ≤ ds.reverse.length; rw [List.length_reverse]; exact Nat.le_of_eq hl⟩
  have hi : i < ds.length := by
    have := (List.getElem?_eq_some_iff.mp e).1
    rwa [List.length_reverse] at this
  rw [List.getElem?_reverse hi] at e
  obtain ⟨v, e1, rv⟩ := r.get e
  rw [← hl] at e1
  refine ⟨⟨by omega, xs, v, hH, e1⟩, fun x H' y => ?_⟩
  obtain ⟨rfl, y⟩ := y
  have ev : v = x := Option.some.inj (e1.symm.trans (y xs hH))
  subst ev
  exact ⟨G, Ext.refl, w, rv.mono k⟩
theorem pid_revT {tg : Expr} {p : Pos} (hg : Gl X "reversed") (hm : X.mg "reversed" = none) (h : PD X K E a ta ga) (hs : starEach [a] X.env = (false, eval a X.env) :: starEach [] X.env := by rfl) (hKF : K.F = X.K := by assumption) :
    PID X K E tg (.Call (.Name "reversed" p) [a] [] pos) (RT.iRevA X.K ta) (giRevT ga) := by
  refine ⟨RT.pi_revA hg hm h.pe hs, fun c H0 G0 σ H G ρ cu R s q => ?_⟩
  refine h.sem c H0 G0 σ H G ρ cu _ s (q.bind.imp fun d H1 G1 cu1 x1 w1 q1 v rv => ?_)
  obtain ⟨ds, ed, q2⟩ := q1.ofO
  unfold dRevTup at ed
  split at ed
  · cases ed
    obtain ⟨b, xs, rfl, ha, ra⟩ := rv.tup_of
    exact ⟨b, xs, rfl, .inr ⟨TupAt.sq' hKF (TupAt.mono w1.sub ha), q2 H1 G1 Ext.refl w1 _ (wk_revT hKF ha ra)⟩⟩
  · cases ed
end
end DL

set_option Elab.async false
set_option linter.all false
set_option maxRecDepth 100000
set_option autoImplicit false
/-! x, y, z = e, list(..), [..] * n: the last two one's own -/
namespace DL
open PySem PySem.Spec PyProof.Rows L2
section
variable {K : Kx} {X : Cx} {E : XK} {pos : Pos}
def gPar3O (i j l : Nat) (g1 : GE) (g2 g3 : GI) : GS := fun ρ cu => (g1 ρ cu).bind fun d cu1 => (g2 ρ cu1).bind fun ds cu2 => (g3 ρ cu2).bind fun es cu3 => .ok (.nx (((ρ.set i (.dat d)).set j (.own ds)).set l (.own es))) cu3
theorem psd_par3O {i j l : Nat} {x y z : Str} {a b c : Expr} {ta tb tc : TE} {g1 : GE} {g2 g3 : GI} {px py pz pt : Pos} {kt k2 : Nat} {pt2 : Pos} (hcm : X.calm = true) (hN : X.N.Nodup) (hi : X.N[i]? = some x) (hj : X.N[j]? = some y) (hl : X.N[l]? = some z) (hij : i ≠ j) (hil : i ≠ l) (hjl : j ≠ l)
    (hx : X.env.scope.names.lookup x = some .local) (hy : X.env.scope.names.lookup y = some .local) (hz : X.env.scope.names.lookup z = some .local) (ha : PD X K E a ta g1) (hb : PFD X K E b tb g2) (hc : PFD X K E c tc g3)
    (hw : swappedStores [.Tuple [.Name x px, .Name y py, .Name z pz] kt pt] (.Tuple [a, b, c] k2 pt2) X.env = pure (some [x, y, z]) := by rfl)
    (hs : swapsWithSole [.Tuple [.Name x px, .Name y py, .Name z pz] kt pt] (.Tuple [a, b, c] k2 pt2) pos.line X.env = pure false := by rfl)
    (h1 : starEach [a, b, c] X.env = (false, eval a X.env) :: starEach [b, c] X.env := by rfl) (h2 : starEach [b, c] X.env = (false, eval b X.env) :: starEach [c] X.env := by rfl) (h3 : starEach [c] X.env = (false, eval c X.env) :: starEach [] X.env := by rfl) :
    PSD X K E (.Assign [.Tuple [.Name x px, .Name y py, .Name z pz] kt pt] (.Tuple [a, b, c] k2 pt2) pos) (tPar3 i j l (tCons ta (tCons tb (tCons tc tNil)))) (gPar3O i j l g1 g2 g3) := by
  refine ⟨ps_par3 hcm hN hi hj hl hij hil hjl hx hy hz (pa_cons ha.pe (pa_cons hb.pe (pa_cons hc.pe pa_nil h3) h2) h1) hw hs, fun cc H0 G0 σ H G ρ cu D s q => ?_⟩
  refine ha.sem cc H0 G0 σ H G ρ cu _ s ((q.exp s).imp fun d H1 G1 cu1 x1 w1 q1 v rv => ?_)
  refine hb.sem cc H0 G0 σ H1 G1 ρ cu1 _ (s.go x1 w1) ((q1.exp (s.go x1 w1)).imp fun ds H2 G2 cu2 x2 w2 q2 p xs hp hp' r gp => ?_)
  refine hc.sem cc H0 G0 σ H2 G2 ρ cu2 _ ((s.go x1 w1).go x2 w2) ((q2.exp ((s.go x1 w1).go x2 w2)).imp fun es H3 G3 cu3 x3 w3 q3 p2 ys hp2 hp2' r2 gp2 => ?_)
  exact ⟨_, _, _, rfl, q3 _ H3 G3 ((((s.go x1 w1).set rv).setO x2 w2 hp hp' r gp).setO x3 w3 hp2 hp2' r2 gp2)⟩
end
end DL

set_option Elab.async false
set_option linter.all false
set_option maxRecDepth 100000
set_option autoImplicit false
/-! a > b of two tuples of integers -/
namespace DL
open PySem PySem.Spec PyProof.Rows L2
def lexG (ns ms : List Int) : Bool := Ob.lexAt (fun j => decide (ns.getD j 0 = ms.getD j 0)) (fun j => decide (ms.getD j 0 < ns.getD j 0)) (decide (ns.length > ms.length)) 0 (min ns.length ms.length)
def rGtT (K : PySem.W.Frag) : R2 := fun x y H Q => ∃ (a b : Addr) (ns ms : List Int), x = .ref a ∧ y = .ref b ∧ SqT K H a (ns.map V.int) ∧ SqT K H b (ms.map V.int) ∧ Q (.bl (lexG ns ms)) H
theorem op_gtT {X : Cx} (hu : X.A.units < cLine) : OpR X (compareOp .Gt) (rGtT X.K) := by
  intro pins s σ H x y v u Q I rx ry h
  obtain ⟨a, b, ns, ms, rfl, rfl, ha, hb, q⟩ := h
  cases rx
  cases ry
  obtain ⟨its, r1, p1, _⟩ := I.tuple ha
  obtain ⟨its2, r2, p2, _⟩ := I.tuple hb
  have i1 : IntsAre its ns := Vals.ints r1
  have i2 : IntsAre its2 ms := Vals.ints r2
  have e1 : its.toArray.size = ns.length := by rw [List.size_toArray]; exact i1.length
  have e2 : its2.toArray.size = ms.length := by rw [List.size_toArray]; exact i2.length
  have at1 : ∀ j (h1 : j < its.toArray.size), ∃ t, its.toArray[j] = .int (ns.getD j 0) t := fun j h1 => PyProof.Rows.IntsAre.int_at i1 _ _ (by simp at h1; simp [h1])
  have at2 : ∀ j (h1 : j < its2.toArray.size), ∃ t, its2.toArray[j] = .int (ms.getD j 0) t := fun j h1 => PyProof.Rows.IntsAre.int_at i2 _ _ (by simp at h1; simp [h1])
  have R := Ob.RcOp.tuples_gt (A := X.A) (s := s) (e := fun j => decide (ns.getD j 0 = ms.getD j 0)) (r := fun j => decide (ms.getD j 0 < ns.getD j 0)) p1 p2 hu (fun j h1 h2 => by
    obtain ⟨t, et⟩ := at1 j h1
    obtain ⟨t', et'⟩ := at2 j h2
    rw [et, et']
    have z : (ns.getD j 0 == ms.getD j 0) = decide (ns.getD j 0 = ms.getD j 0) := by
      by_cases q : ns.getD j 0 = ms.getD j 0
      · rw [decide_eq_true q]; exact beq_iff_eq.mpr q
      · rw [decide_eq_false q]; exact beq_eq_false_iff_ne.mpr q
    rw [← z]
    exact SeqAt.EqAt.int_int _ _ _ _) (fun j h1 h2 _ => by
    obtain ⟨t, et⟩ := at1 j h1
    obtain ⟨t', et'⟩ := at2 j h2
    rw [et, et']
    exact Ob.RcOp.gt_int _ _ _ _)
  rw [e1, e2] at R
  have z : wpAny (model X.prog X.w) X.A (compareOp .Gt (.ref a) (.ref b)) (EP X pins σ Q) X.xe s := R X.prog X.w X.xe (EP X pins σ Q) ⟨.bl _, H, I, rfl, q⟩
  exact z
def dGtT : PyData → PyData → Option PyData
  | .tuple ds, .tuple es => match intsD ds, intsD es with
    | some ns, some ms => some (.bool (lexG ns ms))
    | _, _ => none
  | _, _ => none
theorem opD_gtT {K : Kx} {F : PySem.W.Frag} (hKF : K.F = F := by assumption) : OpD K (rGtT F) dGtT := by
  intro c H G cu v w d e z Q wd r1 r2 hz q
  unfold dGtT at hz
  split at hz
  · split at hz
    · rename_i ds es _ _ ns ms h1 h2
      cases hz
      obtain ⟨a, xs, rfl, ha, ra⟩ := r1.tup_of
      obtain ⟨b, ys, rfl, hb, rb⟩ := r2.tup_of
      have e1 := ints_rp ra h1
      have e2 := ints_rp rb h2
      subst e1 e2
      exact ⟨a, b, ns, ms, rfl, rfl, TupAt.sq' hKF (TupAt.mono wd.sub ha), TupAt.sq' hKF (TupAt.mono wd.sub hb), q _ H G Ext.refl wd (.bl _)⟩
    · cases hz
  · cases hz
end DL

set_option Elab.async false
set_option linter.all false
set_option maxRecDepth 100000
set_option autoImplicit false
/-! for over a list or a tuple; len of a list of one's own; a number in a tuple of numbers -/
namespace DL
open PySem PySem.Spec PyProof.Rows L2
section
variable {K : Kx} {X : Cx} {E : XK} {tg iter e : Expr} {te : TE} {ge : GE} {pos : Pos}
theorem pi_orI {t u : TI} (h : PI X tg iter t) (k : PI X tg iter u) : PI X tg iter (fun σ H R => t σ H R ∨ u σ H R) :=
  ⟨fun pins s σ H R I q => q.elim (h.run pins s σ H R I) (k.run pins s σ H R I)⟩
def giSeq (g : GE) : GI := fun ρ cu => (g ρ cu).bind fun d cu1 => .ofO (dItems d) cu1
theorem pid_seq (h : PD X K E iter te ge) (hKF : K.F = X.K := by assumption) : PID X K E tg iter (fun σ H R => iList X.K te σ H R ∨ iTup X.K te σ H R) (giSeq ge) := by
  refine ⟨pi_orI (pi_list h.pe) (pi_tup h.pe), fun c H0 G0 σ H G ρ cu R s q => ?_⟩
  have L := (pid_lst (tg := tg) h).sem c H0 G0 σ H G ρ cu R s
  have T := (pid_tup (tg := tg) h).sem c H0 G0 σ H G ρ cu R s
  unfold giSeq at q
  unfold giLst at L
  unfold giTup at T
  cases hr : ge ρ cu with
  | stuck => rw [hr] at q; exact q.elim
  | exc k cu1 => rw [hr] at q L; exact .inl (L q)
  | ok d cu1 =>
    rw [hr] at q L T
    cases d with
    | list ds => exact .inl (L q)
    | tuple ds => exact .inr (T q)
    | _ => exact q.elim
end
section
variable {K : Kx} {X : Cx} {E : XK} {pos : Pos}
/-- len(x), x one's own -/
def gLenO (i : Nat) : GE := fun ρ cu => match ρ[i]? with
  | some (.own xs) => .ok (.int xs.length) cu
  | _ => .stuck
theorem pd_lenO {i : Nat} {x y : Str} {p p2 : Pos} (hg : Gl X y) (hm : X.mg y = none) (hv : bootBuiltins y = some (.builtin "len")) (h : PE X (.Name x p) (tVar i))
    (hn : y ≠ "__name__" := by decide) (hdb : (y == ("__debug__" : Str)) = false := by decide)
    (he : starEach [.Name x p] X.env = (false, eval (.Name x p) X.env) :: starEach [] X.env := by rfl) (hpl : (backTo pos (starEach [] X.env)).any (·.1) = false := by rfl) :
    PD X K E (.Call (.Name y p2) [.Name x p] [] pos) (tCB (fun xs H Q => ∃ p ys, xs = [.ref p] ∧ (SqL X.K H p ys ∨ SqT X.K H p ys) ∧ Q (.int ys.length) H) (tCons (tVar i) tNil)) (gLenO i) := by
  refine ⟨pe_callB call_len_seq hg hm hv (pa_cons h pa_nil he) hn hdb he hpl, fun c H0 G0 σ H G ρ cu Q s q => ?_⟩
  unfold gLenO at q
  split at q
  · rename_i xs eo
    obtain ⟨A, k1, k2⟩ := s.rep.own
    obtain ⟨e1, ⟨vs, e2, e3⟩, e4, e5, e6⟩ := k1 i xs eo
    refine ⟨_, e1, ?_⟩
    exact ⟨A i, vs, rfl, .inl (SqL.of e2), by rw [e3.length]; exact q H G Ext.refl s.wd _ (.int _)⟩
  · exact q.elim
/-- a number in a tuple of numbers -/
def dInT : PyData → PyData → Option PyData
  | .int i, .tuple ds => (intsD ds).map fun ns => .bool (inV (.int i) (ns.map V.int))
  | _, _ => none
theorem opD_inT {F : PySem.W.Frag} (hKF : K.F = F := by assumption) : OpD K (rIn F false) dInT := by
  intro c H G cu v w d e z Q wd r1 r2 hz q
  unfold dInT at hz
  split at hz
  · rename_i i ds
    cases en : intsD ds with
    | none => rw [en] at hz; cases hz
    | some ns =>
      rw [en] at hz
      cases hz
      obtain ⟨a, xs, rfl, ha, ra⟩ := r2.tup_of
      have e1 := ints_rp ra en
      subst e1
      refine ⟨a, _, rfl, .inr (TupAt.sq' hKF (TupAt.mono wd.sub ha)), ?_, ?_, ?_⟩
      · rw [r1.int_of]; rfl
      · rw [List.all_map, List.all_eq_true]; intro z _; rfl
      · rw [r1.int_of]; exact q _ H G Ext.refl wd (.bl _)
  · cases hz
end
end DL

set_option Elab.async false
set_option linter.all false
set_option maxRecDepth 100000
set_option maxHeartbeats 4000000
set_option autoImplicit false
/-! a tuple once, and no times -/
namespace DL
open PySem PySem.Spec PyProof.Rows L2
theorem tuple_mul1 (l : Addr) (items : Array Value) (n : Nat) (dd : Option Addr) (sl : Array (Option Value)) (u : Tok) :
    Meets (Builtin.«tuple.__mul__» ⟨[.ref l, .int 1 u], []⟩) (fun _ R s => s.heap.get? l = some { cls := .type "tuple", dict := dd, data := .seq items n, slots := sl } ∧ R (.ok (.ret (Value.ref l))) s) :=
  .of_wp fun prog w A R s h => by
    obtain ⟨hp, g, d, tk, os⟩ := s
    obtain ⟨hl, h⟩ := h
    have f1 := AutoSeq1.idx_int
    have f2 := AutoSeq1.sub_tuple_tuple
    wp_walk using wpAny_loadPart' hl
    exact ⟨_, rfl, h⟩
theorem tuple_mul0 (l : Addr) (items : Array Value) (n : Nat) (dd : Option Addr) (sl : Array (Option Value)) (x : Int) (u : Tok) (c0 : (decide (x < -(2 ^ 63)) || decide (x ≥ 2 ^ 63)) = false) (c1 : (items.isEmpty || x == 1) = false) (c2 : (decide (x ≤ 0) || items.isEmpty) = true) :
    Meets (Builtin.«tuple.__mul__» ⟨[.ref l, .int x u], []⟩) (fun _ R s => s.heap.get? l = some { cls := .type "tuple", dict := dd, data := .seq items n, slots := sl } ∧
      R (.ok (.ret (Value.ref s.heap.objs.size))) { s with heap := s.heap.push { cls := Value.type "tuple", data := Data.seq #[] }, toks := s.toks }) :=
  .of_wp fun prog w A R s h => by
    obtain ⟨hp, g, d, tk, os⟩ := s
    obtain ⟨hl, h⟩ := h
    have f1 := AutoSeq1.idx_int
    have f2 := AutoSeq1.sub_tuple_tuple
    wp_walk using wpAny_loadPart' hl
    repeat (first
      | (refine wpAny_ite_false (decide_eq_false (by rw [c0]; exact Bool.false_ne_true)) ?_; wp_walk using wpAny_loadPart' hl)
      | (refine wpAny_ite_false (decide_eq_false (by rw [c1]; exact Bool.false_ne_true)) ?_; wp_walk using wpAny_loadPart' hl)
      | (refine wpAny_ite_true (decide_eq_true c2) ?_; wp_walk using wpAny_loadPart' hl))
    exact ⟨_, rfl, h⟩
/-- nothing, or once -/
def rRep01 (F : PySem.W.Frag) : R2 := fun x y H Q => ∃ l k xs, x = .ref l ∧ y = .int k ∧ SqT F H l xs ∧ xs ≠ [] ∧ ((k = 1 ∧ Q (.ref l) H) ∨ (-1000 ≤ k ∧ k ≤ 0 ∧ ∀ p, H p = none → Q (.ref p) (upd H p (.tup []))))
section
variable {X : Cx} {K : Kx} {E : XK}
theorem op_rep01 : OpR X (binaryOp .Mult) (rRep01 X.K) := by
  intro pins s σ H x y v u Q I rx ry h
  obtain ⟨l, k, xs, rfl, rfl, hT, hne, h1⟩ := h
  cases rx
  obtain ⟨t, rfl⟩ := ry
  obtain ⟨its, r, ⟨⟨cls, dd, data, sl⟩, ho, hc, n, hd⟩, hs⟩ := I.tuple hT
  simp only at hc hd
  subst hc hd
  have hle : its.length = xs.length := r.length.symm
  have hn : its ≠ [] := fun e => hne (by
    rw [e] at hle
    exact List.eq_nil_of_length_eq_zero hle.symm)
  have hi : its.toArray.isEmpty = false := by
    cases its with
    | nil => exact absurd rfl hn
    | cons a b => rfl
  rcases h1 with ⟨rfl, q⟩ | ⟨h1, h2, q⟩
  · exact wpAny_binaryOp_repeat_ref (T := "tuple") (U := "int") (by decide) ⟨_, ho, rfl⟩ (fun s' => typeIs_int s' 1 t) noFill_tuple_mul F.fills_int_mul F.slot_int_rmul repeat_tuple F.slot_int_index.lookup
      (call_meets F.slot_int_rmul (typeIs_int s 1 t) F.entry_int_rmul (F.args_int_rmul_2 _ _) (int_rmul_tuple 1 t l its.toArray n dd sl)
        ⟨ho, rfl, ⟨_, ho, rfl⟩, call_meets F.slot_tuple_mul ⟨_, ho, rfl⟩ F.entry_tuple_mul (F.args_tuple_mul_2 _ _) (tuple_mul1 l its.toArray n dd sl t) ⟨ho, ⟨.ref l, H, I, rfl, q⟩⟩⟩)
  · have c0 : (decide (k < -(2 ^ 63)) || decide (k ≥ 2 ^ 63)) = false := by
      rw [decide_eq_false (by omega), decide_eq_false (by omega)] <;> rfl
    have c1 : (its.toArray.isEmpty || k == 1) = false := by
      rw [hi, Bool.false_or]
      exact beq_eq_false_iff_ne.mpr (by omega)
    have c2 : (decide (k ≤ 0) || its.toArray.isEmpty) = true := by
      rw [decide_eq_true h2, Bool.true_or]
    refine wpAny_binaryOp_repeat_ref (T := "tuple") (U := "int") (by decide) ⟨_, ho, rfl⟩ (fun s' => typeIs_int s' k t) noFill_tuple_mul F.fills_int_mul F.slot_int_rmul repeat_tuple F.slot_int_index.lookup
      (call_meets F.slot_int_rmul (typeIs_int s k t) F.entry_int_rmul (F.args_int_rmul_2 _ _) (int_rmul_tuple k t l its.toArray n dd sl)
        ⟨ho, rfl, ⟨_, ho, rfl⟩, call_meets F.slot_tuple_mul ⟨_, ho, rfl⟩ F.entry_tuple_mul (F.args_tuple_mul_2 _ _) (tuple_mul0 l its.toArray n dd sl k t c0 c1 c2) ⟨ho, ?_⟩⟩)
    refine ⟨.ref s.heap.objs.size, _, I.laid (t' := s.toks) (o := .tup []) (fun b ob q => Heap.get?_push_of_some _ q) (Nat.le_refl _) ?_, rfl, q _ (I.hok.fresh (Nat.le_refl _))⟩
    exact ⟨by decide, [], .nil, IsTup.new _ _⟩
/-- a tuple so many times -/
def dMulA : PyData → PyData → Option PyData
  | .tuple xs, .int k => if 2 ≤ k ∧ k ≤ 1000 ∧ xs.length ≤ 1000 ∧ xs ≠ [] then some (.tuple (List.replicate k.toNat xs).flatten)
      else if k = 1 ∧ xs ≠ [] then some (.tuple xs) else if -1000 ≤ k ∧ k ≤ 0 ∧ xs ≠ [] then some (.tuple []) else none
  | d, e => dMul d e
theorem op_mulDA : OpR X (binaryOp .Mult) (fun x y H Q => (rMulD x y H Q ∨ rRepT X.K x y H Q) ∨ rRep01 X.K x y H Q) := OpR.or op_mulDT op_rep01
theorem opD_mulA {F : PySem.W.Frag} (hKF : K.F = F := by assumption) : OpD K (fun x y H Q => (rMulD x y H Q ∨ rRepT F x y H Q) ∨ rRep01 F x y H Q) dMulA := by
  intro c H G cu v w d e z Q wd r1 r2 hz q
  unfold dMulA at hz
  split at hz
  · rename_i xs k
    by_cases hc : 2 ≤ k ∧ k ≤ 1000 ∧ xs.length ≤ 1000 ∧ xs ≠ []
    · rw [if_pos hc] at hz
      cases hz
      obtain ⟨a, vs, rfl, ha, ra⟩ := r1.tup_of
      have hl := ra.length
      refine .inl (.inr ⟨a, k, vs, rfl, r2.int_of, TupAt.sq' hKF (TupAt.mono wd.sub ha), fun z => hc.2.2.2 ?_, hc.1, hc.2.1, by omega, fun p hp => new_tup wd (ra.rep _) q hp⟩)
      rw [z] at hl
      exact List.eq_nil_of_length_eq_zero (by rw [← hl]; rfl)
    · rw [if_neg hc] at hz
      obtain ⟨a, vs, rfl, ha, ra⟩ := r1.tup_of
      have hl := ra.length
      have ne : xs ≠ [] → vs ≠ [] := fun h z => h (by rw [z] at hl; exact List.eq_nil_of_length_eq_zero (by rw [← hl]; rfl))
      split at hz
      · rename_i h1
        cases hz
        exact .inr ⟨a, k, vs, rfl, r2.int_of, TupAt.sq' hKF (TupAt.mono wd.sub ha), ne h1.2, .inl ⟨h1.1, q _ H G Ext.refl wd (.tupA ha ra)⟩⟩
      · split at hz
        · rename_i h1
          cases hz
          exact .inr ⟨a, k, vs, rfl, r2.int_of, TupAt.sq' hKF (TupAt.mono wd.sub ha), ne h1.2.2, .inr ⟨h1.1, h1.2.1, fun p hp => new_tup wd .nil q hp⟩⟩
        · cases hz
  · exact .inl (.inl (opD_mul c H G cu v w d e z Q wd r1 r2 hz q))
end
end DL

set_option Elab.async false
set_option linter.all false
set_option maxRecDepth 100000
set_option maxHeartbeats 2000000
set_option autoImplicit false
/-! tuples that a module holds -/
namespace DL
open PySem PySem.Spec PyProof.Rows L2
mutual
def isDB (F : PySem.W.Frag) : PyData → Value → Bool
  | .int i, .int j _ => decide (i = j)
  | .str x, .str y _ => decide (x = y)
  | .tuple ds, .ref a => (match F.lookup a with
    | some o => decide (o.cls = .type "tuple") && (match o.data with
      | .seq its _ => decide (its.size ≤ sizeLine) && isDBs F ds its.toList
      | _ => false)
    | none => false)
  | _, _ => false
def isDBs (F : PySem.W.Frag) : List PyData → List Value → Bool
  | [], [] => true
  | d :: ds, u :: us => isDB F d u && isDBs F ds us
  | _, _ => false
end
mutual
theorem isDB_ok {F : PySem.W.Frag} : ∀ (d : PyData) (u : Value), isDB F d u = true → ∃ v, RelV v u ∧ ∀ K : Kx, K.F = F → ∀ G : Hp, Rp K G v d
  | .int i, .int j t, h => by
    have e : i = j := of_decide_eq_true h
    subst e
    exact ⟨.int i, ⟨t, rfl⟩, fun _ _ _ => .int i⟩
  | .str x, .str y t, h => by
    have e : x = y := of_decide_eq_true h
    subst e
    exact ⟨.str x, ⟨t, rfl⟩, fun _ _ _ => .str x⟩
  | .tuple ds, .ref a, h => by
    unfold isDB at h
    split at h
    · rename_i o ho
      rw [Bool.and_eq_true, decide_eq_true_eq] at h
      obtain ⟨hc, h⟩ := h
      split at h
      · rename_i its n hd
        rw [Bool.and_eq_true, decide_eq_true_eq] at h
        obtain ⟨vs, r1, r2⟩ := isDBs_ok ds its.toList h.2
        exact ⟨.ref a, rfl, fun K e G => .tupA (.inr (by rw [e]; exact ⟨o, its, n, ho, hc, hd, h.1, r1⟩)) (r2 K e G)⟩
      · cases h
    · cases h
  | .none, u, h => by cases u <;> (unfold isDB at h; cases h)
  | .bool _, u, h => by cases u <;> (unfold isDB at h; cases h)
  | .list _, u, h => by cases u <;> (unfold isDB at h; cases h)
  | .dict _, u, h => by cases u <;> (unfold isDB at h; cases h)
  | .int _, .none, h => by unfold isDB at h; cases h
  | .tuple _, .none, h => by unfold isDB at h; cases h
  | .str _, .none, h => by unfold isDB at h; cases h
  | .int _, .ellipsis, h => by unfold isDB at h; cases h
  | .tuple _, .ellipsis, h => by unfold isDB at h; cases h
  | .str _, .ellipsis, h => by unfold isDB at h; cases h
  | .int _, .notImplemented, h => by unfold isDB at h; cases h
  | .tuple _, .notImplemented, h => by unfold isDB at h; cases h
  | .str _, .notImplemented, h => by unfold isDB at h; cases h
  | .int _, .bool _, h => by unfold isDB at h; cases h
  | .tuple _, .bool _, h => by unfold isDB at h; cases h
  | .str _, .bool _, h => by unfold isDB at h; cases h
  | .int _, .float _ _, h => by unfold isDB at h; cases h
  | .tuple _, .float _ _, h => by unfold isDB at h; cases h
  | .str _, .float _ _, h => by unfold isDB at h; cases h
  | .int _, .bytes _ _, h => by unfold isDB at h; cases h
  | .tuple _, .bytes _ _, h => by unfold isDB at h; cases h
  | .str _, .bytes _ _, h => by unfold isDB at h; cases h
  | .int _, .type _, h => by unfold isDB at h; cases h
  | .tuple _, .type _, h => by unfold isDB at h; cases h
  | .str _, .type _, h => by unfold isDB at h; cases h
  | .int _, .builtin _, h => by unfold isDB at h; cases h
  | .tuple _, .builtin _, h => by unfold isDB at h; cases h
  | .str _, .builtin _, h => by unfold isDB at h; cases h
  | .int _, .str _ _, h => by unfold isDB at h; cases h
  | .int _, .ref _, h => by unfold isDB at h; cases h
  | .str _, .int _ _, h => by unfold isDB at h; cases h
  | .str _, .ref _, h => by unfold isDB at h; cases h
  | .tuple _, .int _ _, h => by unfold isDB at h; cases h
  | .tuple _, .str _ _, h => by unfold isDB at h; cases h
theorem isDBs_ok {F : PySem.W.Frag} : ∀ (ds : List PyData) (us : List Value), isDBs F ds us = true → ∃ vs, Vals vs us ∧ ∀ K : Kx, K.F = F → ∀ G : Hp, RpL K G vs ds
  | [], [], _ => ⟨[], .nil, fun _ _ _ => .nil⟩
  | d :: ds, u :: us, h => by
    unfold isDBs at h
    rw [Bool.and_eq_true] at h
    obtain ⟨v, r1, r2⟩ := isDB_ok d u h.1
    obtain ⟨vs, q1, q2⟩ := isDBs_ok ds us h.2
    exact ⟨v :: vs, .cons r1 q1, fun K e G => .cons (r2 K e G) (q2 K e G)⟩
  | [], _ :: _, h => by unfold isDBs at h; cases h
  | _ :: _, [], h => by unfold isDBs at h; cases h
end
def tpB (F : PySem.W.Frag) (x : Str) (d : PyData) : Bool := match PySem.W.nsIn F mainGlobals x with
  | some (some u) => isDB F d u
  | _ => false
theorem tp_ok {F : PySem.W.Frag} {h : Heap} {mg : Str → Option Value} (X : F.In h) (G : h.Ns mainGlobals mg) {x : Str} {d : PyData} (hb : tpB F x d = true) : ∃ (u : Value) (v : V), mg x = some u ∧ RelV v u ∧ ∀ K : Kx, K.F = F → ∀ G : Hp, Rp K G v d := by
  unfold tpB at hb
  split at hb
  · rename_i u e
    obtain ⟨v, r1, r2⟩ := isDB_ok d u hb
    exact ⟨u, v, PySem.W.mg_of X G e, r1, r2⟩
  · cases hb
/-- a value that a module holds -/
theorem pd_globD {X : Cx} {K : Kx} {E : XK} {x : Str} {u : Value} {v : V} {d : PyData} {pos : Pos} (hg : Gl X x) (hm : X.mg x = some u ∧ RelV v u ∧ ∀ G : Hp, Rp K G v d) (hd : (x == ("__debug__" : Str)) = false := by decide) : PD X K E (.Name x pos) (tC v) (gC d) :=
  ⟨pe_glob hg hm.1 hm.2.1 hd, sem_c hm.2.2⟩
theorem fun_ofA {fa : List He.Fa} {fn : List He.DefD} {K : PySem.W.Frag} {x y : Str} {st : Stmt} {ps : List Str} (c : He.SaysD fa fn K) {h : Heap} {mg : Str → Option Value} (X : K.In h) (G : h.Ns mainGlobals mg) (i : Nat) (hd : fn[i]? = some ⟨(y, none), x, x, defArgs st, defBody st, defScope st, [], []⟩) (j : Nat) (hf : fa[j]? = some (.glo y))
    (hb : ∀ (kV doc pm : Value) (an : Option Addr) (cdv ct : Value) (us : List Value), us.length = ps.length → bindArgs (PySem.W.fnOf x x (defArgs st) (defBody st) (defScope st) .none kV doc pm an cdv ct) ⟨us, []⟩ = pure (ps.zip us)) :
    ∃ (f : Addr) (fd : FuncData), Fun K x x st f fd ∧ mg y = some (.ref f) ∧ Binds K fd ps [] := by
  obtain ⟨fd, F⟩ := c.def_ i hd
  have b := F.bindsN hb
  obtain ⟨oc, od, dV, kV, doc, pm, an, cdv, ct, osl, rfl, lk, hcd, hD, hK⟩ := F.ex
  rcases hD with ⟨_, rfl⟩ | ⟨e, _⟩
  · exact ⟨He.ga K y, _, ⟨⟨oc, od, kV, doc, pm, an, cdv, ct, osl, rfl, lk, hcd⟩, F.kp⟩, He.glo_ok X G (c.fact j hf), b⟩
  · exact absurd rfl e
def obsC (n : Nat) (fa : List He.Fa) (fn : List He.DefD) (xs : List Str) (bs : List (Str × String)) (ts : List (Str × PyData)) (g : Addr → Option Obj) : AlT :=
  (He.obsD fa fn (He.frG g (He.asD g n)), ((tabO xs (He.frG g (He.asD g n)) g).1 && (bs.all (fun b => biB (He.frG g (He.asD g n)) b.1 b.2) && ts.all fun t => tpB (He.frG g (He.asD g n)) t.1 t.2), (tabO xs (He.frG g (He.asD g n)) g).2))
structure SaysC (fa : List He.Fa) (fn : List He.DefD) (xs : List Str) (bs : List (Str × String)) (ts : List (Str × PyData)) (K : PySem.W.Frag) (h : Heap) : Prop extends SaysB fa fn xs bs K h where
  tp : ∀ t ∈ ts, tpB K t.1 t.2 = true
def hookC (n : Nat) (fa : List He.Fa) (fn : List He.DefD) (xs : List Str) (bs : List (Str × String)) (ts : List (Str × PyData)) : PySem.W.Hook where
  α := AlT
  obs := fun s => obsC n fa fn xs bs ts s.heap.get?
  val := fun _ => (He.valD fn, tabV xs)
  says := fun _ h => ∃ K : PySem.W.Frag, SaysC fa fn xs bs ts K h
  of := fun w s e => by
    have e1 := congrArg (fun z : AlT => z.1) e
    have e2 := congrArg (fun z : AlT => z.2.1) e
    have e3 := congrArg (fun z : AlT => z.2.2) e
    have e2 : (((xs.all fun x => tabB (He.frG s.heap.get? (He.asD s.heap.get? n)) x) && decide (xs.map fun x => (tabP (He.frG s.heap.get? (He.asD s.heap.get? n)) x).2).Nodup) && (bs.all (fun b => biB (He.frG s.heap.get? (He.asD s.heap.get? n)) b.1 b.2) && ts.all fun t => tpB (He.frG s.heap.get? (He.asD s.heap.get? n)) t.1 t.2)) = true := e2
    rw [Bool.and_eq_true, Bool.and_eq_true, Bool.and_eq_true, List.all_eq_true, List.all_eq_true, List.all_eq_true, decide_eq_true_eq] at e2
    have e3 : (xs.map fun x => s.heap.get? (tabP (He.frG s.heap.get? (He.asD s.heap.get? n)) x).2) = xs.map fun _ => some (PySem.W.tabObj #[]) := e3
    exact ⟨_, ⟨⟨He.frG_in, e1, fun x hx => ⟨e2.1.1 x hx, List.map_inj_left.mp e3 x hx⟩, e2.1.2⟩, e2.2.1⟩, e2.2.2⟩
  keeps := fun w h h' ⟨K, S⟩ k => ⟨K, ⟨⟨PySem.W.Frag.In.keeps S.kin k, S.facts, fun x hx => ⟨(S.tab x hx).1, k _ _ (S.tab x hx).2⟩, S.nd⟩, S.bi⟩, S.tp⟩
theorem obsC_eq {n : Nat} {fa : List He.Fa} {fn : List He.DefD} {xs : List Str} {bs : List (Str × String)} {ts : List (Str × PyData)} {g : Addr → Option Obj} {s : Shared} (h : ∀ a, g a = s.heap.get? a) : obsC n fa fn xs bs ts g = (hookC n fa fn xs bs ts).obs s := by
  have e : g = s.heap.get? := funext h
  rw [e] <;> rfl
end DL





set_option Elab.async false
set_option linter.all false
set_option maxRecDepth 100000
set_option maxHeartbeats 0
set_option autoImplicit false
namespace Prog
open PySem PySem.Spec PyProof.Rows L2 DL
def bsH : List (Str × String) := [("isqrt", "math.isqrt"), ("gcd", "math.gcd")]
def tsH : List (Str × PyData) := [("WHOLE", (.tuple [.str (PySem.Str.ofString "quot"), .int 0]))]
abbrev hkH : PySem.W.Hook := hookC 2 faH fnH xsH bsH tsH
def obH (s : PySem.W.SharedT) : AlT := obsC 2 faH fnH xsH bsH tsH (HandSHeadRun.getT s)
theorem obH_eq (s : PySem.W.SharedT) : obH s = hkH.obs s.abs := obsC_eq (HandSHeadRun.getT_eq s)
theorem runT (w : World) : ((HandSHeadRun.wholeF (fun p => HandSHeadRun.stepQ (HandSHeadRun.denQ HandSHeadRun.tabQ) p w) HandSHeadRun.fenceQ 8000 RH.prog).map (fun x => (obH x.2).2)) = some (true, xsH.map fun _ => some (PySem.W.tabObj #[])) := by kernel_rfl
theorem runC (w : World) : ((HandSHeadRun.wholeF (fun p => HandSHeadRun.stepQ (HandSHeadRun.denQ HandSHeadRun.tabQ) p w) HandSHeadRun.fenceQ 8000 RH.prog).map (fun x => obH x.2)) = some (hkH.val w) := by
  have f0 := runF0 w
  have n0 := runN0 w
  have n1 := runN1 w
  have t := runT w
  generalize (HandSHeadRun.wholeF (fun p => HandSHeadRun.stepQ (HandSHeadRun.denQ HandSHeadRun.tabQ) p w) HandSHeadRun.fenceQ 8000 RH.prog) = o at f0 n0 n1 t ⊢
  cases o with
  | none => cases t
  | some x =>
    rw [Option.map_some] at f0 n0 n1 t ⊢
    replace f0 := Option.some.inj f0
    replace n0 := Option.some.inj n0
    replace n1 := Option.some.inj n1
    replace t := Option.some.inj t
    have ef : (faH.all fun f => f.ok (kkH x.2)) = true := by
      unfold faH
      simp only [List.all_append, f0, Bool.and_self, Bool.and_true]
    have p0 := congrArg Prod.fst n0
    have q0 := congrArg Prod.snd n0
    dsimp only at p0 q0
    have p1 := congrArg Prod.fst n1
    have q1 := congrArg Prod.snd n1
    dsimp only at p1 q1
    have en : (fnH.all fun d => d.ok (kkH x.2)) = true := by
      unfold fnH
      simp only [List.all_append, p0, p1, Bool.and_self]
    have em : (fnH.map fun d => He.fnW (kkH x.2) d.at_) = fnH.map He.DefD.val := by
      unfold fnH
      simp only [List.map_append, q0, q1]
    have e1 : obH x.2 = (((faH.all fun f => f.ok (kkH x.2)) && fnH.all fun d => d.ok (kkH x.2), fnH.map fun d => He.fnW (kkH x.2) d.at_), (obH x.2).2) := rfl
    have e2 : hkH.val w = ((true, fnH.map He.DefD.val), (true, xsH.map fun _ => some (PySem.W.tabObj #[]))) := rfl
    rw [e1, e2, ef, en, em, t, Bool.and_self]
    rfl
theorem runH (w : World) : HandSHeadRun.RunEqI RH (PySem.W.view RH.prog [167]) hkH obH 8000 looseH w := by
  unfold HandSHeadRun.RunEqI
  have a := runA w
  have b := runB w
  have c := runC w
  generalize (HandSHeadRun.wholeF (fun p => HandSHeadRun.stepQ (HandSHeadRun.denQ HandSHeadRun.tabQ) p w) HandSHeadRun.fenceQ 8000 RH.prog) = o at a b c ⊢
  cases o with
  | none => cases a
  | some x =>
    rw [Option.map_some] at a b c ⊢
    rw [Option.some.inj a, Option.some.inj b, Option.some.inj c]
end Prog


set_option Elab.async false
set_option linter.all false
set_option maxRecDepth 100000
set_option maxHeartbeats 2000000
set_option autoImplicit false
set_option exponentiation.threshold 10000
/-! zip of a list and a tuple; lcm -/
namespace DL
open PySem PySem.Spec PyProof.Rows L2
def ItzM (K : PySem.W.Frag) (a b : Addr) : It where
  go := fun i H => ∃ (xs ys : List V) (x y : V), SqL K H a xs ∧ SqT K H b ys ∧ xs[i]? = some x ∧ ys[i]? = some y
  yld := fun i H v H' => ∃ (q : Addr) (x y : V), v = .ref q ∧ H q = none ∧ H' = upd H q (.tup [x, y]) ∧ (∀ xs, SqL K H a xs → xs[i]? = some x) ∧ ∀ ys, SqT K H b ys → ys[i]? = some y
  stop := fun i H => ∃ xs ys : List V, SqL K H a xs ∧ SqT K H b ys ∧ i ≤ xs.length ∧ i ≤ ys.length ∧ (i = xs.length ∨ i = ys.length)
def SnM (a b z TI TO i1 i2 : Addr) (i : Nat) (h : Heap) : Prop := IsZip h z TI TO .none ∧ IsTupOf2 h TI (.ref i1) (.ref i2) ∧ (∃ x y, IsTupOf2 h TO x y) ∧ h.IsListIter i1 a i ∧ h.IsTupleIter i2 b i
theorem turn_zipM {P : Program} {w : World} {K : PySem.W.Frag} {elts : List Expr} {kk : Nat} {tpos : Pos} {a b z TI TO i1 i2 : Addr} (D : ZipSep2 z TI TO i1 i2 [i1, a] [i2, b]) :
    Turn P w K (.Tuple elts kk tpos) (ItzM K a b) [z, TI, TO, i1, i2] z (SnM a b z TI TO i1 i2) where
  mem := by simp
  obj := fun i h st c hc => by
    obtain ⟨hz, hTI, ⟨x, y, hTO⟩, ⟨o1, e1, _, d1⟩, ⟨o2, e2, _, d2⟩⟩ := st
    simp only [List.mem_cons, List.not_mem_nil, or_false] at hc
    rcases hc with rfl | rfl | rfl | rfl | rfl
    · exact ⟨_, hz, fun v q => nomatch q⟩
    · exact ⟨_, hTI, fun v q => nomatch q⟩
    · exact ⟨_, hTO, fun v q => nomatch q⟩
    · exact ⟨o1, e1, fun v q => by rw [d1] at q; cases q⟩
    · exact ⟨o2, e2, fun v q => by rw [d2] at q; cases q⟩
  keep := fun i h h' st k => ⟨k z (by simp) _ st.1, k TI (by simp) _ st.2.1, let ⟨x, y, q⟩ := st.2.2.1; ⟨x, y, k TO (by simp) _ q⟩, st.2.2.2.1.at fun o q => k i1 (by simp) o q, st.2.2.2.2.at fun o q => k i2 (by simp) o q⟩
  item := by
    intro X hP hw hK hc i pins s σ H E I hf st hg
    subst hP hw hK
    obtain ⟨hz, hTI, ⟨x0, y0, hTO⟩, h1, h2⟩ := st
    obtain ⟨xs, ys, x, y, hqx, hqy, hx, hy⟩ := hg
    obtain ⟨its, rv, pl, _⟩ := I.list hqx
    obtain ⟨its2, rv2, p2, _⟩ := I.tuple hqy
    have p := pl.isList
    obtain ⟨u, hu, ru⟩ := rv.get hx
    obtain ⟨u2, hu2, ru2⟩ := rv2.get hy
    have lt1 : i < its.toArray.size := by
      have := (List.getElem?_eq_some_iff.mp hu).1
      rw [List.size_toArray]; exact this
    have lt2 : i < its2.toArray.size := by
      have := (List.getElem?_eq_some_iff.mp hu2).1
      rw [List.size_toArray]; exact this
    have hai : a ≠ i1 := fun q => D.zf1 (by
      obtain ⟨o1, q1, c1, _⟩ := h1
      obtain ⟨o2, n2, q2, c2, _⟩ := pl
      rw [q, q1] at q2; cases q2; rw [c1] at c2; exact absurd c2 (by decide))
    have hbi : b ≠ i2 := fun q => D.zf2 (by
      obtain ⟨o1, q1, c1, _⟩ := h2
      obtain ⟨o2, q2, c2, _⟩ := p2
      rw [q, q1] at q2; cases q2; rw [c1] at c2; exact absurd c2 (by decide))
    have hd := I.ok.hd hc
    refine wpAny_pyNext_zipD2_item D (Draws.list (A := X.A.in1) hd i1 a hai its.toArray) (Draws.tuple (A := X.A.in1) hd i2 b hbi its2.toArray) hz hTI hTO ⟨h1, p⟩ ⟨h2, p2⟩ lt1 lt2 fun x1 x2 h' tk P1 P2 z' TO' s1 s2 hT hsz hk => ?_
    have ex1 : x1 = u := by
      have P1 : its.toArray[i]? = some x1 := P1
      rw [List.getElem?_toArray, hu] at P1
      exact (Option.some.inj P1).symm
    have ex2 : x2 = u2 := by
      have P2 : its2.toArray[i]? = some x2 := P2
      rw [List.getElem?_toArray, hu2] at P2
      exact (Option.some.inj P2).symm
    subst ex1 ex2
    have lz := Heap.lt_size hz
    refine ⟨_, rfl, wpAny_letOwnedTupleGo_zip (s := { s with heap := h', toks := tk }) z' fun h'' z'' sb => ?_⟩
    have old : ∀ c o, c ≠ z → c ≠ TO → c ≠ i1 → c ≠ i2 → s.heap.get? c = some o → h''.get? c = some o := fun c o n1 n2 n3 n4 q => (sb.2 c n1).trans (hk c o n1 n2 n3 n4 q)
    have new : ObjOk X.prog X.w (upd H s.heap.objs.size (.tup [x, y])) h'' s.heap.objs.size (.tup [x, y]) :=
      ⟨by show 2 ≤ sizeLine; decide, _, .cons ru (.cons ru2 .nil), ⟨_, (sb.2 _ (Nat.ne_of_gt lz)).trans hT, rfl, _, rfl⟩⟩
    have I1 := I.turnedNew (t' := tk) (ch := [z, TI, TO, i1, i2]) (fun c o hb q => old c o (fun e => hb (by simp [e])) (fun e => hb (by simp [e])) (fun e => hb (by simp [e])) (fun e => hb (by simp [e])) q) hf (Nat.le_refl _) new
    refine ⟨.ref s.heap.objs.size, _, I1, rfl, ⟨_, x, y, rfl, I.hok.fresh (Nat.le_refl _), rfl, fun l hl => by rw [I.list_inj hl hqx]; exact hx, fun l hl => by rw [I.tuple_inj hl hqy]; exact hy⟩, ⟨z'', old _ _ D.TIz D.TITO D.TIi1 D.TIi2 hTI, ⟨x1, x2, (sb.2 _ D.TOz).trans TO'⟩, s1.1.at fun o q => (sb.2 _ (Ne.symm D.zi1)).trans q, s2.1.at fun o q => (sb.2 _ (Ne.symm D.zi2)).trans q⟩, fun c hcm => ?_⟩
    have hlt : c < s.heap.objs.size := by
      simp only [List.mem_cons, List.not_mem_nil, or_false] at hcm
      rcases hcm with rfl | rfl | rfl | rfl | rfl
      · exact lz
      · exact Heap.lt_size hTI
      · exact Heap.lt_size hTO
      · obtain ⟨_, q, _⟩ := h1; exact Heap.lt_size q
      · obtain ⟨_, q, _⟩ := h2; exact Heap.lt_size q
    rw [upd_ne (Nat.ne_of_lt hlt)]
    exact (hf c hcm).1
  done := by
    intro X hP hw hK hc i pins s σ H E I hf st hg
    subst hP hw hK
    obtain ⟨hz, hTI, ⟨x0, y0, hTO⟩, h1, h2⟩ := st
    obtain ⟨xs, ys, hqx, hqy, l1, l2, l3⟩ := hg
    obtain ⟨its, rv, pl, _⟩ := I.list hqx
    obtain ⟨its2, rv2, p2, _⟩ := I.tuple hqy
    have p := pl.isList
    have hd := I.ok.hd hc
    have n1 := rv.length
    have n2 := rv2.length
    have hai : a ≠ i1 := fun q => D.zf1 (by
      obtain ⟨o1, q1, c1, _⟩ := h1
      obtain ⟨o2, n2, q2, c2, _⟩ := pl
      rw [q, q1] at q2; cases q2; rw [c1] at c2; exact absurd c2 (by decide))
    have hbi : b ≠ i2 := fun q => D.zf2 (by
      obtain ⟨o1, q1, c1, _⟩ := h2
      obtain ⟨o2, q2, c2, _⟩ := p2
      rw [q, q1] at q2; cases q2; rw [c1] at c2; exact absurd c2 (by decide))
    refine wpAny_pyNext_zipD2_end D (Draws.list (A := X.A.in1) hd i1 a hai its.toArray) (Draws.tuple (A := X.A.in1) hd i2 b hbi its2.toArray) hz hTI hTO ⟨h1, p⟩ ⟨h2, p2⟩ (by rw [List.size_toArray]; omega) (by rw [List.size_toArray]; omega) (by rw [List.size_toArray, List.size_toArray]; omega) fun h' tk hk => ⟨rfl, ?_⟩
    exact I.turnedL (t' := tk) (ch := [z, TI, TO, i1, i2]) (fun c o hb q => hk c o (fun e => hb (by simp [e])) (fun e => hb (by simp [e])) (fun e => hb (by simp [e])) (fun e => hb (by simp [e])) q) hf
  self := fun A i s Q E st h => wpAny_pyIter_zip st.1 h
def iZipM (K : PySem.W.Frag) (ta : TA) : TI := fun σ H R => ta σ H fun vs H1 => ∃ a b xs ys, vs = [.ref a, .ref b] ∧ SqL K H1 a xs ∧ SqT K H1 b ys ∧ R (ItzM K a b) H1
theorem pi_zipM {X : Cx} {e e2 : Expr} {ta : TA} {p pos tpos : Pos} {elts : List Expr} {kk : Nat} (hg : Gl X "zip") (hm : X.mg "zip" = none) (ha : PA X [e, e2] ta)
    (hs : starEach [e, e2] X.env = (false, eval e X.env) :: starEach [e2] X.env := by rfl) (hpl : (backTo pos (starEach [e2] X.env)).any (·.1) = false := by rfl) :
    PI X (.Tuple elts kk tpos) (.Call (.Name "zip" p) [e, e2] [] pos) (iZipM X.K ta) := by
  refine ⟨fun pins s σ H R I h => ?_⟩
  refine Call_ (ld_blt I hg hm PyProof.Rows.boot_zip (PyProof.Rows.callWith_type1 (thn (ha.run pos pins s σ H _ I h) fun us s1 ⟨vs, H1, I1, r1, q1⟩ => ?_) hs hpl))
  obtain ⟨a, b, xs, ys, ex, hqx, hqy, q⟩ := q1
  subst ex
  cases r1 with
  | cons r rr =>
    cases rr with
    | cons r' rr =>
      cases rr
      cases r
      cases r'
      obtain ⟨its, rv, pl, _⟩ := I1.list hqx
      obtain ⟨its2, rv2, p2, _⟩ := I1.tuple hqy
      have p1 := pl.isList
      have la : a < s1.heap.objs.size := pl.lt
      have lb : b < s1.heap.objs.size := by obtain ⟨_, q, _⟩ := p2; exact Heap.lt_size q
      refine zip_begins2 (begins_list a its.toArray) (begins_tuple b its2.toArray) p1 p2 fun h' hz hTI hTO e1 e2 hsz hk => wpAny_pyIter_zip hz ?_
      have I2 : Inv X pins σ H1 { s1 with heap := h' } := I1.kept (t' := s1.toks) hk
      have D := zip_sep2 (N := s1.heap.objs.size) (fp1 := [a]) (fp2 := [b]) (fun c hc => by rw [List.mem_singleton.mp hc]; exact la) (fun c hc => by rw [List.mem_singleton.mp hc]; exact lb)
      refine ⟨_, [s1.heap.objs.size + 4, s1.heap.objs.size + 2, s1.heap.objs.size + 3, s1.heap.objs.size, s1.heap.objs.size + 1], _, _, H1, rfl, I2, turn_zipM D, ⟨hz, hTI, ⟨_, _, hTO⟩, ⟨_, e1, rfl, rfl⟩, ⟨_, e2, rfl, rfl⟩⟩, fun c hcm => ?_, q⟩
      have hle : s1.heap.objs.size ≤ c := by
        simp only [List.mem_cons, List.not_mem_nil, or_false] at hcm
        rcases hcm with e | e | e | e | e <;> rw [e] <;> omega
      exact I1.fpOk hle (I1.hok.fresh hle)
section
variable {X : Cx} {K : Kx} {E : XK} {a b : Expr} {ta : TA} {ga : GA} {pos : Pos}
theorem wk_zipM {F : PySem.W.Frag} (hKF : K.F = F) {G1 : Hp} {a b : Addr} {xs ys : List V} {ds es : List PyData} (h : G1 a = some (.lst xs)) (r : RpL K G1 xs ds) (h' : TupAt K.F G1 b ys) (r' : RpL K G1 ys es) : Wk K (ItzM F a b) G1 (zipD ds es) := by
  intro c H G cu k w
  have hA : SqL F H a xs := SqL.of (w.sub _ _ (k _ _ h))
  have hB : SqT F H b ys := TupAt.sq' hKF ((h'.mono k).mono w.sub)
  have n1 := r.length
  have n2 := r'.length
  refine ⟨fun i d e => ?_, ⟨xs, ys, hA, hB, by rw [zipD_length]; omega, by rw [zipD_length]; omega, by rw [zipD_length]; omega⟩⟩
  obtain ⟨x, y, e1, e2, rfl⟩ := zipD_get e
  obtain ⟨v, e1, rv⟩ := r.get e1
  obtain ⟨u, e2, ru⟩ := r'.get e2
  refine ⟨⟨xs, ys, v, u, hA, hB, e1, e2⟩, fun z H' y => ?_⟩
  obtain ⟨T, x1, x2, rfl, hT, rfl, f1, f2⟩ := y
  obtain rfl : v = x1 := Option.some.inj (e1.symm.trans (f1 xs hA))
  obtain rfl : u = x2 := Option.some.inj (e2.symm.trans (f2 ys hB))
  obtain ⟨n1, n2⟩ := w.new (o := .tup [v, u]) hT
  exact ⟨_, n1, n2, .tup upd_same (RpL.upd (.cons (rv.mono k) (.cons (ru.mono k) .nil)) (w.gp hT))⟩
def dZipM : List PyData → Option (List PyData)
  | [.list xs, .tuple ys] => some (zipD xs ys)
  | _ => none
theorem pid_zipM {elts : List Expr} {kk : Nat} {tpos p : Pos} (hg : Gl X "zip") (hm : X.mg "zip" = none) (ha : PAD X K E [a, b] ta ga) (hs : starEach [a, b] X.env = (false, eval a X.env) :: starEach [b] X.env := by rfl) (hpl : (backTo pos (starEach [b] X.env)).any (·.1) = false := by rfl) (hKF : K.F = X.K := by assumption) :
    PID X K E (.Tuple elts kk tpos) (.Call (.Name "zip" p) [a, b] [] pos) (iZipM X.K ta) (giArg dZipM ga) := by
  refine ⟨pi_zipM hg hm ha.pa hs hpl, fun c H0 G0 σ H G ρ cu R s q => ?_⟩
  refine ha.sem c H0 G0 σ H G ρ cu _ s (q.bind.imp fun as H1 G1 cu1 x1 w1 q1 vs rvs => ?_)
  obtain ⟨items, ez, q2⟩ := q1.ofO
  cases e : dats as with
  | none => rw [e] at ez; cases ez
  | some ds =>
    rw [e] at ez
    have ez : dZipM ds = some items := ez
    have r := dats_rp rvs e
    unfold dZipM at ez
    split at ez
    · cases ez
      obtain ⟨v, w, rfl, rv, rw'⟩ := r.two
      obtain ⟨a, xs, rfl, ha, ra⟩ := rv.lst_of
      obtain ⟨b, ys, rfl, hb, rb⟩ := rw'.tup_of
      exact ⟨a, b, xs, ys, rfl, SqL.of (w1.sub _ _ ha), TupAt.sq' hKF (TupAt.mono w1.sub hb), q2 H1 G1 Ext.refl w1 _ (wk_zipM hKF ha ra hb rb)⟩
    · cases ez
/-! lcm -/
def rLcm : List V → Hp → VK → Prop := fun vs H Q => ∃ a b : Int, vs = [.int a, .int b] ∧ a.natAbs < 2 ^ 4000 ∧ b.natAbs < 2 ^ 4000 ∧ Q (.int ((Nat.lcm a.natAbs b.natAbs : Nat) : Int)) H
theorem cr_lcm : CallR X (.builtin "math.lcm") rLcm := by
  intro pins s σ H vs us Q I r h
  obtain ⟨a, b, rfl, ha, hb, q⟩ := h
  obtain ⟨t, u, rfl⟩ := Vals.int2 r
  have hp : (1 : Nat) < 2 ^ 4000 := Nat.one_lt_two_pow (by decide)
  have h1 : (max 1 a.natAbs).log2 ≤ 3999 := PySem.W.mg_log (by omega)
  have h2 : (max a.natAbs b.natAbs).log2 ≤ 3999 := PySem.W.mg_log (by omega)
  have h3 : (Nat.lcm a.natAbs b.natAbs) < 2 ^ 8000 := by
    have e1 : Nat.lcm a.natAbs b.natAbs ≤ a.natAbs * b.natAbs := Nat.div_le_self _ _
    have e2 : a.natAbs * b.natAbs < 2 ^ 4000 * 2 ^ 4000 := Nat.mul_lt_mul'' ha hb
    rw [← Nat.pow_add] at e2
    exact Nat.lt_of_le_of_lt e1 e2
  have e0 : (Nat.lcm 1 a.natAbs) = a.natAbs := Nat.lcm_one_left _
  have h4 : ((((Nat.lcm 1 a.natAbs).lcm b.natAbs : Nat) : Int)).natAbs.log2 < bitsLine := by
    rw [e0, Int.natAbs_natCast]
    have := PySem.W.mg_log (k := 7999) h3
    have hl : (8000 : Nat) < bitsLine := by decide
    omega
  have g := PySem.W.mg_run_lcm a t b u (by omega) (by omega) h4
  rw [e0] at g
  exact call_function_meets PySem.W.MGF.kind_lcm PySem.W.MGF.plain_lcm PySem.W.MGF.entry_lcm (PySem.W.MGF.args_lcm _ _) g.meets ⟨.int _, H, I.tok _, ⟨_, rfl⟩, q⟩
def dLcm : List PyData → Option PyData
  | [.int a, .int b] => if a.natAbs < 2 ^ 4000 ∧ b.natAbs < 2 ^ 4000 then some (.int ((Nat.lcm a.natAbs b.natAbs : Nat) : Int)) else none
  | _ => none
theorem callD_lcm : CallD K rLcm dLcm := by
  intro c H G cu vs ds z Q wd r hz q
  unfold dLcm at hz
  split at hz
  · rename_i a b
    split at hz
    · rename_i hh
      cases hz
      cases r with
      | cons h r =>
        obtain ⟨v, rfl, rv⟩ := r.one
        rw [h.int_of, rv.int_of]
        exact ⟨a, b, rfl, hh.1, hh.2, q _ H G Ext.refl wd (.int _)⟩
    · cases hz
  · cases hz
end
end DL

set_option Elab.async false
set_option linter.all false
set_option maxRecDepth 100000
set_option autoImplicit false
/-! reckonings piece by piece -/
namespace DL
open PySem PySem.Spec PyProof.Rows L2
section
variable {ρ ρ1 ρ2 ρ3 : En} {cu cu1 cu2 cu3 cu4 : Cu} {a b c d e z : PyData} {ga gb gc g : GE} {f f' : PyData → PyData → Option PyData} {h : PyData → Option PyData} {fl : List PyData → Option PyData} {fi : List PyData → Option (List PyData)}
  {ra rb : GA} {as bs : List Sl} {ds es items : List PyData} {gt gu : GT} {s s' : GS} {k k' : Bool} {o : Ou} {gi : GI} {gg : GG} {F : GF} {n i j : Nat} {q q' : GO} {lo hi : Option Int}
theorem kVar (hv : ρ[i]? = some (Sl.dat d)) : gVar i ρ cu = .ok d cu := by unfold gVar; rw [hv]
theorem kC : gC d ρ cu = .ok d cu := rfl
theorem kBin (ha : ga ρ cu = .ok a cu1) (hb : gb ρ cu1 = .ok b cu2) (hf : f a b = some z) : gBin f ga gb ρ cu = .ok z cu2 := by
  unfold gBin; rw [ha, Rs.bind_ok, hb, Rs.bind_ok, hf, Rs.ofO_some]
theorem kUn (ha : ga ρ cu = .ok a cu1) (hf : h a = some z) : gUn h ga ρ cu = .ok z cu1 := by
  unfold gUn; rw [ha, Rs.bind_ok, hf, Rs.ofO_some]
theorem aN : gaNil ρ cu = .ok [] cu := rfl
theorem aC (ha : ga ρ cu = .ok a cu1) (hr : ra ρ cu1 = .ok as cu2) : gaCons ga ra ρ cu = .ok (.dat a :: as) cu2 := by
  unfold gaCons; rw [ha, Rs.bind_ok, hr, Rs.bind_ok]
theorem aCup (hv : ρ[i]? = some Sl.cup) (hr : ra ρ cu = .ok as cu2) : gaCup i ra ρ cu = .ok (.cup :: as) cu2 := by
  unfold gaCup; rw [hv]; dsimp only; rw [hr, Rs.bind_ok]
theorem kApp (ha : ra ρ cu = .ok as cu1) (hf : F as cu1 = .ok d cu2) (hn : as.length = n := by rfl) : gApp n F ra ρ cu = .ok d cu2 := by
  unfold gApp; rw [ha, Rs.bind_ok, if_pos hn, hf]
theorem kCall (ha : ra ρ cu = .ok as cu1) (hf : fl ds = some z) (hd : dats as = some ds := by rfl) : gCall fl ra ρ cu = .ok z cu1 := by
  unfold gCall; rw [ha, Rs.bind_ok, hd, Option.bind_some, hf, Rs.ofO_some]
theorem kDisp {mk : List PyData → PyData} (ha : ra ρ cu = .ok as cu1) (hd : dats as = some ds := by rfl) (hl : ds.length ≤ 16777216 := by decide) : gDisp mk ra ρ cu = .ok (mk ds) cu1 := by
  unfold gDisp; rw [ha, Rs.bind_ok, hd, Option.bind_some, if_pos hl, Rs.ofO_some]
theorem tBool (ha : ga ρ cu = .ok (.bool k) cu1) : gBool ga ρ cu = .ok k cu1 := by
  unfold gBool; rw [ha, Rs.bind_ok, dBool_bl, Rs.ofO_some]
theorem tTru (ha : ga ρ cu = .ok a cu1) (hk : dTru a = some k) : gTru ga ρ cu = .ok k cu1 := by
  unfold gTru; rw [ha, Rs.bind_ok, hk, Rs.ofO_some]
theorem tNot (ha : gt ρ cu = .ok k cu1) : gNot gt ρ cu = .ok (!k) cu1 := by
  unfold gNot; rw [ha, Rs.bind_ok]
theorem tOrT (ha : gt ρ cu = .ok true cu1) : gOr gt gu ρ cu = .ok true cu1 := by
  unfold gOr; rw [ha, Rs.bind_ok, if_pos rfl]
theorem tOrF (ha : gt ρ cu = .ok false cu1) (hb : gu ρ cu1 = .ok k cu2) : gOr gt gu ρ cu = .ok k cu2 := by
  unfold gOr; rw [ha, Rs.bind_ok, if_neg Bool.false_ne_true, hb]
theorem tAndF (ha : gt ρ cu = .ok false cu1) : gAnd gt gu ρ cu = .ok false cu1 := by
  unfold gAnd; rw [ha, Rs.bind_ok, if_neg Bool.false_ne_true]
theorem tAndT (ha : gt ρ cu = .ok true cu1) (hb : gu ρ cu1 = .ok k cu2) : gAnd gt gu ρ cu = .ok k cu2 := by
  unfold gAnd; rw [ha, Rs.bind_ok, if_pos rfl, hb]
theorem kAndT (ha : ga ρ cu = .ok (.bool true) cu1) (hb : gb ρ cu1 = .ok b cu2) : gAndV ga gb ρ cu = .ok b cu2 := by
  unfold gAndV; rw [ha, Rs.bind_ok, dBool_bl, Rs.ofO_some, Rs.bind_ok, if_pos rfl, hb]
theorem kAndF (ha : ga ρ cu = .ok (.bool false) cu1) : gAndV ga gb ρ cu = .ok (.bool false) cu1 := by
  unfold gAndV; rw [ha, Rs.bind_ok, dBool_bl, Rs.ofO_some, Rs.bind_ok, if_neg Bool.false_ne_true]
theorem kOrT (ha : ga ρ cu = .ok (.bool true) cu1) : gOrV ga gb ρ cu = .ok (.bool true) cu1 := by
  unfold gOrV; rw [ha, Rs.bind_ok, dBool_bl, Rs.ofO_some, Rs.bind_ok, if_pos rfl]
theorem kOrF (ha : ga ρ cu = .ok (.bool false) cu1) (hb : gb ρ cu1 = .ok b cu2) : gOrV ga gb ρ cu = .ok b cu2 := by
  unfold gOrV; rw [ha, Rs.bind_ok, dBool_bl, Rs.ofO_some, Rs.bind_ok, if_neg Bool.false_ne_true, hb]
theorem kNotV (ha : ga ρ cu = .ok (.bool k) cu1) : gNotV ga ρ cu = .ok (.bool (!k)) cu1 := by
  unfold gNotV; rw [ha, Rs.bind_ok, dBool_bl, Rs.ofO_some, Rs.bind_ok]
theorem kIsi {T : String} (ha : ga ρ cu = .ok a cu1) (hk : isiOf T a = some k) : gIsi T ga ρ cu = .ok (.bool k) cu1 := by
  unfold gIsi; rw [ha, Rs.bind_ok, hk, Option.map_some, Rs.ofO_some]
theorem kIfT (ht : gt ρ cu = .ok true cu1) (ha : ga ρ cu1 = .ok a cu2) : gIfE gt ga gb ρ cu = .ok a cu2 := by
  unfold gIfE; rw [ht, Rs.bind_ok, if_pos rfl, ha]
theorem kIfF (ht : gt ρ cu = .ok false cu1) (ha : gb ρ cu1 = .ok a cu2) : gIfE gt ga gb ρ cu = .ok a cu2 := by
  unfold gIfE; rw [ht, Rs.bind_ok, if_neg Bool.false_ne_true, ha]
theorem kChain2 (ha : ga ρ cu = .ok a cu1) (hb : gb ρ cu1 = .ok b cu2) (hf : (f a b).bind dBool = some true) (hc : gc ρ cu2 = .ok c cu3) (hf' : f' b c = some z) : gChain f f' ga gb gc ρ cu = .ok z cu3 := by
  unfold gChain; rw [ha, Rs.bind_ok, hb, Rs.bind_ok, hf, Rs.ofO_some, Rs.bind_ok, if_pos rfl, hc, Rs.bind_ok, hf', Rs.ofO_some]
theorem kSlice (ha : ga ρ cu = .ok a cu1) (hq : q ρ cu1 = .ok lo cu2) (hq' : q' ρ cu2 = .ok hi cu3) (hz : dCut a lo hi = some z) : gSlice ga q q' ρ cu = .ok z cu3 := by
  unfold gSlice; rw [ha, Rs.bind_ok, hq, Rs.bind_ok, hq', Rs.bind_ok, hz, Rs.ofO_some]
theorem oN : gNoPart ρ cu = .ok none cu := rfl
theorem oI {x : Int} (ha : ga ρ cu = .ok (.int x) cu1) : gPart ga ρ cu = .ok (some x) cu1 := by
  unfold gPart; rw [ha, Rs.bind_ok]; rfl
theorem kLst (hg : gi ρ cu = .ok ds cu1) : gL gi ρ cu = .ok (.list ds) cu1 := by
  unfold gL; rw [hg, Rs.bind_ok]
theorem kLc {vs : List Nat} {ge : GE} (hi : gi ρ cu = .ok items cu1) (hl : items.length < 16777216) (hc : gLcL gg gt ge items (wipeE ρ vs) cu1 = .ok ds cu2) : gLc gi vs gg gt ge ρ cu = .ok ds cu2 := by
  unfold gLc; rw [hi, Rs.bind_ok, if_pos hl, hc]
theorem iArg (ha : ra ρ cu = .ok as cu1) (hf : fi ds = some es) (hd : dats as = some ds := by rfl) : giArg fi ra ρ cu = .ok es cu1 := by
  unfold giArg; rw [ha, Rs.bind_ok, hd, Option.bind_some, hf, Rs.ofO_some]
theorem iLst (ha : ga ρ cu = .ok (.list ds) cu1) : giLst ga ρ cu = .ok ds cu1 := by
  unfold giLst; rw [ha, Rs.bind_ok]; rfl
theorem iTup (ha : ga ρ cu = .ok (.tuple ds) cu1) : giTup ga ρ cu = .ok ds cu1 := by
  unfold giTup; rw [ha, Rs.bind_ok]; rfl
/-! rows -/
theorem rSet (ha : ga ρ cu = .ok a cu1) : gSet i ga ρ cu = .ok (.nx (ρ.set i (.dat a))) cu1 := by
  unfold gSet; rw [ha, Rs.bind_ok]
theorem rSetO (ha : gi ρ cu = .ok ds cu1) : gSetO i gi ρ cu = .ok (.nx (ρ.set i (.own ds))) cu1 := by
  unfold gSetO; rw [ha, Rs.bind_ok]
theorem rSeq (ha : s ρ cu = .ok (.nx ρ1) cu1) (hb : s' ρ1 cu1 = .ok o cu2) : gSeq s s' ρ cu = .ok o cu2 := by
  unfold gSeq; rw [ha, Rs.bind_ok]; exact hb
theorem rSeqR (ha : s ρ cu = .ok (.ret d) cu1) : gSeq s s' ρ cu = .ok (.ret d) cu1 := by
  unfold gSeq; rw [ha, Rs.bind_ok]
theorem rRet (ha : ga ρ cu = .ok a cu1) : gRet ga ρ cu = .ok (.ret a) cu1 := by
  unfold gRet; rw [ha, Rs.bind_ok]
theorem rDrop (ha : ga ρ cu = .ok a cu1) : gDrop ga ρ cu = .ok (.nx ρ) cu1 := by
  unfold gDrop; rw [ha, Rs.bind_ok]
theorem rIfT (ht : gt ρ cu = .ok true cu1) (ha : s ρ cu1 = .ok o cu2) : gIf gt s s' ρ cu = .ok o cu2 := by
  unfold gIf; rw [ht, Rs.bind_ok, if_pos rfl, ha]
theorem rIfF (ht : gt ρ cu = .ok false cu1) (ha : s' ρ cu1 = .ok o cu2) : gIf gt s s' ρ cu = .ok o cu2 := by
  unfold gIf; rw [ht, Rs.bind_ok, if_neg Bool.false_ne_true, ha]
theorem rSkip : gSkip ρ cu = .ok (.nx ρ) cu := rfl
theorem rAsg (ha : ga ρ cu = .ok a cu1) (hg : gg a ρ = some ρ1) : gAsg ga gg ρ cu = .ok (.nx ρ1) cu1 := by
  unfold gAsg; rw [ha, Rs.bind_ok, hg, Rs.ofO_some, Rs.bind_ok]
theorem rPar (ha : ra ρ cu = .ok [.dat a, .dat b] cu1) : gPar i j ra ρ cu = .ok (.nx ((ρ.set i (.dat a)).set j (.dat b))) cu1 := by
  unfold gPar; rw [ha, Rs.bind_ok]
theorem rFor (hi : gi ρ cu = .ok items cu1) (hf : gForL gg s items ρ cu1 = .ok o cu2) : gFor gi gg s ρ cu = .ok o cu2 := by
  unfold gFor; rw [hi, Rs.bind_ok, hf]
theorem rForN : gForL gg s [] ρ cu = .ok (.nx ρ) cu := rfl
theorem rForC (hg : gg d ρ = some ρ1) (hb : s ρ1 cu = .ok (.nx ρ2) cu1) (hr : gForL gg s items ρ2 cu1 = .ok o cu2) : gForL gg s (d :: items) ρ cu = .ok o cu2 := by
  rw [gForL_cons, hg, Rs.ofO_some, Rs.bind_ok, hb, Rs.bind_ok]; exact hr
theorem rFrz (hv : ρ[i]? = some (Sl.own ds)) (hs : s (ρ.set i (.dat (.list ds))) cu = .ok o cu1) : gFrz i s ρ cu = .ok o cu1 := by
  unfold gFrz; rw [hv]; exact hs
theorem rApd (hv : ρ[i]? = some (Sl.own ds)) (ha : ga ρ cu = .ok a cu1) (hl : ds.length < 16777216) : gApd i ga ρ cu = .ok (.nx (ρ.set i (.own (ds ++ [a])))) cu1 := by
  unfold gApd; rw [hv]; dsimp only; rw [ha, Rs.bind_ok, if_pos hl]
theorem rAug (hv : ρ[i]? = some (Sl.dat d)) (ha : ga ρ cu = .ok a cu1) (hf : f d a = some z) : gAug i f ga ρ cu = .ok (.nx (ρ.set i (.dat z))) cu1 := by
  unfold gAug
  first
    | (rw [hv]; dsimp only; rw [ha, Rs.bind_ok, hf, Rs.ofO_some, Rs.bind_ok])
    | (simp only [gVar, hv, ha, hf, Rs.bind_ok, Rs.ofO_some])
theorem kFn {gs : GS} (hg : gs (as ++ List.replicate (n - as.length) .un) cu = .ok (.ret d) cu1) : gFn n gs as cu = .ok d cu1 := by
  unfold gFn; rw [hg]; rfl
theorem kFnN {gs : GS} (hg : gs (as ++ List.replicate (n - as.length) .un) cu = .ok (.nx ρ1) cu1) : gFn n gs as cu = .ok .none cu1 := by
  unfold gFn; rw [hg]; rfl
theorem rWhileF (ht : gt ρ cu = .ok false cu1) : gWhileF gt s (n + 1) ρ cu = .ok (.nx ρ) cu1 := by
  show ((gt ρ cu).bind _) = _
  rw [ht, Rs.bind_ok, if_neg Bool.false_ne_true]
theorem rWhileT (ht : gt ρ cu = .ok true cu1) (hb : s ρ cu1 = .ok (.nx ρ1) cu2) (hw : gWhileF gt s n ρ1 cu2 = .ok o cu3) : gWhileF gt s (n + 1) ρ cu = .ok o cu3 := by
  show ((gt ρ cu).bind _) = _
  rw [ht, Rs.bind_ok, if_pos rfl, hb, Rs.bind_ok]
  exact hw
theorem kLenO (hv : ρ[i]? = some (Sl.own ds)) : gLenO i ρ cu = .ok (.int ds.length) cu := by unfold gLenO; rw [hv]
theorem kIxO (hv : ρ[i]? = some (Sl.own ds)) (ha : ga ρ cu = .ok a cu1) (hz : dIx (.list ds) a = some z) : gIxO i ga ρ cu = .ok z cu1 := by
  unfold gIxO; rw [hv]; dsimp only; rw [ha, Rs.bind_ok, hz, Rs.ofO_some]
theorem rStO (hv : ρ[i]? = some (Sl.own ds)) (ha : ga ρ cu = .ok a cu1) (hb : gb ρ cu1 = .ok b cu2) (hx : ixO ds b a = some es) : gStO i ga gb ρ cu = .ok (.nx (ρ.set i (.own es))) cu2 := by
  unfold gStO; rw [hv]; dsimp only; rw [ha, Rs.bind_ok, hb, Rs.bind_ok, hx, Rs.ofO_some, Rs.bind_ok]
theorem rAugO (hv : ρ[i]? = some (Sl.own ds)) (ha : ga ρ cu = .ok a cu1) (hx : dIx (.list ds) a = some c) (hb : gb ρ cu1 = .ok b cu2) (hf : f c b = some d) (hy : ixO ds a d = some es) : gAugO i f ga gb ρ cu = .ok (.nx (ρ.set i (.own es))) cu2 := by
  unfold gAugO; rw [hv]; dsimp only; rw [ha, Rs.bind_ok, hx, Rs.ofO_some, Rs.bind_ok, hb, Rs.bind_ok, hf, Rs.ofO_some, Rs.bind_ok, hy, Rs.ofO_some, Rs.bind_ok]
theorem iRep (ha : ga ρ cu = .ok a cu1) (hb : gb ρ cu1 = .ok b cu2) (hx : repL a b = some ds) : gfRep ga gb ρ cu = .ok ds cu2 := by
  unfold gfRep; rw [ha, Rs.bind_ok, hb, Rs.bind_ok, hx, Rs.ofO_some]
theorem iDisp (ha : ra ρ cu = .ok as cu1) (hd : dats as = some ds := by rfl) (hl : ds.length ≤ 16777216 := by decide) : gfDisp ra ρ cu = .ok ds cu1 := by
  unfold gfDisp
  rw [ha, Rs.bind_ok, hd]
  first
    | rw [Option.bind_some, if_pos hl, Rs.ofO_some]
    | (dsimp only; rw [if_pos hl])
    | simp [hl, Rs.ofO_some]
end
/-! items -/
theorem dIxT {l : List Int} {i : Nat} (hi : i < l.length) : dIx (tupI l) (.int (i : Int)) = some (.int l[i]) := by
  rw [dIx_tup]
  exact atI_nat (by rw [List.getElem?_map, List.getElem?_eq_getElem hi]; rfl)
theorem dIxL {l : List Int} {i : Nat} (hi : i < l.length) : dIx (lstI l) (.int (i : Int)) = some (.int l[i]) := by
  rw [dIx_lst]
  exact atI_nat (by rw [List.getElem?_map, List.getElem?_eq_getElem hi]; rfl)
theorem ixN_nat {n i : Nat} (hi : i < n) : ixN n (i : Int) = some i := by
  unfold ixN
  split <;> first | omega | simp_all
theorem ixO_int {l : List Int} {i : Nat} {x : Int} (hi : i < l.length) : ixO (l.map .int) (.int (i : Int)) (.int x) = some ((l.set i x).map .int) := by
  show (ixN (l.map PyData.int).length (i : Int)).map _ = _
  rw [List.length_map, ixN_nat hi, Option.map_some, List.map_set]
end DL

set_option Elab.async false
set_option linter.all false
set_option maxRecDepth 100000
set_option maxHeartbeats 2000000
set_option autoImplicit false
/-! divmod -/
namespace DL
open PySem PySem.Spec PyProof.Rows L2
section
variable {X : Cx} {K : Kx}
theorem bb_divmod : bootBuiltins "divmod" = some (.builtin "divmod") := by decide +kernel
def rDm (xs : List V) (H : Hp) (Q : VK) : Prop := ∃ i j, xs = [.int i, .int j] ∧ divOk i j = true ∧ ∀ p, H p = none → Q (.ref p) (upd H p (.tup [.int (i.fdiv j), .int (i.fmod j)]))
theorem call_dm : CallR X (.builtin "divmod") rDm := by
  intro pins s σ H xs us Q I r h
  obtain ⟨i, j, rfl, hc, q⟩ := h
  unfold divOk at hc
  rw [Bool.and_eq_true, decide_eq_true_eq, decide_eq_true_eq] at hc
  obtain ⟨u, w', rfl, ⟨t, rfl⟩, ⟨t', rfl⟩⟩ := vals2 r
  refine divmod_int hc.1 ?_ (.inl (PyProof.noPylong_of_log2 hc.2))
  have hn : H s.heap.objs.size = none := I.hok.fresh (Nat.le_refl _)
  refine ⟨.ref s.heap.objs.size, _, ?_, rfl, q _ hn⟩
  refine I.laid (fun b o e => Heap.get?_push_of_some _ e) (Nat.le_refl _) ⟨by simp only [List.length_cons, List.length_nil]; rw [sizeLine_eq]; decide, [.int (i.fdiv j) s.toks, .int (i.fmod j) (s.toks + 1)], .cons ⟨_, rfl⟩ (.cons ⟨_, rfl⟩ .nil), ?_⟩
  exact ⟨_, Heap.get?_push_size s.heap rfl, rfl, 0, rfl⟩
def dDm : List PyData → Option PyData
  | [.int i, .int j] => if divOk i j = true then some (.tuple [.int (i.fdiv j), .int (i.fmod j)]) else none
  | _ => none
theorem callD_dm : CallD K rDm dDm := by
  intro c H G cu vs ds z Q wd r hz q
  unfold dDm at hz
  split at hz
  · split at hz
    · rename_i i j hc
      cases hz
      cases r with
      | cons h r =>
        obtain ⟨v, rfl, rv⟩ := r.one
        rw [h.int_of, rv.int_of]
        exact ⟨i, j, rfl, hc, fun p hp => new_tup wd (.cons (.int _) (.cons (.int _) .nil)) q hp⟩
    · cases hz
  · cases hz
theorem dDm_int {i j : Int} (h : divOk i j = true) : dDm [.int i, .int j] = some (.tuple [.int (i.fdiv j), .int (i.fmod j)]) := if_pos h
end
end DL

set_option Elab.async false
set_option linter.all false
set_option maxRecDepth 100000
set_option maxHeartbeats 2000000
set_option autoImplicit false
/-! a new list by a comprehension, one's own; any of a list of integers; range down -/
namespace DL
open PySem PySem.Spec PyProof.Rows L2
section
variable {X : Cx} {K : Kx} {E : XK} {a b c e iter tg elt : Expr} {es ifs : List Expr} {te : TE} {ge : GE} {tt : TT} {gt : GT} {ta : TA} {ga : GA} {pos : Pos}
theorem psd_lcSetO {i : Nat} {y : Str} {py spos : Pos} {scope : Scope} {own : List (Str × Nat)} {wi : TI} {gi : GI} {gg : GG} {ws : List Nat} (hc : X.calm = true) (hN : X.N.Nodup) (hy : X.N[i]? = some y) (hyl : X.env.scope.names.lookup y = some .local)
    (hsw : swapsWith (.ListComp elt [⟨tg, iter, ifs, 0⟩] scope pos) (some (.Name y py)) spos.line X.env = pure true) (hi : PID X K E tg iter wi gi) (ok : BlkOk X.N X.env.scope scope own)
    (hg : ∀ (s : Shared) (H : Hp) (C : Addr) (cl : List (Str × Addr)) (fp : List Addr), ∃ t1, PGD (X.blk s H scope (compEnvC scope cl C X.env) fp) K tg t1 gg ws)
    (ht : ∀ (s : Shared) (H : Hp) (C : Addr) (cl : List (Str × Addr)) (fp : List Addr), ∃ tt, PTsD (X.blk s H scope (compEnvC scope cl C X.env) fp) K E0 ifs tt gt)
    (he : ∀ (s : Shared) (H : Hp) (C : Addr) (cl : List (Str × Addr)) (fp : List Addr), ∃ te, PD (X.blk s H scope (compEnvC scope cl C X.env) fp) K E0 elt te ge)
    (hw : ∀ j ∈ ws, j ∈ own.map (·.2) := by decide) (hs : ∀ x, foldedSetIterable iter X.env x = pure x := by intro _; rfl) :
    PSD X K E (.Assign [.Name y py] (.ListComp elt [⟨tg, iter, ifs, 0⟩] scope pos) spos) (tAsg (tLc wi (tgOf K gg ws) (ttOf K E0 gt) (tOf K E0 ge) (own.map (·.2))) (gName i)) (gSetO i (gLc gi (own.map (·.2)) gg gt ge)) :=
  ⟨ps_setLc hc hN hy hyl hsw hi.pi ok (fun s H C cl fp => let ⟨_, h⟩ := hg s H C cl fp; h.canon) (fun s H C cl fp => let ⟨_, h⟩ := ht s H C cl fp; h.canon) (fun s H C cl fp => let ⟨_, h⟩ := he s H C cl fp; h.canon) hs,
    sem_setO (sem_lc hi.sem (semG_of K gg ws) hw (semT_of K E0 gt) (sem_of K E0 ge))⟩
theorem truth_ints {prog : Program} {w : World} {A : Around} {ns : List Int} {its : List Value} (e : IntsAre its ns) :
    TruthOf prog w A (fun i v => its.toArray[i]? = some v) (fun i => ns.getD i 0 != 0) := fun i v s Q E hv hq => by
  have hv' : its[i]? = some v := by simpa using hv
  obtain ⟨t, rfl⟩ := e.int_at i v hv'
  exact PySem.P.truthy_int hq
theorem any_rangeI : ∀ ns : List Int, (List.range ns.length).any (fun i => ns.getD i 0 != 0) = ns.any (· != 0)
  | [] => rfl
  | n :: ns => by
    rw [List.length_cons, List.range_succ_eq_map, List.any_cons, List.any_map, List.any_cons, ← any_rangeI ns]
    all_goals rfl
def rAnyI (K : PySem.W.Frag) : List V → Hp → VK → Prop := fun vs H Q => ∃ (a : Addr) (ns : List Int), vs = [V.ref a] ∧ SqL K H a (ns.map V.int) ∧ Q (.bl (ns.any (· != 0))) H
theorem cr_anyI (hc : X.calm = true) : CallR X (.builtin "any") (rAnyI X.K) := by
  intro pins s σ H vs us Q I r h
  obtain ⟨a, bs, rfl, hs, q⟩ := h
  obtain ⟨its, rv, hl, _⟩ := I.list hs
  rw [Vals.ref1 r]
  have hb := rv.ints
  refine call_any_walk (iter_any hl.isList fun s₂ e2 st hne => ?_)
  subst e2
  refine ⟨_, _, _, _, _, _, _, rfl, Walks.list (A := X.A.in1) (I.ok.hd hc) _ a hne its.toArray, st, truth_ints hb, fun h' tk hk => ?_⟩
  refine ⟨.bl _, H, I.kept fun b o eo => hk b o (fun hmem => ?_) (Heap.get?_push_of_some _ eo), ?_, q⟩
  · rcases List.mem_cons.mp hmem with e1 | hmem
    · exact absurd (e1 ▸ Heap.lt_size eo) (Nat.lt_irrefl _)
    · cases hmem
  · show Value.bool _ = Value.bool _
    have hl : its.length = bs.length := by have := rv.length; rw [List.length_map] at this; exact this.symm
    rw [← any_rangeI, List.size_toArray, hl]
def dAnyI : List PyData → Option PyData
  | [.list ds] => (intsD ds).map fun ns => .bool (ns.any (· != 0))
  | _ => none
theorem callD_anyI : CallD K (rAnyI X.K) dAnyI := by
  intro c H G cu vs ds z Q wd r hz q
  unfold dAnyI at hz
  split at hz
  · rename_i es
    obtain ⟨v, rfl, rv⟩ := r.one
    obtain ⟨a, xs, rfl, ha, ra⟩ := rv.lst_of
    cases ei : intsD es with
    | none => rw [ei] at hz; cases hz
    | some ns =>
      rw [ei] at hz
      cases hz
      refine ⟨a, ns, rfl, ?_, q _ H G Ext.refl wd (.bl _)⟩
      rw [← ints_rp ra ei]
      exact SqL.of (wd.sub _ _ ha)
  · cases hz
theorem bb_any : bootBuiltins "any" = some (.builtin "any") := by decide +kernel
/-- lo, lo - 1, .. (n of them) -/
def dwnD (lo : Int) (n : Nat) : List PyData := (List.range n).map fun (i : Nat) => .int (lo + (i : Int) * -1)
theorem wk_dwn {G1 : Hp} (lo : Int) (n : Nat) : Wk K (Itc lo (-1) n) G1 (dwnD lo n) := by
  intro c H G cu k w
  have hl : (dwnD lo n).length = n := by unfold dwnD; rw [List.length_map, List.length_range]
  refine ⟨fun i d e => ?_, by rw [hl]; exact Nat.le_refl n⟩
  have hi : i < n := by rw [← hl]; exact (List.getElem?_eq_some_iff.mp e).1
  unfold dwnD at e
  rw [List.getElem?_map, List.getElem?_range hi] at e
  cases e
  refine ⟨hi, fun x H' y => ?_⟩
  obtain ⟨rfl, rfl⟩ := y
  exact ⟨G, Ext.refl, w, .int _⟩
def dRng3 : List PyData → Option (List PyData)
  | [.int i, .int j, .int c] => if c = -1 ∧ -(2 ^ 62) ≤ i ∧ i < 2 ^ 62 ∧ -(2 ^ 62) ≤ j ∧ j < 2 ^ 62 then some (dwnD i (i - j).toNat) else none
  | _ => none
theorem pid_rng3 {p : Pos} (hg : Gl X "range") (hm : X.mg "range" = none) (ha : PAD X K E [a, b, c] ta ga)
    (hs : starEach [a, b, c] X.env = (false, eval a X.env) :: starEach [b, c] X.env := by rfl) (hpl : (backTo pos (starEach [b, c] X.env)).any (·.1) = false := by rfl) : PID X K E tg (.Call (.Name "range" p) [a, b, c] [] pos) (iRng3 ta) (giArg dRng3 ga) := by
  refine ⟨pi_range3 hg hm ha.pa hs hpl, fun c H0 G0 σ H G ρ cu R s q => ?_⟩
  refine ha.sem c H0 G0 σ H G ρ cu _ s (q.bind.imp fun as H1 G1 cu1 x1 w1 q1 vs rvs => ?_)
  obtain ⟨items, ez, q2⟩ := q1.ofO
  cases e : dats as with
  | none => rw [e] at ez; cases ez
  | some ds =>
    rw [e] at ez
    have ey : dRng3 ds = some items := ez
    have r := dats_rp rvs e
    unfold dRng3 at ey
    split at ey
    · split at ey
      · rename_i hb
        obtain ⟨h0, h1, h2, h3, h4⟩ := hb
        subst h0
        cases ey
        cases r with
        | cons r0 rr =>
          obtain ⟨v, w, rfl, rv, rw'⟩ := rr.two
          rw [r0.int_of, rv.int_of, rw'.int_of]
          exact ⟨_, _, _, _, rfl, RgC.neg h1 h2 h3 h4, q2 H1 G1 Ext.refl w1 _ (wk_dwn _ _)⟩
      · cases ey
    · cases ey
/-- x, y = [..], e, where x is one's own list, and x or y a cell -/
theorem psd_asgO {i j : Nat} {x y : Str} {a b : Expr} {ta tb : TE} {g1 : GI} {g2 : GE} {px py pt : Pos} {kt k2 : Nat} {pt2 : Pos} (hc : X.calm = true) (hN : X.N.Nodup) (hi : X.N[i]? = some x) (hj : X.N[j]? = some y) (hij : i ≠ j)
    (hx : Loc X.env.scope x) (hy : Loc X.env.scope y) (ha : PFD X K E a ta g1) (hb : PD X K E b tb g2)
    (hs : swapsWithSole [.Tuple [.Name x px, .Name y py] kt pt] (.Tuple [a, b] k2 pt2) pos.line X.env = pure false := by rfl)
    (hw : swappedStores [.Tuple [.Name x px, .Name y py] kt pt] (.Tuple [a, b] k2 pt2) X.env = pure none := by rfl)
    (h0 : (assignEach [.Tuple [.Name x px, .Name y py] kt pt] X.env).map (·.2) = [assign (.Tuple [.Name x px, .Name y py] kt pt) X.env] := by rfl)
    (h1 : starEach [a, b] X.env = (false, eval a X.env) :: starEach [b] X.env := by rfl) (h2 : starEach [b] X.env = (false, eval b X.env) :: starEach [] X.env := by rfl)
    (hn : (assignEach [.Name x px, .Name y py] X.env).length = 2 := by rfl) (hst : (assignEach [.Name x px, .Name y py] X.env).findIdx? (·.1) = none := by rfl)
    (hf : X.fn x = true ∨ X.env.scope.names.lookup x = some .local := by first | exact .inl rfl | exact .inr rfl | assumption)
    (hf' : X.fn y = true ∨ X.env.scope.names.lookup y = some .local := by first | exact .inl rfl | exact .inr rfl | assumption) :
    PSD X K E (.Assign [.Tuple [.Name x px, .Name y py] kt pt] (.Tuple [a, b] k2 pt2) pos) (tAsg (tTup (tCons ta (tCons tb tNil))) (gTup X.K 2 (gCons (gName i) (gCons (gName j) gNil)))) (gParO i j g1 g2) := by
  refine ⟨ps_asg (pe_tup (pa_cons ha.pe (pa_cons hb.pe pa_nil h2) h1)) (pg_tup hc (pgs_cons (pg_name hN hi hx hf) (pgs_cons (pg_name hN hj hy hf') pgs_nil)) hn hst) hs hw h0, fun c H0 G0 σ H G ρ cu D s q => ?_⟩
  refine ha.sem c H0 G0 σ H G ρ cu _ s ((q.exp s).imp fun ds H1 G1 cu1 x1 w1 q1 p xs hp hp' r gp => ?_)
  refine hb.sem c H0 G0 σ H1 G1 ρ cu1 _ (s.go x1 w1) ((q1.exp (s.go x1 w1)).imp fun d H2 G2 cu2 x2 w2 q2 v rv => ?_)
  refine ⟨by rw [sizeLine_eq]; show 2 ≤ 16777216; decide, fun P hP => ?_⟩
  obtain ⟨x3, w3, gP⟩ := w2.newH (o := .tup [.ref p, v]) hP
  have xx := (x1.trans x2).trans x3
  have k1 := x2.h p _ hp' nt_lst (s.wd.nc hp)
  exact ⟨P, [.ref p, v], rfl, SqT.of upd_same, rfl, _, _, rfl, _, _, rfl, rfl, q2 _ _ G2 ((s.setO xx w3 hp (x3.h p _ k1 nt_lst (s.wd.nc hp)) (r.mono x2.g) (x2.n p _ hp' nt_lst gp)).set rv)⟩
end
end DL

set_option Elab.async false
set_option linter.all false
set_option maxRecDepth 100000
set_option maxHeartbeats 4000000
set_option autoImplicit false
namespace Prog
open PySem PySem.Spec PyProof.Rows L2 DL
structure Txt (P : Program) (w : World) (F : PySem.W.Frag) (mg : Str → Option Value) (base : Heap) (K : Kx) : Prop where
  b_abs : mg "abs" = none
  b_len : mg "len" = none
  b_min : mg "min" = none
  b_max : mg "max" = none
  b_sum : mg "sum" = none
  b_isinstance : mg "isinstance" = none
  b_range : mg "range" = none
  b_zip : mg "zip" = none
  b_enumerate : mg "enumerate" = none
  b_reversed : mg "reversed" = none
  b_all : mg "all" = none
  b_any : mg "any" = none
  b_divmod : mg "divmod" = none
  b_int : mg "int" = none
  b_bool : mg "bool" = none
  b_str : mg "str" = none
  b_tuple : mg "tuple" = none
  b_list : mg "list" = none
  b_isqrt : mg "isqrt" = some (.builtin "math.isqrt")
  b_gcd : mg "gcd" = some (.builtin "math.gcd")
  kf : K.F = F
  u_WHOLE : ∃ (u : Value) (v : V), mg "WHOLE" = some u ∧ RelV v u ∧ ∀ G : Hp, Rp K G v (.tuple [.str (PySem.Str.ofString "quot"), .int 0])
  c_LONGEST : ∃ u : Tok, mg "LONGEST" = some (.int 61 u)
  c_MOST_PARTS : ∃ u : Tok, mg "MOST_PARTS" = some (.int 20000 u)
  c_GREATEST : ∃ u : Tok, mg "GREATEST" = some (.int (10 ^ 50 * 10 ^ 50) u)
  c_LONGEST_WHOLE : ∃ u : Tok, mg "LONGEST_WHOLE" = some (.int 13 u)
  g_InvalidNumber : mg "InvalidNumber" = some (.ref (K.CL 0))
  g_InvalidLine : mg "InvalidLine" = some (.ref (K.CL 1))
  g_InvalidWhole : mg "InvalidWhole" = some (.ref (K.CL 2))
  g_PaperError : mg "PaperError" = some (.ref (K.CL 3))
  x_InvalidNumber : PySem.W.excIn F (K.CL 0) [.type "ValueError", .type "Exception", .type "BaseException", .type "object"] "ValueError.__new__" = true
  k_InvalidNumber : PySem.W.keepIn F (.ref (K.CL 0)) = true
  s_InvalidNumber : PySem.W.subIn F (.ref (K.CL 0)) (.type "BaseException") = some true
  t_InvalidNumber : PySem.W.typeIn F (.ref (K.CL 0)) = some (.type "type")
  x_InvalidLine : PySem.W.excIn F (K.CL 1) [.type "ValueError", .type "Exception", .type "BaseException", .type "object"] "ValueError.__new__" = true
  k_InvalidLine : PySem.W.keepIn F (.ref (K.CL 1)) = true
  s_InvalidLine : PySem.W.subIn F (.ref (K.CL 1)) (.type "BaseException") = some true
  t_InvalidLine : PySem.W.typeIn F (.ref (K.CL 1)) = some (.type "type")
  x_InvalidWhole : PySem.W.excIn F (K.CL 2) [.type "ValueError", .type "Exception", .type "BaseException", .type "object"] "ValueError.__new__" = true
  k_InvalidWhole : PySem.W.keepIn F (.ref (K.CL 2)) = true
  s_InvalidWhole : PySem.W.subIn F (.ref (K.CL 2)) (.type "BaseException") = some true
  t_InvalidWhole : PySem.W.typeIn F (.ref (K.CL 2)) = some (.type "type")
  f_is_integer : ∃ (f : Addr) (fd : FuncData), Fun F "is_integer" "is_integer" s_is_integer f fd ∧ mg "is_integer" = some (.ref f) ∧ Binds F fd ["value"] []
  f_is_integer_in : ∃ (f : Addr) (fd : FuncData), Fun F "is_integer_in" "is_integer_in" s_is_integer_in f fd ∧ mg "is_integer_in" = some (.ref f) ∧ Binds F fd ["value", "low", "high"] []
  f_fraction : ∃ (f : Addr) (fd : FuncData), Fun F "fraction" "fraction" s_fraction f fd ∧ mg "fraction" = some (.ref f) ∧ Binds F fd ["over", "under"] []
  f_trimmed : ∃ (f : Addr) (fd : FuncData), Fun F "trimmed" "trimmed" s_trimmed f fd ∧ mg "trimmed" = some (.ref f) ∧ Binds F fd ["parts"] []
  f_nested_constant : ∃ (f : Addr) (fd : FuncData), Fun F "nested_constant" "nested_constant" s_nested_constant f fd ∧ mg "nested_constant" = some (.ref f) ∧ Binds F fd ["ring", "number"] []
  f_is_unit : ∃ (f : Addr) (fd : FuncData), Fun F "is_unit" "is_unit" s_is_unit f fd ∧ mg "is_unit" = some (.ref f) ∧ Binds F fd ["ring", "value"] []
  f_nested_plus : ∃ (f : Addr) (fd : FuncData), Fun F "nested_plus" "nested_plus" s_nested_plus f fd ∧ mg "nested_plus" = some (.ref f) ∧ Binds F fd ["ring", "one", "other"] []
  f_nested_minus : ∃ (f : Addr) (fd : FuncData), Fun F "nested_minus" "nested_minus" s_nested_minus f fd ∧ mg "nested_minus" = some (.ref f) ∧ Binds F fd ["ring", "one", "other"] []
  f_whole_product : ∃ (f : Addr) (fd : FuncData), Fun F "whole_product" "whole_product" s_whole_product f fd ∧ mg "whole_product" = some (.ref f) ∧ Binds F fd ["one", "other"] []
  f_nested_times : ∃ (f : Addr) (fd : FuncData), Fun F "nested_times" "nested_times" s_nested_times f fd ∧ mg "nested_times" = some (.ref f) ∧ Binds F fd ["ring", "one", "other"] []
  f_integer_exact : ∃ (f : Addr) (fd : FuncData), Fun F "integer_exact" "integer_exact" s_integer_exact f fd ∧ mg "integer_exact" = some (.ref f) ∧ Binds F fd ["ring", "number", "other"] []
  f_nested_exact : ∃ (f : Addr) (fd : FuncData), Fun F "nested_exact" "nested_exact" s_nested_exact f fd ∧ mg "nested_exact" = some (.ref f) ∧ Binds F fd ["ring", "line", "other"] []
  f_nested_content : ∃ (f : Addr) (fd : FuncData), Fun F "nested_content" "nested_content" s_nested_content f fd ∧ mg "nested_content" = some (.ref f) ∧ Binds F fd ["ring", "value"] []
  f_nested_common : ∃ (f : Addr) (fd : FuncData), Fun F "nested_common" "nested_common" s_nested_common f fd ∧ mg "nested_common" = some (.ref f) ∧ Binds F fd ["ring", "one", "other"] []
  f_common_multiple : ∃ (f : Addr) (fd : FuncData), Fun F "common_multiple" "common_multiple" s_common_multiple f fd ∧ mg "common_multiple" = some (.ref f) ∧ Binds F fd ["ring", "parts"] []
  f_whole_number : ∃ (f : Addr) (fd : FuncData), Fun F "whole_number" "whole_number" s_whole_number f fd ∧ mg "whole_number" = some (.ref f) ∧ Binds F fd ["field", "number"] []
  f_whole_line : ∃ (f : Addr) (fd : FuncData), Fun F "whole_line" "whole_line" s_whole_line f fd ∧ mg "whole_line" = some (.ref f) ∧ Binds F fd ["field", "line"] []
  f_nought_of : ∃ (f : Addr) (fd : FuncData), Fun F "nought_of" "nought_of" s_nought_of f fd ∧ mg "nought_of" = some (.ref f) ∧ Binds F fd ["field"] []
  f_is_pair : ∃ (f : Addr) (fd : FuncData), Fun F "is_pair" "is_pair" s_is_pair f fd ∧ mg "is_pair" = some (.ref f) ∧ Binds F fd ["value"] []
  f_is_within_size : ∃ (f : Addr) (fd : FuncData), Fun F "is_within_size" "is_within_size" s_is_within_size f fd ∧ mg "is_within_size" = some (.ref f) ∧ Binds F fd ["value"] []
  f_is_settled : ∃ (f : Addr) (fd : FuncData), Fun F "is_settled" "is_settled" s_is_settled f fd ∧ mg "is_settled" = some (.ref f) ∧ Binds F fd ["over", "under"] []
  f_has_number_form : ∃ (f : Addr) (fd : FuncData), Fun F "has_number_form" "has_number_form" s_has_number_form f fd ∧ mg "has_number_form" = some (.ref f) ∧ Binds F fd ["field", "value"] []
  f_has_line_form : ∃ (f : Addr) (fd : FuncData), Fun F "has_line_form" "has_line_form" s_has_line_form f fd ∧ mg "has_line_form" = some (.ref f) ∧ Binds F fd ["field", "value"] []
  f_is_given_line : ∃ (f : Addr) (fd : FuncData), Fun F "is_given_line" "is_given_line" s_is_given_line f fd ∧ mg "is_given_line" = some (.ref f) ∧ Binds F fd ["field", "value"] []
  f_need_line : ∃ (f : Addr) (fd : FuncData), Fun F "need_line" "need_line" s_need_line f fd ∧ mg "need_line" = some (.ref f) ∧ Binds F fd ["field", "line"] []
  f_need_integer : ∃ (f : Addr) (fd : FuncData), Fun F "need_integer" "need_integer" s_need_integer f fd ∧ mg "need_integer" = some (.ref f) ∧ Binds F fd ["value", "low", "high"] []
  f_value_of_whole : ∃ (f : Addr) (fd : FuncData), Fun F "value_of_whole" "value_of_whole" s_value_of_whole f fd ∧ mg "value_of_whole" = some (.ref f) ∧ Binds F fd ["line", "number"] []
  f_is_whole : ∃ (f : Addr) (fd : FuncData), Fun F "is_whole" "is_whole" s_is_whole f fd ∧ mg "is_whole" = some (.ref f) ∧ Binds F fd ["value"] []
  f_is_given_whole : ∃ (f : Addr) (fd : FuncData), Fun F "is_given_whole" "is_given_whole" s_is_given_whole f fd ∧ mg "is_given_whole" = some (.ref f) ∧ Binds F fd ["value"] []
  f_need_whole : ∃ (f : Addr) (fd : FuncData), Fun F "need_whole" "need_whole" s_need_whole f fd ∧ mg "need_whole" = some (.ref f) ∧ Binds F fd ["line"] []
  f_need_filled_whole : ∃ (f : Addr) (fd : FuncData), Fun F "need_filled_whole" "need_filled_whole" s_need_filled_whole f fd ∧ mg "need_filled_whole" = some (.ref f) ∧ Binds F fd ["line"] []
  f_whole_content : ∃ (f : Addr) (fd : FuncData), Fun F "whole_content" "whole_content" s_whole_content f fd ∧ mg "whole_content" = some (.ref f) ∧ Binds F fd ["line"] []
  f_shared_line : ∃ (f : Addr) (fd : FuncData), Fun F "shared_line" "shared_line" s_shared_line f fd ∧ mg "shared_line" = some (.ref f) ∧ Binds F fd ["line", "number"] []
  f_whole_primitive : ∃ (f : Addr) (fd : FuncData), Fun F "whole_primitive" "whole_primitive" s_whole_primitive f fd ∧ mg "whole_primitive" = some (.ref f) ∧ Binds F fd ["line"] []
  f_cleared : ∃ (f : Addr) (fd : FuncData), Fun F "cleared" "cleared" s_cleared f fd ∧ mg "cleared" = some (.ref f) ∧ Binds F fd ["line"] []
  f_content_of : ∃ (f : Addr) (fd : FuncData), Fun F "content_of" "content_of" s_content_of f fd ∧ mg "content_of" = some (.ref f) ∧ Binds F fd ["line"] []
  f_primitive_of : ∃ (f : Addr) (fd : FuncData), Fun F "primitive_of" "primitive_of" s_primitive_of f fd ∧ mg "primitive_of" = some (.ref f) ∧ Binds F fd ["line"] []
  f_whole_plus : ∃ (f : Addr) (fd : FuncData), Fun F "whole_plus" "whole_plus" s_whole_plus f fd ∧ mg "whole_plus" = some (.ref f) ∧ Binds F fd ["one", "other"] []
  f_whole_times_wholelines : ∃ (f : Addr) (fd : FuncData), Fun F "whole_times" "whole_times" s_whole_times_wholelines f fd ∧ mg "whole_times_wholelines" = some (.ref f) ∧ Binds F fd ["one", "other"] []
  f_whole_at : ∃ (f : Addr) (fd : FuncData), Fun F "whole_at" "whole_at" s_whole_at f fd ∧ mg "whole_at" = some (.ref f) ∧ Binds F fd ["line", "number"] []
  f_whole_divided_wholelines : ∃ (f : Addr) (fd : FuncData), Fun F "whole_divided" "whole_divided" s_whole_divided_wholelines f fd ∧ mg "whole_divided_wholelines" = some (.ref f) ∧ Binds F fd ["line", "other"] []
  f_cleared_line : ∃ (f : Addr) (fd : FuncData), Fun F "cleared_line" "cleared_line" s_cleared_line f fd ∧ mg "cleared_line" = some (.ref f) ∧ Binds F fd ["line"] []
  f__law_cup : ∃ (f : Addr) (fd : FuncData), Fun F "_law_cup" "_law_cup" s__law_cup f fd ∧ mg "_law_cup" = some (.ref f) ∧ Binds F fd ["_law_script"] []
  f__law_roll : ∃ (f : Addr) (fd : FuncData), Fun F "_law_roll" "_law_roll" s__law_roll f fd ∧ mg "_law_roll" = some (.ref f) ∧ Binds F fd ["_law_cup_here", "_law_many"] []
  f__law_some : ∃ (f : Addr) (fd : FuncData), Fun F "_law_some" "_law_some" s__law_some f fd ∧ mg "_law_some" = some (.ref f) ∧ Binds F fd ["_law_cup_here", "_law_things"] []
  f__law_common : ∃ (f : Addr) (fd : FuncData), Fun F "_law_common" "_law_common" s__law_common f fd ∧ mg "_law_common" = some (.ref f) ∧ Binds F fd ["_law_one", "_law_other"] []
  f__law_cut : ∃ (f : Addr) (fd : FuncData), Fun F "_law_cut" "_law_cut" s__law_cut f fd ∧ mg "_law_cut" = some (.ref f) ∧ Binds F fd ["_law_numbers"] []
  f__law_mul : ∃ (f : Addr) (fd : FuncData), Fun F "_law_mul" "_law_mul" s__law_mul f fd ∧ mg "_law_mul" = some (.ref f) ∧ Binds F fd ["_law_one", "_law_other"] []
  f__law_add : ∃ (f : Addr) (fd : FuncData), Fun F "_law_add" "_law_add" s__law_add f fd ∧ mg "_law_add" = some (.ref f) ∧ Binds F fd ["_law_one", "_law_other"] []
  f__law_power : ∃ (f : Addr) (fd : FuncData), Fun F "_law_power" "_law_power" s__law_power f fd ∧ mg "_law_power" = some (.ref f) ∧ Binds F fd ["_law_number", "_law_times"] []
  f__law_val : ∃ (f : Addr) (fd : FuncData), Fun F "_law_val" "_law_val" s__law_val f fd ∧ mg "_law_val" = some (.ref f) ∧ Binds F fd ["_law_line_here", "_law_number"] []
  f__law_cont : ∃ (f : Addr) (fd : FuncData), Fun F "_law_cont" "_law_cont" s__law_cont f fd ∧ mg "_law_cont" = some (.ref f) ∧ Binds F fd ["_law_line_here"] []
  f__law_prim : ∃ (f : Addr) (fd : FuncData), Fun F "_law_prim" "_law_prim" s__law_prim f fd ∧ mg "_law_prim" = some (.ref f) ∧ Binds F fd ["_law_line_here"] []
  f__law_int : ∃ (f : Addr) (fd : FuncData), Fun F "_law_int" "_law_int" s__law_int f fd ∧ mg "_law_int" = some (.ref f) ∧ Binds F fd ["_law_cup_here"] []
  f__law_line : ∃ (f : Addr) (fd : FuncData), Fun F "_law_line" "_law_line" s__law_line f fd ∧ mg "_law_line" = some (.ref f) ∧ Binds F fd ["_law_cup_here", "_law_degree"] []
  f__law_quotient : ∃ (f : Addr) (fd : FuncData), Fun F "_law_quotient" "_law_quotient" s__law_quotient f fd ∧ mg "_law_quotient" = some (.ref f) ∧ Binds F fd ["_law_line_here", "_law_other"] []
  f__law_is : ∃ (f : Addr) (fd : FuncData), Fun F "_law_is" "_law_is" s__law_is f fd ∧ mg "_law_is" = some (.ref f) ∧ Binds F fd ["_law_value"] []
  f__law_fraction : ∃ (f : Addr) (fd : FuncData), Fun F "_law_fraction" "_law_fraction" s__law_fraction f fd ∧ mg "_law_fraction" = some (.ref f) ∧ Binds F fd ["_law_over", "_law_under"] []
  f__law_cleared : ∃ (f : Addr) (fd : FuncData), Fun F "_law_cleared" "_law_cleared" s__law_cleared f fd ∧ mg "_law_cleared" = some (.ref f) ∧ Binds F fd ["_law_line_here"] []
  f_law : ∃ (f : Addr) (fd : FuncData), Fun F "law" "law" s_law f fd ∧ mg "law" = some (.ref f) ∧ Binds F fd ["_law_script"] []
  k_shared_line : ∃ (f : Addr) (fd : FuncData) (c P : Addr), FunK F "shared_line" "shared_line" s_shared_line f fd c ∧ mg "shared_line" = some (.ref f) ∧ Binds F fd ["line", "number"] [] ∧ LamX.TabB base mg c P ∧ (P, ("shared_line" : Str) ++ ".<locals>." ++ "<genexpr>") ∈ K.T ∧ ∀ p ∈ K.T, p.1 = P → p.2 = ("shared_line" : Str) ++ ".<locals>." ++ "<genexpr>"
  k_has_line_form : ∃ (f : Addr) (fd : FuncData) (c P : Addr), FunK F "has_line_form" "has_line_form" s_has_line_form f fd c ∧ mg "has_line_form" = some (.ref f) ∧ Binds F fd ["field", "value"] [] ∧ LamX.TabB base mg c P ∧ (P, ("has_line_form" : Str) ++ ".<locals>." ++ "<genexpr>") ∈ K.T ∧ ∀ p ∈ K.T, p.1 = P → p.2 = ("has_line_form" : Str) ++ ".<locals>." ++ "<genexpr>"
  k_is_given_whole : ∃ (f : Addr) (fd : FuncData) (c P : Addr), FunK F "is_given_whole" "is_given_whole" s_is_given_whole f fd c ∧ mg "is_given_whole" = some (.ref f) ∧ Binds F fd ["value"] [] ∧ LamX.TabB base mg c P ∧ (P, ("is_given_whole" : Str) ++ ".<locals>." ++ "<genexpr>") ∈ K.T ∧ ∀ p ∈ K.T, p.1 = P → p.2 = ("is_given_whole" : Str) ++ ".<locals>." ++ "<genexpr>"
  k_is_whole : ∃ (f : Addr) (fd : FuncData) (c P : Addr), FunK F "is_whole" "is_whole" s_is_whole f fd c ∧ mg "is_whole" = some (.ref f) ∧ Binds F fd ["value"] [] ∧ LamX.TabB base mg c P ∧ (P, ("is_whole" : Str) ++ ".<locals>." ++ "<genexpr>") ∈ K.T ∧ ∀ p ∈ K.T, p.1 = P → p.2 = ("is_whole" : Str) ++ ".<locals>." ++ "<genexpr>"
  k_law : ∃ (f : Addr) (fd : FuncData) (c P : Addr), FunK F "law" "law" s_law f fd c ∧ mg "law" = some (.ref f) ∧ Binds F fd ["_law_script"] [] ∧ LamX.TabB base mg c P ∧ (P, ("law" : Str) ++ ".<locals>." ++ "<lambda>") ∈ K.T ∧ ∀ p ∈ K.T, p.1 = P → p.2 = ("law" : Str) ++ ".<locals>." ++ "<lambda>"
section
variable {P : Program} {w : World} {F : PySem.W.Frag} {mg : Str → Option Value} {base : Heap} {K : Kx}
def slI (ρ : En) (i : Nat) : Nat := match ρ[i]? with
  | some (.dat (.int z)) => z.natAbs
  | _ => 0
def slI0 (ρ : En) (i k : Nat) : Nat := match ρ[i]? with
  | some (.dat (.tuple ds)) => (match ds[k]? with | some (.int z) => z.natAbs | _ => 0)
  | _ => 0
def fuelOf (ρ : En) (i : Nat) : Nat := slI ρ i + 2
theorem sc_is_integer : FnScope ["value"] ["value"] (defScope s_is_integer) := ⟨rfl, rfl, rfl, by decide +kernel, rfl, by decide +kernel, by decide +kernel⟩
def g_is_integer : GS := (gRet (gAndV (gIsi "int" (gVar 0)) (gNotV (gIsi "bool" (gVar 0)))))
def G_is_integer : GF := gFn 1 g_is_integer
theorem d_is_integer (T : Txt P w F mg base K) : DefOk P w F mg base K "is_integer" 1 1 G_is_integer := by
  obtain ⟨f, fd, Fn, hm, hb⟩ := T.f_is_integer
  refine ⟨f, fd, ["value"], ok_def (N := ["value"]) (g := g_is_integer) Fn sc_is_integer ?body, hm, Fn.kp, hb⟩
  intro cdv A outer s H E hr
  have nd := sc_is_integer.nd
  have hu := hr.units
  have tk : Takes (cxOf (L2.CX P w) P w F mg base ["value"] "is_integer" (defScope s_is_integer) f cdv A outer s H E) (fun cls d _ H => E cls d H) := takes_of rfl rfl rfl rfl
  have hx : Passes (L2.CX P w) (cxOf (L2.CX P w) P w F mg base ["value"] "is_integer" (defScope s_is_integer) f cdv A outer s H E) E := passes_call tk fun _ _ _ _ h => h
  have hp : PassesOwn (model P w) (cxOf (L2.CX P w) P w F mg base ["value"] "is_integer" (defScope s_is_integer) f cdv A outer s H E).A (cxOf (L2.CX P w) P w F mg base ["value"] "is_integer" (defScope s_is_integer) f cdv A outer s H E).env (cxOf (L2.CX P w) P w F mg base ["value"] "is_integer" (defScope s_is_integer) f cdv A outer s H E).xe := passes_of rfl
  have hc : (cxOf (L2.CX P w) P w F mg base ["value"] "is_integer" (defScope s_is_integer) f cdv A outer s H E).calm = true := rfl
  have hKF : K.F = (cxOf (L2.CX P w) P w F mg base ["value"] "is_integer" (defScope s_is_integer) f cdv A outer s H E).K := T.kf
  exact ⟨_, (pssd_one (psd_ret (pd_and (pd_isi (T := "int") (pd_var (pv 0)) (by rfl) T.b_isinstance (by rfl) T.b_int bb_int) (pd_one (pd_not (pd_isi (T := "bool") (pd_var (pv 0)) (by rfl) T.b_isinstance (by rfl) T.b_bool bb_bool))))))⟩
theorem sc_is_integer_in : FnScope ["value", "low", "high"] ["value", "low", "high"] (defScope s_is_integer_in) := ⟨rfl, rfl, rfl, by decide +kernel, rfl, by decide +kernel, by decide +kernel⟩
def g_is_integer_in : GS := (gRet (gAndV (gApp 1 G_is_integer (gaCons (gVar 0) gaNil)) (gChain (fB0 fun i j => decide (i ≤ j)) (fB0 fun i j => decide (i ≤ j)) (gVar 1) (gVar 0) (gVar 2))))
def G_is_integer_in : GF := gFn 3 g_is_integer_in
theorem d_is_integer_in (T : Txt P w F mg base K) : DefOk P w F mg base K "is_integer_in" 2 3 G_is_integer_in := by
  obtain ⟨f, fd, Fn, hm, hb⟩ := T.f_is_integer_in
  refine ⟨f, fd, ["value", "low", "high"], ok_def (N := ["value", "low", "high"]) (g := g_is_integer_in) Fn sc_is_integer_in ?body, hm, Fn.kp, hb⟩
  intro cdv A outer s H E hr
  have nd := sc_is_integer_in.nd
  have hu := hr.units
  have tk : Takes (cxOf (L2.CX P w) P w F mg base ["value", "low", "high"] "is_integer_in" (defScope s_is_integer_in) f cdv A outer s H E) (fun cls d _ H => E cls d H) := takes_of rfl rfl rfl rfl
  have hx : Passes (L2.CX P w) (cxOf (L2.CX P w) P w F mg base ["value", "low", "high"] "is_integer_in" (defScope s_is_integer_in) f cdv A outer s H E) E := passes_call tk fun _ _ _ _ h => h
  have hp : PassesOwn (model P w) (cxOf (L2.CX P w) P w F mg base ["value", "low", "high"] "is_integer_in" (defScope s_is_integer_in) f cdv A outer s H E).A (cxOf (L2.CX P w) P w F mg base ["value", "low", "high"] "is_integer_in" (defScope s_is_integer_in) f cdv A outer s H E).env (cxOf (L2.CX P w) P w F mg base ["value", "low", "high"] "is_integer_in" (defScope s_is_integer_in) f cdv A outer s H E).xe := passes_of rfl
  have hc : (cxOf (L2.CX P w) P w F mg base ["value", "low", "high"] "is_integer_in" (defScope s_is_integer_in) f cdv A outer s H E).calm = true := rfl
  have hKF : K.F = (cxOf (L2.CX P w) P w F mg base ["value", "low", "high"] "is_integer_in" (defScope s_is_integer_in) f cdv A outer s H E).K := T.kf
  exact ⟨_, (pssd_one (psd_ret (pd_and (pd_callD (d_is_integer T) (hr.mono (by decide)) (by rfl) hx (pad_cons (pd_var (pv 0)) pad_nil)) (pd_one (pd_chain op_le opD_le op_le opD_le (pd_var (pv 1)) (pd_var (pv 0)) (pd_var (pv 2)))))))⟩
theorem sc_fraction : FnScope ["over", "under", "common"] ["over", "under"] (defScope s_fraction) := ⟨rfl, rfl, rfl, by decide +kernel, rfl, by decide +kernel, by decide +kernel⟩
def g_fraction : GS := (gSeq (gSet 2 (gCall dGcd (gaCons (gVar 0) (gaCons (gVar 1) gaNil))))
    (gSeq (gIf (gBool (gBin (fB0 fun i j => decide (i < j)) (gVar 1) (gC (.int 0)))) (gSet 2 (gUn dNeg (gVar 2))) gSkip)
    (gRet (gDisp .tuple (gaCons (gBin (fI divOk fun i j => i.fdiv j) (gVar 0) (gVar 2)) (gaCons (gBin (fI divOk fun i j => i.fdiv j) (gVar 1) (gVar 2)) gaNil))))))
def G_fraction : GF := gFn 3 g_fraction
theorem d_fraction (T : Txt P w F mg base K) : DefOk P w F mg base K "fraction" 1 2 G_fraction := by
  obtain ⟨f, fd, Fn, hm, hb⟩ := T.f_fraction
  refine ⟨f, fd, ["over", "under"], ok_def (N := ["over", "under", "common"]) (g := g_fraction) Fn sc_fraction ?body, hm, Fn.kp, hb⟩
  intro cdv A outer s H E hr
  have nd := sc_fraction.nd
  have hu := hr.units
  have tk : Takes (cxOf (L2.CX P w) P w F mg base ["over", "under", "common"] "fraction" (defScope s_fraction) f cdv A outer s H E) (fun cls d _ H => E cls d H) := takes_of rfl rfl rfl rfl
  have hx : Passes (L2.CX P w) (cxOf (L2.CX P w) P w F mg base ["over", "under", "common"] "fraction" (defScope s_fraction) f cdv A outer s H E) E := passes_call tk fun _ _ _ _ h => h
  have hp : PassesOwn (model P w) (cxOf (L2.CX P w) P w F mg base ["over", "under", "common"] "fraction" (defScope s_fraction) f cdv A outer s H E).A (cxOf (L2.CX P w) P w F mg base ["over", "under", "common"] "fraction" (defScope s_fraction) f cdv A outer s H E).env (cxOf (L2.CX P w) P w F mg base ["over", "under", "common"] "fraction" (defScope s_fraction) f cdv A outer s H E).xe := passes_of rfl
  have hc : (cxOf (L2.CX P w) P w F mg base ["over", "under", "common"] "fraction" (defScope s_fraction) f cdv A outer s H E).calm = true := rfl
  have hKF : K.F = (cxOf (L2.CX P w) P w F mg base ["over", "under", "common"] "fraction" (defScope s_fraction) f cdv A outer s H E).K := T.kf
  exact ⟨_, (pssd_cons (psd_set (i := 2) nd rfl (by first | exact .inl rfl | exact .inr rfl) (pd_callBf cr_gcd callD_gcd (by rfl) T.b_gcd (pad_cons (pd_var (pv 0)) (pad_cons (pd_var (pv 1)) pad_nil))))
    (pssd_cons (psd_if (ptd_cmp op_lt opD_lt (pd_var (pv 1)) pd_int (nomark _)) (pssd_one (psd_set (i := 2) nd rfl (by first | exact .inl rfl | exact .inr rfl) (pd_neg (pd_var (pv 2))))) pssd_nil)
    (pssd_one (psd_ret (pd_tup (pad_cons (pd_op op_divD opD_div (pd_var (pv 0)) (pd_var (pv 2))) (pad_cons (pd_op op_divD opD_div (pd_var (pv 1)) (pd_var (pv 2))) pad_nil)))))))⟩
theorem sc_trimmed : FnScope ["parts", "many"] ["parts"] (defScope s_trimmed) := ⟨rfl, rfl, rfl, by decide +kernel, rfl, by decide +kernel, by decide +kernel⟩
def wt_trimmed_0 : GT := (gAnd (gTru (gVar 1)) (gNot (gTru (gBin dIx (gVar 0) (gBin (fI0 fun i j => i - j) (gVar 1) (gC (.int 1)))))))
def wb_trimmed_0 : GS := (gAug 1 (fI0 fun i j => i - j) (gC (.int 1)))
def g_trimmed : GS := (gSeq (gSet 1 (gCall dLen (gaCons (gVar 0) gaNil)))
    (gSeq (gWhile (fun _ _ => 1000) wt_trimmed_0 wb_trimmed_0)
    (gRet (gCall dToTup (gaCons (gSlice (gVar 0) gNoPart (gPart (gVar 1))) gaNil)))))
def G_trimmed : GF := gFn 2 g_trimmed
theorem d_trimmed (T : Txt P w F mg base K) : DefOk P w F mg base K "trimmed" 1 1 G_trimmed := by
  obtain ⟨f, fd, Fn, hm, hb⟩ := T.f_trimmed
  refine ⟨f, fd, ["parts"], ok_def (N := ["parts", "many"]) (g := g_trimmed) Fn sc_trimmed ?body, hm, Fn.kp, hb⟩
  intro cdv A outer s H E hr
  have nd := sc_trimmed.nd
  have hu := hr.units
  have tk : Takes (cxOf (L2.CX P w) P w F mg base ["parts", "many"] "trimmed" (defScope s_trimmed) f cdv A outer s H E) (fun cls d _ H => E cls d H) := takes_of rfl rfl rfl rfl
  have hx : Passes (L2.CX P w) (cxOf (L2.CX P w) P w F mg base ["parts", "many"] "trimmed" (defScope s_trimmed) f cdv A outer s H E) E := passes_call tk fun _ _ _ _ h => h
  have hp : PassesOwn (model P w) (cxOf (L2.CX P w) P w F mg base ["parts", "many"] "trimmed" (defScope s_trimmed) f cdv A outer s H E).A (cxOf (L2.CX P w) P w F mg base ["parts", "many"] "trimmed" (defScope s_trimmed) f cdv A outer s H E).env (cxOf (L2.CX P w) P w F mg base ["parts", "many"] "trimmed" (defScope s_trimmed) f cdv A outer s H E).xe := passes_of rfl
  have hc : (cxOf (L2.CX P w) P w F mg base ["parts", "many"] "trimmed" (defScope s_trimmed) f cdv A outer s H E).calm = true := rfl
  have hKF : K.F = (cxOf (L2.CX P w) P w F mg base ["parts", "many"] "trimmed" (defScope s_trimmed) f cdv A outer s H E).K := T.kf
  exact ⟨_, (pssd_cons (psd_set (i := 1) nd rfl (by first | exact .inl rfl | exact .inr rfl) (pd_callB call_len_seq callD_len (by rfl) T.b_len bb_len (pad_cons (pd_var (pv 0)) pad_nil)))
    (pssd_cons (psd_while (fun _ _ => 1000) hp (PWD.pt (pwd_and (ptd_truth (pd_var (pv 1))) (pwd_and1 (ptd_not (ptd_truth (pd_ix ixR_D opD_ix (pd_var (pv 0)) (pd_op op_sub opD_sub (pd_var (pv 1)) pd_int) (fun _ _ => rfl))))))) (pssd_one (psd_aug (i := 1) nd rfl (by first | exact .inl rfl | exact .inr rfl) ip_subD opD_I0 pd_int)))
    (pssd_one (psd_ret (pd_callTy call_tuple_of callD_tuple (by rfl) T.b_tuple bb_tuple (pad_cons (pd_slice (pd_var (pv 0)) pod_none (pod_some (pd_var (pv 1)))) pad_nil))))))⟩
theorem sc_nested_constant : FnScope ["ring", "number"] ["ring", "number"] (defScope s_nested_constant) := ⟨rfl, rfl, rfl, by decide +kernel, rfl, by decide +kernel, by decide +kernel⟩
def g_nested_constant : GS := (gSeq (gIf (gTru (gIsi "int" (gVar 0))) (gRet (gVar 1)) gSkip)
    stkS)
def G_nested_constant : GF := gFn 2 g_nested_constant
theorem d_nested_constant (T : Txt P w F mg base K) : DefOk P w F mg base K "nested_constant" 1 2 G_nested_constant := by
  obtain ⟨f, fd, Fn, hm, hb⟩ := T.f_nested_constant
  refine ⟨f, fd, ["ring", "number"], ok_def (N := ["ring", "number"]) (g := g_nested_constant) Fn sc_nested_constant ?body, hm, Fn.kp, hb⟩
  intro cdv A outer s H E hr
  have nd := sc_nested_constant.nd
  have hu := hr.units
  have tk : Takes (cxOf (L2.CX P w) P w F mg base ["ring", "number"] "nested_constant" (defScope s_nested_constant) f cdv A outer s H E) (fun cls d _ H => E cls d H) := takes_of rfl rfl rfl rfl
  have hx : Passes (L2.CX P w) (cxOf (L2.CX P w) P w F mg base ["ring", "number"] "nested_constant" (defScope s_nested_constant) f cdv A outer s H E) E := passes_call tk fun _ _ _ _ h => h
  have hp : PassesOwn (model P w) (cxOf (L2.CX P w) P w F mg base ["ring", "number"] "nested_constant" (defScope s_nested_constant) f cdv A outer s H E).A (cxOf (L2.CX P w) P w F mg base ["ring", "number"] "nested_constant" (defScope s_nested_constant) f cdv A outer s H E).env (cxOf (L2.CX P w) P w F mg base ["ring", "number"] "nested_constant" (defScope s_nested_constant) f cdv A outer s H E).xe := passes_of rfl
  have hc : (cxOf (L2.CX P w) P w F mg base ["ring", "number"] "nested_constant" (defScope s_nested_constant) f cdv A outer s H E).calm = true := rfl
  have hKF : K.F = (cxOf (L2.CX P w) P w F mg base ["ring", "number"] "nested_constant" (defScope s_nested_constant) f cdv A outer s H E).K := T.kf
  exact ⟨_, (pssd_cons (psd_if (ptd_truth (pd_isi (T := "int") (pd_var (pv 0)) (by rfl) T.b_isinstance (by rfl) T.b_int bb_int)) (pssd_one (psd_ret (pd_var (pv 1)))) pssd_nil)
    pssd_stk)⟩
theorem sc_is_unit : FnScope ["ring", "value"] ["ring", "value"] (defScope s_is_unit) := ⟨rfl, rfl, rfl, by decide +kernel, rfl, by decide +kernel, by decide +kernel⟩
def wt_is_unit_0 : GT := (gNot (gTru (gIsi "int" (gVar 0))))
def wb_is_unit_0 : GS := (gSeq (gIf (gBool (gBin (fB0 fun i j => decide (j < i)) (gCall dLen (gaCons (gVar 1) gaNil)) (gC (.int 1)))) (gRet (gC (.bool false))) gSkip)
    (gPar 0 1 (gaCons (gBin dIx (gVar 0) (gC (.int 1))) (gaCons (gBin dIx (gVar 1) (gC (.int 0))) gaNil))))
def g_is_unit : GS := (gSeq (gWhile (fun _ _ => 1000) wt_is_unit_0 wb_is_unit_0)
    (gRet (gOrV (gBin (fB0 fun i j => decide (j < i)) (gVar 0) (gC (.int 0))) (gBin dInT (gVar 1) (gDisp .tuple (gaCons (gC (.int 1)) (gaCons (gUn dNeg (gC (.int 1))) gaNil)))))))
def G_is_unit : GF := gFn 2 g_is_unit
theorem d_is_unit (T : Txt P w F mg base K) : DefOk P w F mg base K "is_unit" 1 2 G_is_unit := by
  obtain ⟨f, fd, Fn, hm, hb⟩ := T.f_is_unit
  refine ⟨f, fd, ["ring", "value"], ok_def (N := ["ring", "value"]) (g := g_is_unit) Fn sc_is_unit ?body, hm, Fn.kp, hb⟩
  intro cdv A outer s H E hr
  have nd := sc_is_unit.nd
  have hu := hr.units
  have tk : Takes (cxOf (L2.CX P w) P w F mg base ["ring", "value"] "is_unit" (defScope s_is_unit) f cdv A outer s H E) (fun cls d _ H => E cls d H) := takes_of rfl rfl rfl rfl
  have hx : Passes (L2.CX P w) (cxOf (L2.CX P w) P w F mg base ["ring", "value"] "is_unit" (defScope s_is_unit) f cdv A outer s H E) E := passes_call tk fun _ _ _ _ h => h
  have hp : PassesOwn (model P w) (cxOf (L2.CX P w) P w F mg base ["ring", "value"] "is_unit" (defScope s_is_unit) f cdv A outer s H E).A (cxOf (L2.CX P w) P w F mg base ["ring", "value"] "is_unit" (defScope s_is_unit) f cdv A outer s H E).env (cxOf (L2.CX P w) P w F mg base ["ring", "value"] "is_unit" (defScope s_is_unit) f cdv A outer s H E).xe := passes_of rfl
  have hc : (cxOf (L2.CX P w) P w F mg base ["ring", "value"] "is_unit" (defScope s_is_unit) f cdv A outer s H E).calm = true := rfl
  have hKF : K.F = (cxOf (L2.CX P w) P w F mg base ["ring", "value"] "is_unit" (defScope s_is_unit) f cdv A outer s H E).K := T.kf
  exact ⟨_, (pssd_cons (psd_while (fun _ _ => 1000) hp (ptd_not (ptd_truth (pd_isi (T := "int") (pd_var (pv 0)) (by rfl) T.b_isinstance (by rfl) T.b_int bb_int))) (pssd_cons (psd_if (ptd_cmp op_gt opD_gt (pd_callB call_len_seq callD_len (by rfl) T.b_len bb_len (pad_cons (pd_var (pv 1)) pad_nil)) pd_int (nomark _)) (pssd_one (psd_ret pd_bl)) pssd_nil)
    (pssd_one (psd_par (i := 0) (j := 1) hc nd rfl rfl (by decide) rfl rfl (pad_cons (pd_ix ixR_D opD_ix (pd_var (pv 0)) pd_int (fun _ _ => rfl)) (pad_cons (pd_ix ixR_D opD_ix (pd_var (pv 1)) pd_int (fun _ _ => rfl)) pad_nil))))))
    (pssd_one (psd_ret (pd_or (pd_cmp op_gt opD_gt (pd_var (pv 0)) pd_int (nomark _)) (pd_one (pd_cmp op_in_seq opD_inT (pd_var (pv 1)) (pd_tup (pad_cons pd_int (pad_cons (pd_neg pd_int) pad_nil))) (by rfl)))))))⟩
theorem sc_nested_plus : FnScope ["ring", "one", "other", "sums", "a", "b"] ["ring", "one", "other"] (defScope s_nested_plus) := ⟨rfl, rfl, rfl, by decide +kernel, rfl, by decide +kernel, by decide +kernel⟩
def le_nested_plus_0 : GE := (gBin dAdd (gVar 4) (gVar 5))
def le_nested_plus_1 : GE := stkE
def ta_nested_plus_0 : GS := (gRet (gApp 1 G_trimmed (gaCons (gVar 3) gaNil)))
def g_nested_plus : GS := (gSeq (gIf (gTru (gIsi "int" (gVar 0))) (gRet (gIfE (gTru (gVar 0)) (gBin (fI modOk fun i j => i.fmod j) (gBin dAdd (gVar 1) (gVar 2)) (gVar 0)) (gBin dAdd (gVar 1) (gVar 2)))) gSkip)
    (gSeq (gIf (gBool (gBin (fB0 fun i j => decide (i < j)) (gCall dLen (gaCons (gVar 1) gaNil)) (gCall dLen (gaCons (gVar 2) gaNil)))) (gPar 1 2 (gaCons (gVar 2) (gaCons (gVar 1) gaNil))) gSkip)
    (gSeq (gIf (gBool (gBin dEq (gBin dIx (gVar 0) (gC (.int 1))) (gC (.int 0)))) (gSetO 3 (gLc (giArg dZip (gaCons (gVar 1) (gaCons (gVar 2) gaNil))) [4, 5] (ggTup 2 (ggCons (ggName 4) (ggCons (ggName 5) ggNil))) gYes le_nested_plus_0)) (gSetO 3 (gLc (giArg dZip (gaCons (gVar 1) (gaCons (gVar 2) gaNil))) [4, 5] (ggTup 2 (ggCons (ggName 4) (ggCons (ggName 5) ggNil))) gYes le_nested_plus_1)))
    (gSeq (gExt 3 (gSlice (gVar 1) (gPart (gCall dLen (gaCons (gVar 2) gaNil))) gNoPart))
    (gFrz 3 ta_nested_plus_0)))))
def G_nested_plus : GF := gFn 6 g_nested_plus
theorem d_nested_plus (T : Txt P w F mg base K) : DefOk P w F mg base K "nested_plus" 2 3 G_nested_plus := by
  obtain ⟨f, fd, Fn, hm, hb⟩ := T.f_nested_plus
  refine ⟨f, fd, ["ring", "one", "other"], ok_def (N := ["ring", "one", "other", "sums", "a", "b"]) (g := g_nested_plus) Fn sc_nested_plus ?body, hm, Fn.kp, hb⟩
  intro cdv A outer s H E hr
  have nd := sc_nested_plus.nd
  have hu := hr.units
  have tk : Takes (cxOf (L2.CX P w) P w F mg base ["ring", "one", "other", "sums", "a", "b"] "nested_plus" (defScope s_nested_plus) f cdv A outer s H E) (fun cls d _ H => E cls d H) := takes_of rfl rfl rfl rfl
  have hx : Passes (L2.CX P w) (cxOf (L2.CX P w) P w F mg base ["ring", "one", "other", "sums", "a", "b"] "nested_plus" (defScope s_nested_plus) f cdv A outer s H E) E := passes_call tk fun _ _ _ _ h => h
  have hp : PassesOwn (model P w) (cxOf (L2.CX P w) P w F mg base ["ring", "one", "other", "sums", "a", "b"] "nested_plus" (defScope s_nested_plus) f cdv A outer s H E).A (cxOf (L2.CX P w) P w F mg base ["ring", "one", "other", "sums", "a", "b"] "nested_plus" (defScope s_nested_plus) f cdv A outer s H E).env (cxOf (L2.CX P w) P w F mg base ["ring", "one", "other", "sums", "a", "b"] "nested_plus" (defScope s_nested_plus) f cdv A outer s H E).xe := passes_of rfl
  have hc : (cxOf (L2.CX P w) P w F mg base ["ring", "one", "other", "sums", "a", "b"] "nested_plus" (defScope s_nested_plus) f cdv A outer s H E).calm = true := rfl
  have hKF : K.F = (cxOf (L2.CX P w) P w F mg base ["ring", "one", "other", "sums", "a", "b"] "nested_plus" (defScope s_nested_plus) f cdv A outer s H E).K := T.kf
  exact ⟨_, (pssd_cons (psd_if (ptd_truth (pd_isi (T := "int") (pd_var (pv 0)) (by rfl) T.b_isinstance (by rfl) T.b_int bb_int)) (pssd_one (psd_ret (pd_ifExp (ptd_truth (pd_var (pv 0))) (pd_op op_modN opD_mod (pd_op op_addD opD_add (pd_var (pv 1)) (pd_var (pv 2))) (pd_var (pv 0))) (pd_op op_addD opD_add (pd_var (pv 1)) (pd_var (pv 2)))))) pssd_nil)
    (pssd_cons (psd_if (ptd_cmp op_lt opD_lt (pd_callB call_len_seq callD_len (by rfl) T.b_len bb_len (pad_cons (pd_var (pv 1)) pad_nil)) (pd_callB call_len_seq callD_len (by rfl) T.b_len bb_len (pad_cons (pd_var (pv 2)) pad_nil)) (nomark _)) (pssd_one (psd_par (i := 1) (j := 2) hc nd rfl rfl (by decide) rfl rfl (pad_cons (pd_var (pv 2)) (pad_cons (pd_var (pv 1)) pad_nil)))) pssd_nil)
    (pssd_cons (psd_if (ptd_cmp (op_eqX hu) opD_eq (pd_ix ixR_D opD_ix (pd_var (pv 0)) pd_int (fun _ _ => rfl)) pd_int (nomark _)) (pssd_one (psd_lcSetO (i := 3) (own := [("a", 4), ("b", 5)]) (ws := [4, 5]) hc nd rfl rfl (sw_true rfl rfl rfl (by decide +kernel)) (pid_zip (by rfl) T.b_zip (pad_cons (pd_var (pv 1)) (pad_cons (pd_var (pv 2)) pad_nil)) (fun h => RZ.pi_zipA (by rfl) T.b_zip h)) (blkOk_by (N := ["ring", "one", "other", "sums", "a", "b"]) (sc := defScope s_nested_plus) (by decide +kernel)) (fun _ _ _ _ _ => ⟨_, by exact (pgd_tup rfl (pgsd_cons (pgd_name (i := 4) nd rfl (by first | exact .inl rfl | exact .inr rfl)) (pgsd_cons (pgd_name (i := 5) nd rfl (by first | exact .inl rfl | exact .inr rfl)) pgsd_nil)))⟩) (fun _ _ _ _ _ => ⟨_, by exact ptsd_nil⟩) (fun _ _ _ _ _ => ⟨_, by exact (pd_op op_addD opD_add (pd_var (pv 4)) (pd_var (pv 5)))⟩))) (pssd_one (psd_lcSetO (i := 3) (own := [("a", 4), ("b", 5)]) (ws := [4, 5]) hc nd rfl rfl (sw_true rfl rfl rfl (by decide +kernel)) (pid_zip (by rfl) T.b_zip (pad_cons (pd_var (pv 1)) (pad_cons (pd_var (pv 2)) pad_nil)) (fun h => RZ.pi_zipA (by rfl) T.b_zip h)) (blkOk_by (N := ["ring", "one", "other", "sums", "a", "b"]) (sc := defScope s_nested_plus) (by decide +kernel)) (fun _ _ _ _ _ => ⟨_, by exact (pgd_tup rfl (pgsd_cons (pgd_name (i := 4) nd rfl (by first | exact .inl rfl | exact .inr rfl)) (pgsd_cons (pgd_name (i := 5) nd rfl (by first | exact .inl rfl | exact .inr rfl)) pgsd_nil)))⟩) (fun _ _ _ _ _ => ⟨_, by exact ptsd_nil⟩) (fun _ _ _ _ _ => ⟨_, by exact pd_stk⟩))))
    (pssd_cons (psd_extend (pv 3) (pd_slice (pd_var (pv 1)) (pod_some (pd_callB call_len_seq callD_len (by rfl) T.b_len bb_len (pad_cons (pd_var (pv 2)) pad_nil))) pod_none) (fun h => pe_bm PySem.F.plainAttrs_list PySem.F.slot_list_extend PySem.F.type_list_extend mt_extD (pv 3) h))
    (pssd_frz 3 (pssd_one (psd_ret (pd_callD (d_trimmed T) (hr.mono (by decide)) (by rfl) hx (pad_cons (pd_var (pv 3)) pad_nil)))))))))⟩
theorem sc_nested_minus : FnScope ["ring", "one", "other"] ["ring", "one", "other"] (defScope s_nested_minus) := ⟨rfl, rfl, rfl, by decide +kernel, rfl, by decide +kernel, by decide +kernel⟩
def g_nested_minus : GS := (gSeq (gIf (gBool (gBin dEq (gVar 0) (gC (.int 0)))) (gRet (gBin (fI0 fun i j => i - j) (gVar 1) (gVar 2))) gSkip)
    stkS)
def G_nested_minus : GF := gFn 3 g_nested_minus
theorem d_nested_minus (T : Txt P w F mg base K) : DefOk P w F mg base K "nested_minus" 1 3 G_nested_minus := by
  obtain ⟨f, fd, Fn, hm, hb⟩ := T.f_nested_minus
  refine ⟨f, fd, ["ring", "one", "other"], ok_def (N := ["ring", "one", "other"]) (g := g_nested_minus) Fn sc_nested_minus ?body, hm, Fn.kp, hb⟩
  intro cdv A outer s H E hr
  have nd := sc_nested_minus.nd
  have hu := hr.units
  have tk : Takes (cxOf (L2.CX P w) P w F mg base ["ring", "one", "other"] "nested_minus" (defScope s_nested_minus) f cdv A outer s H E) (fun cls d _ H => E cls d H) := takes_of rfl rfl rfl rfl
  have hx : Passes (L2.CX P w) (cxOf (L2.CX P w) P w F mg base ["ring", "one", "other"] "nested_minus" (defScope s_nested_minus) f cdv A outer s H E) E := passes_call tk fun _ _ _ _ h => h
  have hp : PassesOwn (model P w) (cxOf (L2.CX P w) P w F mg base ["ring", "one", "other"] "nested_minus" (defScope s_nested_minus) f cdv A outer s H E).A (cxOf (L2.CX P w) P w F mg base ["ring", "one", "other"] "nested_minus" (defScope s_nested_minus) f cdv A outer s H E).env (cxOf (L2.CX P w) P w F mg base ["ring", "one", "other"] "nested_minus" (defScope s_nested_minus) f cdv A outer s H E).xe := passes_of rfl
  have hc : (cxOf (L2.CX P w) P w F mg base ["ring", "one", "other"] "nested_minus" (defScope s_nested_minus) f cdv A outer s H E).calm = true := rfl
  have hKF : K.F = (cxOf (L2.CX P w) P w F mg base ["ring", "one", "other"] "nested_minus" (defScope s_nested_minus) f cdv A outer s H E).K := T.kf
  exact ⟨_, (pssd_cons (psd_if (ptd_cmp (op_eqX hu) opD_eq (pd_var (pv 0)) pd_int (nomark _)) (pssd_one (psd_ret (pd_op op_sub opD_sub (pd_var (pv 1)) (pd_var (pv 2))))) pssd_nil)
    pssd_stk)⟩
theorem sc_whole_product : FnScope ["one", "other", "sums", "i", "a", "j", "b"] ["one", "other"] (defScope s_whole_product) := ⟨rfl, rfl, rfl, by decide +kernel, rfl, by decide +kernel, by decide +kernel⟩
def fb_whole_product_0 : GS := (gAugO 2 (fI0 fun i j => i + j) (gBin dAdd (gVar 3) (gVar 5)) (gBin dMul (gVar 4) (gVar 6)))
def fb_whole_product_1 : GS := (gIf (gTru (gVar 4)) (gFor (giArg dEnum (gaCons (gVar 1) gaNil)) (ggTup 2 (ggCons (ggName 5) (ggCons (ggName 6) ggNil))) fb_whole_product_0) gSkip)
def ta_whole_product_0 : GS := (gRet (gCall dToTup (gaCons (gVar 2) gaNil)))
def g_whole_product : GS := (gSeq (gSetO 2 (gfRep (gDisp .list (gaCons (gC (.int 0)) gaNil)) (gBin (fI0 fun i j => i - j) (gBin dAdd (gCall dLen (gaCons (gVar 0) gaNil)) (gCall dLen (gaCons (gVar 1) gaNil))) (gC (.int 1)))))
    (gSeq (gFor (giArg dEnum (gaCons (gVar 0) gaNil)) (ggTup 2 (ggCons (ggName 3) (ggCons (ggName 4) ggNil))) fb_whole_product_1)
    (gFrz 2 ta_whole_product_0)))
def G_whole_product : GF := gFn 7 g_whole_product
theorem d_whole_product (T : Txt P w F mg base K) : DefOk P w F mg base K "whole_product" 1 2 G_whole_product := by
  obtain ⟨f, fd, Fn, hm, hb⟩ := T.f_whole_product
  refine ⟨f, fd, ["one", "other"], ok_def (N := ["one", "other", "sums", "i", "a", "j", "b"]) (g := g_whole_product) Fn sc_whole_product ?body, hm, Fn.kp, hb⟩
  intro cdv A outer s H E hr
  have nd := sc_whole_product.nd
  have hu := hr.units
  have tk : Takes (cxOf (L2.CX P w) P w F mg base ["one", "other", "sums", "i", "a", "j", "b"] "whole_product" (defScope s_whole_product) f cdv A outer s H E) (fun cls d _ H => E cls d H) := takes_of rfl rfl rfl rfl
  have hx : Passes (L2.CX P w) (cxOf (L2.CX P w) P w F mg base ["one", "other", "sums", "i", "a", "j", "b"] "whole_product" (defScope s_whole_product) f cdv A outer s H E) E := passes_call tk fun _ _ _ _ h => h
  have hp : PassesOwn (model P w) (cxOf (L2.CX P w) P w F mg base ["one", "other", "sums", "i", "a", "j", "b"] "whole_product" (defScope s_whole_product) f cdv A outer s H E).A (cxOf (L2.CX P w) P w F mg base ["one", "other", "sums", "i", "a", "j", "b"] "whole_product" (defScope s_whole_product) f cdv A outer s H E).env (cxOf (L2.CX P w) P w F mg base ["one", "other", "sums", "i", "a", "j", "b"] "whole_product" (defScope s_whole_product) f cdv A outer s H E).xe := passes_of rfl
  have hc : (cxOf (L2.CX P w) P w F mg base ["one", "other", "sums", "i", "a", "j", "b"] "whole_product" (defScope s_whole_product) f cdv A outer s H E).calm = true := rfl
  have hKF : K.F = (cxOf (L2.CX P w) P w F mg base ["one", "other", "sums", "i", "a", "j", "b"] "whole_product" (defScope s_whole_product) f cdv A outer s H E).K := T.kf
  exact ⟨_, (pssd_cons (psd_setO (i := 2) nd rfl (by first | exact .inl rfl | exact .inr rfl) (pf_rep (pd_lst (pad_cons pd_int pad_nil)) (pd_op op_sub opD_sub (pd_op op_addD opD_add (pd_callB call_len_seq callD_len (by rfl) T.b_len bb_len (pad_cons (pd_var (pv 0)) pad_nil)) (pd_callB call_len_seq callD_len (by rfl) T.b_len bb_len (pad_cons (pd_var (pv 1)) pad_nil))) pd_int)))
    (pssd_cons (psd_for hp hc (pid_enumT (by rfl) T.b_enumerate (pad_cons (pd_var (pv 0)) pad_nil)) (pgd_tup rfl (pgsd_cons (pgd_name (i := 3) nd rfl (by first | exact .inl rfl | exact .inr rfl)) (pgsd_cons (pgd_name (i := 4) nd rfl (by first | exact .inl rfl | exact .inr rfl)) pgsd_nil))) (pssd_one (psd_if (ptd_truth (pd_var (pv 4))) (pssd_one (psd_for hp hc (pid_enumT (by rfl) T.b_enumerate (pad_cons (pd_var (pv 1)) pad_nil)) (pgd_tup rfl (pgsd_cons (pgd_name (i := 5) nd rfl (by first | exact .inl rfl | exact .inr rfl)) (pgsd_cons (pgd_name (i := 6) nd rfl (by first | exact .inl rfl | exact .inr rfl)) pgsd_nil))) (pssd_one (psd_augO (pv 2) (pd_op op_addD opD_add (pd_var (pv 3)) (pd_var (pv 5))) ip_addD opD_I0 (pd_op op_mulD opD_mul (pd_var (pv 4)) (pd_var (pv 6))))))) pssd_nil)))
    (pssd_frz 2 (pssd_one (psd_ret (pd_callTy call_tuple_of callD_tuple (by rfl) T.b_tuple bb_tuple (pad_cons (pd_var (pv 2)) pad_nil)))))))⟩
theorem sc_nested_times : FnScope ["ring", "one", "other", "sums", "i", "a", "j", "b"] ["ring", "one", "other"] (defScope s_nested_times) := ⟨rfl, rfl, rfl, by decide +kernel, rfl, by decide +kernel, by decide +kernel⟩
def g_nested_times : GS := (gSeq (gIf (gTru (gIsi "int" (gVar 0))) (gRet (gIfE (gTru (gVar 0)) (gBin (fI modOk fun i j => i.fmod j) (gBin dMul (gVar 1) (gVar 2)) (gVar 0)) (gBin dMul (gVar 1) (gVar 2)))) gSkip)
    (gSeq (gIf (gOr (gNot (gTru (gVar 1))) (gNot (gTru (gVar 2)))) (gRet (gDisp .tuple gaNil)) gSkip)
    (gSeq (gIf (gTru (gIsi "int" (gBin dIx (gVar 0) (gC (.int 1))))) (gRet (gIfE (gTru (gBin dIx (gVar 0) (gC (.int 1)))) stkE (gApp 2 G_whole_product (gaCons (gVar 1) (gaCons (gVar 2) gaNil))))) gSkip)
    stkS)))
def G_nested_times : GF := gFn 8 g_nested_times
theorem d_nested_times (T : Txt P w F mg base K) : DefOk P w F mg base K "nested_times" 2 3 G_nested_times := by
  obtain ⟨f, fd, Fn, hm, hb⟩ := T.f_nested_times
  refine ⟨f, fd, ["ring", "one", "other"], ok_def (N := ["ring", "one", "other", "sums", "i", "a", "j", "b"]) (g := g_nested_times) Fn sc_nested_times ?body, hm, Fn.kp, hb⟩
  intro cdv A outer s H E hr
  have nd := sc_nested_times.nd
  have hu := hr.units
  have tk : Takes (cxOf (L2.CX P w) P w F mg base ["ring", "one", "other", "sums", "i", "a", "j", "b"] "nested_times" (defScope s_nested_times) f cdv A outer s H E) (fun cls d _ H => E cls d H) := takes_of rfl rfl rfl rfl
  have hx : Passes (L2.CX P w) (cxOf (L2.CX P w) P w F mg base ["ring", "one", "other", "sums", "i", "a", "j", "b"] "nested_times" (defScope s_nested_times) f cdv A outer s H E) E := passes_call tk fun _ _ _ _ h => h
  have hp : PassesOwn (model P w) (cxOf (L2.CX P w) P w F mg base ["ring", "one", "other", "sums", "i", "a", "j", "b"] "nested_times" (defScope s_nested_times) f cdv A outer s H E).A (cxOf (L2.CX P w) P w F mg base ["ring", "one", "other", "sums", "i", "a", "j", "b"] "nested_times" (defScope s_nested_times) f cdv A outer s H E).env (cxOf (L2.CX P w) P w F mg base ["ring", "one", "other", "sums", "i", "a", "j", "b"] "nested_times" (defScope s_nested_times) f cdv A outer s H E).xe := passes_of rfl
  have hc : (cxOf (L2.CX P w) P w F mg base ["ring", "one", "other", "sums", "i", "a", "j", "b"] "nested_times" (defScope s_nested_times) f cdv A outer s H E).calm = true := rfl
  have hKF : K.F = (cxOf (L2.CX P w) P w F mg base ["ring", "one", "other", "sums", "i", "a", "j", "b"] "nested_times" (defScope s_nested_times) f cdv A outer s H E).K := T.kf
  exact ⟨_, (pssd_cons (psd_if (ptd_truth (pd_isi (T := "int") (pd_var (pv 0)) (by rfl) T.b_isinstance (by rfl) T.b_int bb_int)) (pssd_one (psd_ret (pd_ifExp (ptd_truth (pd_var (pv 0))) (pd_op op_modN opD_mod (pd_op op_mulD opD_mul (pd_var (pv 1)) (pd_var (pv 2))) (pd_var (pv 0))) (pd_op op_mulD opD_mul (pd_var (pv 1)) (pd_var (pv 2)))))) pssd_nil)
    (pssd_cons (psd_if (PWD.pt (pwd_or (ptd_not (ptd_truth (pd_var (pv 1)))) (pwd_or1 (ptd_not (ptd_truth (pd_var (pv 2))))))) (pssd_one (psd_ret (pd_tup pad_nil))) pssd_nil)
    (pssd_cons (psd_if (ptd_truth (pd_isi (T := "int") (pd_ix ixR_D opD_ix (pd_var (pv 0)) pd_int (fun _ _ => rfl)) (by rfl) T.b_isinstance (by rfl) T.b_int bb_int)) (pssd_one (psd_ret (pd_ifExp (ptd_truth (pd_ix ixR_D opD_ix (pd_var (pv 0)) pd_int (fun _ _ => rfl))) pd_stk (pd_callD (d_whole_product T) (hr.mono (by decide)) (by rfl) hx (pad_cons (pd_var (pv 1)) (pad_cons (pd_var (pv 2)) pad_nil)))))) pssd_nil)
    pssd_stk)))⟩
theorem sc_integer_exact : FnScope ["ring", "number", "other", "times", "left"] ["ring", "number", "other"] (defScope s_integer_exact) := ⟨rfl, rfl, rfl, by decide +kernel, rfl, by decide +kernel, by decide +kernel⟩
def g_integer_exact : GS := (gSeq (gIf (gTru (gVar 0)) (gRet (gBin (fI modOk fun i j => i.fmod j) (gBin dMul (gVar 1) stkE) (gVar 0))) gSkip)
    (gSeq (gAsg (gCall dDm (gaCons (gVar 1) (gaCons (gVar 2) gaNil))) (ggTup 2 (ggCons (ggName 3) (ggCons (ggName 4) ggNil))))
    (gRet (gIfE (gTru (gVar 4)) (gC .none) (gVar 3)))))
def G_integer_exact : GF := gFn 5 g_integer_exact
theorem d_integer_exact (T : Txt P w F mg base K) : DefOk P w F mg base K "integer_exact" 1 3 G_integer_exact := by
  obtain ⟨f, fd, Fn, hm, hb⟩ := T.f_integer_exact
  refine ⟨f, fd, ["ring", "number", "other"], ok_def (N := ["ring", "number", "other", "times", "left"]) (g := g_integer_exact) Fn sc_integer_exact ?body, hm, Fn.kp, hb⟩
  intro cdv A outer s H E hr
  have nd := sc_integer_exact.nd
  have hu := hr.units
  have tk : Takes (cxOf (L2.CX P w) P w F mg base ["ring", "number", "other", "times", "left"] "integer_exact" (defScope s_integer_exact) f cdv A outer s H E) (fun cls d _ H => E cls d H) := takes_of rfl rfl rfl rfl
  have hx : Passes (L2.CX P w) (cxOf (L2.CX P w) P w F mg base ["ring", "number", "other", "times", "left"] "integer_exact" (defScope s_integer_exact) f cdv A outer s H E) E := passes_call tk fun _ _ _ _ h => h
  have hp : PassesOwn (model P w) (cxOf (L2.CX P w) P w F mg base ["ring", "number", "other", "times", "left"] "integer_exact" (defScope s_integer_exact) f cdv A outer s H E).A (cxOf (L2.CX P w) P w F mg base ["ring", "number", "other", "times", "left"] "integer_exact" (defScope s_integer_exact) f cdv A outer s H E).env (cxOf (L2.CX P w) P w F mg base ["ring", "number", "other", "times", "left"] "integer_exact" (defScope s_integer_exact) f cdv A outer s H E).xe := passes_of rfl
  have hc : (cxOf (L2.CX P w) P w F mg base ["ring", "number", "other", "times", "left"] "integer_exact" (defScope s_integer_exact) f cdv A outer s H E).calm = true := rfl
  have hKF : K.F = (cxOf (L2.CX P w) P w F mg base ["ring", "number", "other", "times", "left"] "integer_exact" (defScope s_integer_exact) f cdv A outer s H E).K := T.kf
  exact ⟨_, (pssd_cons (psd_if (ptd_truth (pd_var (pv 0))) (pssd_one (psd_ret (pd_op op_modN opD_mod (pd_op op_mulD opD_mul (pd_var (pv 1)) pd_stk) (pd_var (pv 0))))) pssd_nil)
    (pssd_cons (psd_asg (pd_callB call_dm callD_dm (by rfl) T.b_divmod bb_divmod (pad_cons (pd_var (pv 1)) (pad_cons (pd_var (pv 2)) pad_nil))) (pgd_tup rfl (pgsd_cons (pgd_name (i := 3) nd rfl (by first | exact .inl rfl | exact .inr rfl)) (pgsd_cons (pgd_name (i := 4) nd rfl (by first | exact .inl rfl | exact .inr rfl)) pgsd_nil))))
    (pssd_one (psd_ret (pd_ifExp (ptd_truth (pd_var (pv 4))) pd_non (pd_var (pv 3)))))))⟩
theorem sc_nested_exact : FnScope ["ring", "line", "other", "many", "inner", "rest", "quotient", "k", "top", "times", "i", "b"] ["ring", "line", "other"] (defScope s_nested_exact) := ⟨rfl, rfl, rfl, by decide +kernel, rfl, by decide +kernel, by decide +kernel⟩
def fb_nested_exact_0 : GS := (gStO 5 (gApp 3 G_nested_minus (gaCons (gVar 4) (gaCons (gIxO 5 (gBin dAdd (gVar 7) (gVar 10))) (gaCons (gApp 3 G_nested_times (gaCons (gVar 4) (gaCons (gVar 9) (gaCons (gVar 11) gaNil)))) gaNil)))) (gBin dAdd (gVar 7) (gVar 10)))
def fb_nested_exact_1 : GS := (gSeq (gPop 8 5)
    (gIf (gTru (gVar 8)) (gSeq (gSet 9 stkE)
    (gSeq (gIf (gBool (gBin dIsN (gVar 9) (gC .none))) (gRet (gC .none)) gSkip)
    (gSeq (gStO 6 (gVar 9) (gVar 7))
    (gFor (giArg dEnum (gaCons (gSlice (gVar 2) gNoPart (gPart (gUn dNeg (gC (.int 1))))) gaNil)) (ggTup 2 (ggCons (ggName 10) (ggCons (ggName 11) ggNil))) fb_nested_exact_0)))) gSkip))
def ta_nested_exact_0 : GS := (gRet (gIfE (gTru (gCall dAnyI (gaCons (gVar 5) gaNil))) (gC .none) (gCall dToTup (gaCons (gVar 6) gaNil))))
def ta_nested_exact_1 : GS := (gFrz 5 ta_nested_exact_0)
def g_nested_exact_i : GS := (gSeq (gIf (gTru (gIsi "int" (gVar 0))) (gRet (gApp 3 G_integer_exact (gaCons (gVar 0) (gaCons (gVar 1) (gaCons (gVar 2) gaNil))))) gSkip)
    (gSeq (gSet 3 (gBin dAdd (gBin (fI0 fun i j => i - j) (gCall dLen (gaCons (gVar 1) gaNil)) (gCall dLen (gaCons (gVar 2) gaNil))) (gC (.int 1))))
    (gSeq (gIf (gBool (gBin (fB0 fun i j => decide (i ≤ j)) (gVar 3) (gC (.int 0)))) (gRet (gIfE (gTru (gVar 1)) (gC .none) (gDisp .tuple gaNil))) gSkip)
    (gSeq (gSet 4 (gBin dIx (gVar 0) (gC (.int 1))))
    (gSeq (gSetO 5 (gfTo (gaCons (gVar 1) gaNil)))
    (gSeq (gSetO 6 (gfRep (gDisp .list (gaCons (gApp 2 G_nested_constant (gaCons (gVar 4) (gaCons (gC (.int 0)) gaNil))) gaNil)) (gVar 3)))
    (gSeq (gFor (giRngR (gVar 3)) (ggName 7) fb_nested_exact_1)
    (gFrz 6 ta_nested_exact_1))))))))
def G_nested_exact_i : GF := gFn 12 g_nested_exact_i
theorem d_nested_exact_i (T : Txt P w F mg base K) : DefOk P w F mg base K "nested_exact" 3 3 G_nested_exact_i := by
  obtain ⟨f, fd, Fn, hm, hb⟩ := T.f_nested_exact
  refine ⟨f, fd, ["ring", "line", "other"], ok_def (N := ["ring", "line", "other", "many", "inner", "rest", "quotient", "k", "top", "times", "i", "b"]) (g := g_nested_exact_i) Fn sc_nested_exact ?body, hm, Fn.kp, hb⟩
  intro cdv A outer s H E hr
  have nd := sc_nested_exact.nd
  have hu := hr.units
  have tk : Takes (cxOf (L2.CX P w) P w F mg base ["ring", "line", "other", "many", "inner", "rest", "quotient", "k", "top", "times", "i", "b"] "nested_exact" (defScope s_nested_exact) f cdv A outer s H E) (fun cls d _ H => E cls d H) := takes_of rfl rfl rfl rfl
  have hx : Passes (L2.CX P w) (cxOf (L2.CX P w) P w F mg base ["ring", "line", "other", "many", "inner", "rest", "quotient", "k", "top", "times", "i", "b"] "nested_exact" (defScope s_nested_exact) f cdv A outer s H E) E := passes_call tk fun _ _ _ _ h => h
  have hp : PassesOwn (model P w) (cxOf (L2.CX P w) P w F mg base ["ring", "line", "other", "many", "inner", "rest", "quotient", "k", "top", "times", "i", "b"] "nested_exact" (defScope s_nested_exact) f cdv A outer s H E).A (cxOf (L2.CX P w) P w F mg base ["ring", "line", "other", "many", "inner", "rest", "quotient", "k", "top", "times", "i", "b"] "nested_exact" (defScope s_nested_exact) f cdv A outer s H E).env (cxOf (L2.CX P w) P w F mg base ["ring", "line", "other", "many", "inner", "rest", "quotient", "k", "top", "times", "i", "b"] "nested_exact" (defScope s_nested_exact) f cdv A outer s H E).xe := passes_of rfl
  have hc : (cxOf (L2.CX P w) P w F mg base ["ring", "line", "other", "many", "inner", "rest", "quotient", "k", "top", "times", "i", "b"] "nested_exact" (defScope s_nested_exact) f cdv A outer s H E).calm = true := rfl
  have hKF : K.F = (cxOf (L2.CX P w) P w F mg base ["ring", "line", "other", "many", "inner", "rest", "quotient", "k", "top", "times", "i", "b"] "nested_exact" (defScope s_nested_exact) f cdv A outer s H E).K := T.kf
  exact ⟨_, (pssd_cons (psd_if (ptd_truth (pd_isi (T := "int") (pd_var (pv 0)) (by rfl) T.b_isinstance (by rfl) T.b_int bb_int)) (pssd_one (psd_ret (pd_callD (d_integer_exact T) (hr.mono (by decide)) (by rfl) hx (pad_cons (pd_var (pv 0)) (pad_cons (pd_var (pv 1)) (pad_cons (pd_var (pv 2)) pad_nil)))))) pssd_nil)
    (pssd_cons (psd_set (i := 3) nd rfl (by first | exact .inl rfl | exact .inr rfl) (pd_op op_addD opD_add (pd_op op_sub opD_sub (pd_callB call_len_seq callD_len (by rfl) T.b_len bb_len (pad_cons (pd_var (pv 1)) pad_nil)) (pd_callB call_len_seq callD_len (by rfl) T.b_len bb_len (pad_cons (pd_var (pv 2)) pad_nil))) pd_int))
    (pssd_cons (psd_if (ptd_cmp op_le opD_le (pd_var (pv 3)) pd_int (nomark _)) (pssd_one (psd_ret (pd_ifExp (ptd_truth (pd_var (pv 1))) pd_non (pd_tup pad_nil)))) pssd_nil)
    (pssd_cons (psd_set (i := 4) nd rfl (by first | exact .inl rfl | exact .inr rfl) (pd_ix ixR_D opD_ix (pd_var (pv 0)) pd_int (fun _ _ => rfl)))
    (pssd_cons (psd_setO (i := 5) nd rfl (by first | exact .inl rfl | exact .inr rfl) (pf_to (by rfl) T.b_list bb_list (pad_cons (pd_var (pv 1)) pad_nil)))
    (pssd_cons (psd_setO (i := 6) nd rfl (by first | exact .inl rfl | exact .inr rfl) (pf_rep (pd_lst (pad_cons (pd_callD (d_nested_constant T) (hr.mono (by decide)) (by rfl) hx (pad_cons (pd_var (pv 4)) (pad_cons pd_int pad_nil))) pad_nil)) (pd_var (pv 3))))
    (pssd_cons (psd_for hp hc (pid_revR (by rfl) T.b_reversed (by rfl) T.b_range (pd_var (pv 3))) (pgd_name (i := 7) nd rfl (by first | exact .inl rfl | exact .inr rfl)) (pssd_cons (psd_pop (i := 5) (j := 8) nd rfl (by first | exact .inl rfl | exact .inr rfl) (pv 5) (pe_bm0 PySem.F.plainAttrs_list PySem.F.slot_list_pop PySem.F.type_list_pop mt_pop (pv 5)))
    (pssd_one (psd_if (ptd_truth (pd_var (pv 8))) (pssd_cons (psd_set (i := 9) nd rfl (by first | exact .inl rfl | exact .inr rfl) pd_stk)
    (pssd_cons (psd_if (ptd_cmp op_isN opD_isN (pd_var (pv 9)) pd_non (nomark _)) (pssd_one (psd_ret pd_non)) pssd_nil)
    (pssd_cons (psd_stO (pv 6) (pd_var (pv 9)) (pd_var (pv 7)))
    (pssd_one (psd_for hp hc (pid_enumT (by rfl) T.b_enumerate (pad_cons (pd_slice (pd_var (pv 2)) pod_none (pod_some (pd_neg pd_int))) pad_nil)) (pgd_tup rfl (pgsd_cons (pgd_name (i := 10) nd rfl (by first | exact .inl rfl | exact .inr rfl)) (pgsd_cons (pgd_name (i := 11) nd rfl (by first | exact .inl rfl | exact .inr rfl)) pgsd_nil))) (pssd_one (psd_stO (pv 5) (pd_callD (d_nested_minus T) (hr.mono (by decide)) (by rfl) hx (pad_cons (pd_var (pv 4)) (pad_cons (pd_ixO (pv 5) (pd_op op_addD opD_add (pd_var (pv 7)) (pd_var (pv 10))) (fun _ _ => rfl)) (pad_cons (pd_callD (d_nested_times T) (hr.mono (by decide)) (by rfl) hx (pad_cons (pd_var (pv 4)) (pad_cons (pd_var (pv 9)) (pad_cons (pd_var (pv 11)) pad_nil)))) pad_nil)))) (pd_op op_addD opD_add (pd_var (pv 7)) (pd_var (pv 10)))))))))) pssd_nil))))
    (pssd_frz 6 (pssd_frz 5 (pssd_one (psd_ret (pd_ifExp (ptd_truth (pd_callB (cr_anyI rfl) callD_anyI (by rfl) T.b_any bb_any (pad_cons (pd_var (pv 5)) pad_nil))) pd_non (pd_callTy call_tuple_of callD_tuple (by rfl) T.b_tuple bb_tuple (pad_cons (pd_var (pv 6)) pad_nil))))))))))))))⟩
def fb_nested_exact_2 : GS := (gStO 5 (gApp 3 G_nested_minus (gaCons (gVar 4) (gaCons (gIxO 5 (gBin dAdd (gVar 7) (gVar 10))) (gaCons (gApp 3 G_nested_times (gaCons (gVar 4) (gaCons (gVar 9) (gaCons (gVar 11) gaNil)))) gaNil)))) (gBin dAdd (gVar 7) (gVar 10)))
def fb_nested_exact_3 : GS := (gSeq (gPop 8 5)
    (gIf (gTru (gVar 8)) (gSeq (gSet 9 (gApp 3 G_nested_exact_i (gaCons (gVar 4) (gaCons (gVar 8) (gaCons (gBin dIx (gVar 2) (gUn dNeg (gC (.int 1)))) gaNil)))))
    (gSeq (gIf (gBool (gBin dIsN (gVar 9) (gC .none))) (gRet (gC .none)) gSkip)
    (gSeq (gStO 6 (gVar 9) (gVar 7))
    (gFor (giArg dEnum (gaCons (gSlice (gVar 2) gNoPart (gPart (gUn dNeg (gC (.int 1))))) gaNil)) (ggTup 2 (ggCons (ggName 10) (ggCons (ggName 11) ggNil))) fb_nested_exact_2)))) gSkip))
def ta_nested_exact_2 : GS := (gRet (gIfE (gTru (gCall dAnyI (gaCons (gVar 5) gaNil))) (gC .none) (gCall dToTup (gaCons (gVar 6) gaNil))))
def ta_nested_exact_3 : GS := (gFrz 5 ta_nested_exact_2)
def g_nested_exact : GS := (gSeq (gIf (gTru (gIsi "int" (gVar 0))) (gRet (gApp 3 G_integer_exact (gaCons (gVar 0) (gaCons (gVar 1) (gaCons (gVar 2) gaNil))))) gSkip)
    (gSeq (gSet 3 (gBin dAdd (gBin (fI0 fun i j => i - j) (gCall dLen (gaCons (gVar 1) gaNil)) (gCall dLen (gaCons (gVar 2) gaNil))) (gC (.int 1))))
    (gSeq (gIf (gBool (gBin (fB0 fun i j => decide (i ≤ j)) (gVar 3) (gC (.int 0)))) (gRet (gIfE (gTru (gVar 1)) (gC .none) (gDisp .tuple gaNil))) gSkip)
    (gSeq (gSet 4 (gBin dIx (gVar 0) (gC (.int 1))))
    (gSeq (gSetO 5 (gfTo (gaCons (gVar 1) gaNil)))
    (gSeq (gSetO 6 (gfRep (gDisp .list (gaCons (gApp 2 G_nested_constant (gaCons (gVar 4) (gaCons (gC (.int 0)) gaNil))) gaNil)) (gVar 3)))
    (gSeq (gFor (giRngR (gVar 3)) (ggName 7) fb_nested_exact_3)
    (gFrz 6 ta_nested_exact_3))))))))
def G_nested_exact : GF := gFn 12 g_nested_exact
theorem d_nested_exact (T : Txt P w F mg base K) : DefOk P w F mg base K "nested_exact" 4 3 G_nested_exact := by
  obtain ⟨f, fd, Fn, hm, hb⟩ := T.f_nested_exact
  refine ⟨f, fd, ["ring", "line", "other"], ok_def (N := ["ring", "line", "other", "many", "inner", "rest", "quotient", "k", "top", "times", "i", "b"]) (g := g_nested_exact) Fn sc_nested_exact ?body, hm, Fn.kp, hb⟩
  intro cdv A outer s H E hr
  have nd := sc_nested_exact.nd
  have hu := hr.units
  have tk : Takes (cxOf (L2.CX P w) P w F mg base ["ring", "line", "other", "many", "inner", "rest", "quotient", "k", "top", "times", "i", "b"] "nested_exact" (defScope s_nested_exact) f cdv A outer s H E) (fun cls d _ H => E cls d H) := takes_of rfl rfl rfl rfl
  have hx : Passes (L2.CX P w) (cxOf (L2.CX P w) P w F mg base ["ring", "line", "other", "many", "inner", "rest", "quotient", "k", "top", "times", "i", "b"] "nested_exact" (defScope s_nested_exact) f cdv A outer s H E) E := passes_call tk fun _ _ _ _ h => h
  have hp : PassesOwn (model P w) (cxOf (L2.CX P w) P w F mg base ["ring", "line", "other", "many", "inner", "rest", "quotient", "k", "top", "times", "i", "b"] "nested_exact" (defScope s_nested_exact) f cdv A outer s H E).A (cxOf (L2.CX P w) P w F mg base ["ring", "line", "other", "many", "inner", "rest", "quotient", "k", "top", "times", "i", "b"] "nested_exact" (defScope s_nested_exact) f cdv A outer s H E).env (cxOf (L2.CX P w) P w F mg base ["ring", "line", "other", "many", "inner", "rest", "quotient", "k", "top", "times", "i", "b"] "nested_exact" (defScope s_nested_exact) f cdv A outer s H E).xe := passes_of rfl
  have hc : (cxOf (L2.CX P w) P w F mg base ["ring", "line", "other", "many", "inner", "rest", "quotient", "k", "top", "times", "i", "b"] "nested_exact" (defScope s_nested_exact) f cdv A outer s H E).calm = true := rfl
  have hKF : K.F = (cxOf (L2.CX P w) P w F mg base ["ring", "line", "other", "many", "inner", "rest", "quotient", "k", "top", "times", "i", "b"] "nested_exact" (defScope s_nested_exact) f cdv A outer s H E).K := T.kf
  exact ⟨_, (pssd_cons (psd_if (ptd_truth (pd_isi (T := "int") (pd_var (pv 0)) (by rfl) T.b_isinstance (by rfl) T.b_int bb_int)) (pssd_one (psd_ret (pd_callD (d_integer_exact T) (hr.mono (by decide)) (by rfl) hx (pad_cons (pd_var (pv 0)) (pad_cons (pd_var (pv 1)) (pad_cons (pd_var (pv 2)) pad_nil)))))) pssd_nil)
    (pssd_cons (psd_set (i := 3) nd rfl (by first | exact .inl rfl | exact .inr rfl) (pd_op op_addD opD_add (pd_op op_sub opD_sub (pd_callB call_len_seq callD_len (by rfl) T.b_len bb_len (pad_cons (pd_var (pv 1)) pad_nil)) (pd_callB call_len_seq callD_len (by rfl) T.b_len bb_len (pad_cons (pd_var (pv 2)) pad_nil))) pd_int))
    (pssd_cons (psd_if (ptd_cmp op_le opD_le (pd_var (pv 3)) pd_int (nomark _)) (pssd_one (psd_ret (pd_ifExp (ptd_truth (pd_var (pv 1))) pd_non (pd_tup pad_nil)))) pssd_nil)
    (pssd_cons (psd_set (i := 4) nd rfl (by first | exact .inl rfl | exact .inr rfl) (pd_ix ixR_D opD_ix (pd_var (pv 0)) pd_int (fun _ _ => rfl)))
    (pssd_cons (psd_setO (i := 5) nd rfl (by first | exact .inl rfl | exact .inr rfl) (pf_to (by rfl) T.b_list bb_list (pad_cons (pd_var (pv 1)) pad_nil)))
    (pssd_cons (psd_setO (i := 6) nd rfl (by first | exact .inl rfl | exact .inr rfl) (pf_rep (pd_lst (pad_cons (pd_callD (d_nested_constant T) (hr.mono (by decide)) (by rfl) hx (pad_cons (pd_var (pv 4)) (pad_cons pd_int pad_nil))) pad_nil)) (pd_var (pv 3))))
    (pssd_cons (psd_for hp hc (pid_revR (by rfl) T.b_reversed (by rfl) T.b_range (pd_var (pv 3))) (pgd_name (i := 7) nd rfl (by first | exact .inl rfl | exact .inr rfl)) (pssd_cons (psd_pop (i := 5) (j := 8) nd rfl (by first | exact .inl rfl | exact .inr rfl) (pv 5) (pe_bm0 PySem.F.plainAttrs_list PySem.F.slot_list_pop PySem.F.type_list_pop mt_pop (pv 5)))
    (pssd_one (psd_if (ptd_truth (pd_var (pv 8))) (pssd_cons (psd_set (i := 9) nd rfl (by first | exact .inl rfl | exact .inr rfl) (pd_callD (d_nested_exact_i T) (hr.mono (by decide)) (by rfl) hx (pad_cons (pd_var (pv 4)) (pad_cons (pd_var (pv 8)) (pad_cons (pd_ix ixR_D opD_ix (pd_var (pv 2)) (pd_neg pd_int) (fun _ _ => rfl)) pad_nil)))))
    (pssd_cons (psd_if (ptd_cmp op_isN opD_isN (pd_var (pv 9)) pd_non (nomark _)) (pssd_one (psd_ret pd_non)) pssd_nil)
    (pssd_cons (psd_stO (pv 6) (pd_var (pv 9)) (pd_var (pv 7)))
    (pssd_one (psd_for hp hc (pid_enumT (by rfl) T.b_enumerate (pad_cons (pd_slice (pd_var (pv 2)) pod_none (pod_some (pd_neg pd_int))) pad_nil)) (pgd_tup rfl (pgsd_cons (pgd_name (i := 10) nd rfl (by first | exact .inl rfl | exact .inr rfl)) (pgsd_cons (pgd_name (i := 11) nd rfl (by first | exact .inl rfl | exact .inr rfl)) pgsd_nil))) (pssd_one (psd_stO (pv 5) (pd_callD (d_nested_minus T) (hr.mono (by decide)) (by rfl) hx (pad_cons (pd_var (pv 4)) (pad_cons (pd_ixO (pv 5) (pd_op op_addD opD_add (pd_var (pv 7)) (pd_var (pv 10))) (fun _ _ => rfl)) (pad_cons (pd_callD (d_nested_times T) (hr.mono (by decide)) (by rfl) hx (pad_cons (pd_var (pv 4)) (pad_cons (pd_var (pv 9)) (pad_cons (pd_var (pv 11)) pad_nil)))) pad_nil)))) (pd_op op_addD opD_add (pd_var (pv 7)) (pd_var (pv 10)))))))))) pssd_nil))))
    (pssd_frz 6 (pssd_frz 5 (pssd_one (psd_ret (pd_ifExp (ptd_truth (pd_callB (cr_anyI rfl) callD_anyI (by rfl) T.b_any bb_any (pad_cons (pd_var (pv 5)) pad_nil))) pd_non (pd_callTy call_tuple_of callD_tuple (by rfl) T.b_tuple bb_tuple (pad_cons (pd_var (pv 6)) pad_nil))))))))))))))⟩
theorem sc_nested_content : FnScope ["ring", "value", "found", "part"] ["ring", "value"] (defScope s_nested_content) := ⟨rfl, rfl, rfl, by decide +kernel, rfl, by decide +kernel, by decide +kernel⟩
def fb_nested_content_0 : GS := (gSeq (gSet 2 (gCall dGcd (gaCons (gVar 2) (gaCons stkE gaNil))))
    (gIf (gBool (gBin dEq (gVar 2) (gC (.int 1)))) gBrk gSkip))
def g_nested_content_i : GS := (gSeq (gIf (gTru (gIsi "int" (gVar 0))) (gRet (gCall dAbs (gaCons (gVar 1) gaNil))) gSkip)
    (gSeq (gSet 2 (gC (.int 0)))
    (gSeq (gFor (giTup (gVar 1)) (ggName 3) fb_nested_content_0)
    (gRet (gVar 2)))))
def G_nested_content_i : GF := gFn 4 g_nested_content_i
theorem d_nested_content_i (T : Txt P w F mg base K) : DefOk P w F mg base K "nested_content" 1 2 G_nested_content_i := by
  obtain ⟨f, fd, Fn, hm, hb⟩ := T.f_nested_content
  refine ⟨f, fd, ["ring", "value"], ok_def (N := ["ring", "value", "found", "part"]) (g := g_nested_content_i) Fn sc_nested_content ?body, hm, Fn.kp, hb⟩
  intro cdv A outer s H E hr
  have nd := sc_nested_content.nd
  have hu := hr.units
  have tk : Takes (cxOf (L2.CX P w) P w F mg base ["ring", "value", "found", "part"] "nested_content" (defScope s_nested_content) f cdv A outer s H E) (fun cls d _ H => E cls d H) := takes_of rfl rfl rfl rfl
  have hx : Passes (L2.CX P w) (cxOf (L2.CX P w) P w F mg base ["ring", "value", "found", "part"] "nested_content" (defScope s_nested_content) f cdv A outer s H E) E := passes_call tk fun _ _ _ _ h => h
  have hp : PassesOwn (model P w) (cxOf (L2.CX P w) P w F mg base ["ring", "value", "found", "part"] "nested_content" (defScope s_nested_content) f cdv A outer s H E).A (cxOf (L2.CX P w) P w F mg base ["ring", "value", "found", "part"] "nested_content" (defScope s_nested_content) f cdv A outer s H E).env (cxOf (L2.CX P w) P w F mg base ["ring", "value", "found", "part"] "nested_content" (defScope s_nested_content) f cdv A outer s H E).xe := passes_of rfl
  have hc : (cxOf (L2.CX P w) P w F mg base ["ring", "value", "found", "part"] "nested_content" (defScope s_nested_content) f cdv A outer s H E).calm = true := rfl
  have hKF : K.F = (cxOf (L2.CX P w) P w F mg base ["ring", "value", "found", "part"] "nested_content" (defScope s_nested_content) f cdv A outer s H E).K := T.kf
  exact ⟨_, (pssd_cons (psd_if (ptd_truth (pd_isi (T := "int") (pd_var (pv 0)) (by rfl) T.b_isinstance (by rfl) T.b_int bb_int)) (pssd_one (psd_ret (pd_callB call_abs callD_abs (by rfl) T.b_abs bb_abs (pad_cons (pd_var (pv 1)) pad_nil)))) pssd_nil)
    (pssd_cons (psd_set (i := 2) nd rfl (by first | exact .inl rfl | exact .inr rfl) pd_int)
    (pssd_cons (psd_for hp hc (pid_tup (pd_var (pv 1))) (pgd_name (i := 3) nd rfl (by first | exact .inl rfl | exact .inr rfl)) (pssd_cons (psd_set (i := 2) nd rfl (by first | exact .inl rfl | exact .inr rfl) (pd_callBf cr_gcd callD_gcd (by rfl) T.b_gcd (pad_cons (pd_var (pv 2)) (pad_cons pd_stk pad_nil))))
    (pssd_one (psd_if (ptd_cmp (op_eqX hu) opD_eq (pd_var (pv 2)) pd_int (nomark _)) (pssd_one psd_break) pssd_nil))))
    (pssd_one (psd_ret (pd_var (pv 2)))))))⟩
def fb_nested_content_1 : GS := (gSeq (gSet 2 (gCall dGcd (gaCons (gVar 2) (gaCons (gApp 2 G_nested_content_i (gaCons (gBin dIx (gVar 0) (gC (.int 1))) (gaCons (gVar 3) gaNil))) gaNil))))
    (gIf (gBool (gBin dEq (gVar 2) (gC (.int 1)))) gBrk gSkip))
def g_nested_content : GS := (gSeq (gIf (gTru (gIsi "int" (gVar 0))) (gRet (gCall dAbs (gaCons (gVar 1) gaNil))) gSkip)
    (gSeq (gSet 2 (gC (.int 0)))
    (gSeq (gFor (giTup (gVar 1)) (ggName 3) fb_nested_content_1)
    (gRet (gVar 2)))))
def G_nested_content : GF := gFn 4 g_nested_content
theorem d_nested_content (T : Txt P w F mg base K) : DefOk P w F mg base K "nested_content" 2 2 G_nested_content := by
  obtain ⟨f, fd, Fn, hm, hb⟩ := T.f_nested_content
  refine ⟨f, fd, ["ring", "value"], ok_def (N := ["ring", "value", "found", "part"]) (g := g_nested_content) Fn sc_nested_content ?body, hm, Fn.kp, hb⟩
  intro cdv A outer s H E hr
  have nd := sc_nested_content.nd
  have hu := hr.units
  have tk : Takes (cxOf (L2.CX P w) P w F mg base ["ring", "value", "found", "part"] "nested_content" (defScope s_nested_content) f cdv A outer s H E) (fun cls d _ H => E cls d H) := takes_of rfl rfl rfl rfl
  have hx : Passes (L2.CX P w) (cxOf (L2.CX P w) P w F mg base ["ring", "value", "found", "part"] "nested_content" (defScope s_nested_content) f cdv A outer s H E) E := passes_call tk fun _ _ _ _ h => h
  have hp : PassesOwn (model P w) (cxOf (L2.CX P w) P w F mg base ["ring", "value", "found", "part"] "nested_content" (defScope s_nested_content) f cdv A outer s H E).A (cxOf (L2.CX P w) P w F mg base ["ring", "value", "found", "part"] "nested_content" (defScope s_nested_content) f cdv A outer s H E).env (cxOf (L2.CX P w) P w F mg base ["ring", "value", "found", "part"] "nested_content" (defScope s_nested_content) f cdv A outer s H E).xe := passes_of rfl
  have hc : (cxOf (L2.CX P w) P w F mg base ["ring", "value", "found", "part"] "nested_content" (defScope s_nested_content) f cdv A outer s H E).calm = true := rfl
  have hKF : K.F = (cxOf (L2.CX P w) P w F mg base ["ring", "value", "found", "part"] "nested_content" (defScope s_nested_content) f cdv A outer s H E).K := T.kf
  exact ⟨_, (pssd_cons (psd_if (ptd_truth (pd_isi (T := "int") (pd_var (pv 0)) (by rfl) T.b_isinstance (by rfl) T.b_int bb_int)) (pssd_one (psd_ret (pd_callB call_abs callD_abs (by rfl) T.b_abs bb_abs (pad_cons (pd_var (pv 1)) pad_nil)))) pssd_nil)
    (pssd_cons (psd_set (i := 2) nd rfl (by first | exact .inl rfl | exact .inr rfl) pd_int)
    (pssd_cons (psd_for hp hc (pid_tup (pd_var (pv 1))) (pgd_name (i := 3) nd rfl (by first | exact .inl rfl | exact .inr rfl)) (pssd_cons (psd_set (i := 2) nd rfl (by first | exact .inl rfl | exact .inr rfl) (pd_callBf cr_gcd callD_gcd (by rfl) T.b_gcd (pad_cons (pd_var (pv 2)) (pad_cons (pd_callD (d_nested_content_i T) (hr.mono (by decide)) (by rfl) hx (pad_cons (pd_ix ixR_D opD_ix (pd_var (pv 0)) pd_int (fun _ _ => rfl)) (pad_cons (pd_var (pv 3)) pad_nil))) pad_nil))))
    (pssd_one (psd_if (ptd_cmp (op_eqX hu) opD_eq (pd_var (pv 2)) pd_int (nomark _)) (pssd_one psd_break) pssd_nil))))
    (pssd_one (psd_ret (pd_var (pv 2)))))))⟩
theorem sc_nested_common : FnScope ["ring", "one", "other", "contents", "found", "common"] ["ring", "one", "other"] (defScope s_nested_common) := ⟨rfl, rfl, rfl, by decide +kernel, rfl, by decide +kernel, by decide +kernel⟩
def g_nested_common : GS := (gSeq (gIf (gOr (gNot (gTru (gVar 1))) (gNot (gTru (gVar 2)))) (gRet (gOrV (gVar 1) (gVar 2))) gSkip)
    (gSeq (gIf (gTru (gIsi "int" (gVar 0))) (gRet (gIfE (gTru (gVar 0)) (gC (.int 1)) (gCall dGcd (gaCons (gVar 1) (gaCons (gVar 2) gaNil))))) gSkip)
    stkS))
def G_nested_common : GF := gFn 6 g_nested_common
theorem d_nested_common (T : Txt P w F mg base K) : DefOk P w F mg base K "nested_common" 1 3 G_nested_common := by
  obtain ⟨f, fd, Fn, hm, hb⟩ := T.f_nested_common
  refine ⟨f, fd, ["ring", "one", "other"], ok_def (N := ["ring", "one", "other", "contents", "found", "common"]) (g := g_nested_common) Fn sc_nested_common ?body, hm, Fn.kp, hb⟩
  intro cdv A outer s H E hr
  have nd := sc_nested_common.nd
  have hu := hr.units
  have tk : Takes (cxOf (L2.CX P w) P w F mg base ["ring", "one", "other", "contents", "found", "common"] "nested_common" (defScope s_nested_common) f cdv A outer s H E) (fun cls d _ H => E cls d H) := takes_of rfl rfl rfl rfl
  have hx : Passes (L2.CX P w) (cxOf (L2.CX P w) P w F mg base ["ring", "one", "other", "contents", "found", "common"] "nested_common" (defScope s_nested_common) f cdv A outer s H E) E := passes_call tk fun _ _ _ _ h => h
  have hp : PassesOwn (model P w) (cxOf (L2.CX P w) P w F mg base ["ring", "one", "other", "contents", "found", "common"] "nested_common" (defScope s_nested_common) f cdv A outer s H E).A (cxOf (L2.CX P w) P w F mg base ["ring", "one", "other", "contents", "found", "common"] "nested_common" (defScope s_nested_common) f cdv A outer s H E).env (cxOf (L2.CX P w) P w F mg base ["ring", "one", "other", "contents", "found", "common"] "nested_common" (defScope s_nested_common) f cdv A outer s H E).xe := passes_of rfl
  have hc : (cxOf (L2.CX P w) P w F mg base ["ring", "one", "other", "contents", "found", "common"] "nested_common" (defScope s_nested_common) f cdv A outer s H E).calm = true := rfl
  have hKF : K.F = (cxOf (L2.CX P w) P w F mg base ["ring", "one", "other", "contents", "found", "common"] "nested_common" (defScope s_nested_common) f cdv A outer s H E).K := T.kf
  exact ⟨_, (pssd_cons (psd_if (PWD.pt (pwd_or (ptd_not (ptd_truth (pd_var (pv 1)))) (pwd_or1 (ptd_not (ptd_truth (pd_var (pv 2))))))) (pssd_one (psd_ret (pd_or (pd_var (pv 1)) (pd_one (pd_var (pv 2)))))) pssd_nil)
    (pssd_cons (psd_if (ptd_truth (pd_isi (T := "int") (pd_var (pv 0)) (by rfl) T.b_isinstance (by rfl) T.b_int bb_int)) (pssd_one (psd_ret (pd_ifExp (ptd_truth (pd_var (pv 0))) pd_int (pd_callBf cr_gcd callD_gcd (by rfl) T.b_gcd (pad_cons (pd_var (pv 1)) (pad_cons (pd_var (pv 2)) pad_nil)))))) pssd_nil)
    pssd_stk))⟩
theorem sc_common_multiple : FnScope ["ring", "parts", "found", "part", "missing"] ["ring", "parts"] (defScope s_common_multiple) := ⟨rfl, rfl, rfl, by decide +kernel, rfl, by decide +kernel, by decide +kernel⟩
def fb_common_multiple_0 : GS := (gIf (gAnd (gNot (gTru (gApp 2 G_is_unit (gaCons (gVar 0) (gaCons (gVar 3) gaNil))))) (gBool (gBin dNe (gVar 3) (gVar 2)))) (gSeq (gSet 4 (gApp 3 G_nested_exact (gaCons (gVar 0) (gaCons (gVar 3) (gaCons (gApp 3 G_nested_common (gaCons (gVar 0) (gaCons (gVar 3) (gaCons (gVar 2) gaNil)))) gaNil)))))
    (gSet 2 (gApp 3 G_nested_times (gaCons (gVar 0) (gaCons (gVar 2) (gaCons (gVar 4) gaNil)))))) gSkip)
def g_common_multiple : GS := (gSeq (gSet 2 (gApp 2 G_nested_constant (gaCons (gVar 0) (gaCons (gC (.int 1)) gaNil))))
    (gSeq (gFor (giLst (gVar 1)) (ggName 3) fb_common_multiple_0)
    (gRet (gVar 2))))
def G_common_multiple : GF := gFn 5 g_common_multiple
theorem d_common_multiple (T : Txt P w F mg base K) : DefOk P w F mg base K "common_multiple" 5 2 G_common_multiple := by
  obtain ⟨f, fd, Fn, hm, hb⟩ := T.f_common_multiple
  refine ⟨f, fd, ["ring", "parts"], ok_def (N := ["ring", "parts", "found", "part", "missing"]) (g := g_common_multiple) Fn sc_common_multiple ?body, hm, Fn.kp, hb⟩
  intro cdv A outer s H E hr
  have nd := sc_common_multiple.nd
  have hu := hr.units
  have tk : Takes (cxOf (L2.CX P w) P w F mg base ["ring", "parts", "found", "part", "missing"] "common_multiple" (defScope s_common_multiple) f cdv A outer s H E) (fun cls d _ H => E cls d H) := takes_of rfl rfl rfl rfl
  have hx : Passes (L2.CX P w) (cxOf (L2.CX P w) P w F mg base ["ring", "parts", "found", "part", "missing"] "common_multiple" (defScope s_common_multiple) f cdv A outer s H E) E := passes_call tk fun _ _ _ _ h => h
  have hp : PassesOwn (model P w) (cxOf (L2.CX P w) P w F mg base ["ring", "parts", "found", "part", "missing"] "common_multiple" (defScope s_common_multiple) f cdv A outer s H E).A (cxOf (L2.CX P w) P w F mg base ["ring", "parts", "found", "part", "missing"] "common_multiple" (defScope s_common_multiple) f cdv A outer s H E).env (cxOf (L2.CX P w) P w F mg base ["ring", "parts", "found", "part", "missing"] "common_multiple" (defScope s_common_multiple) f cdv A outer s H E).xe := passes_of rfl
  have hc : (cxOf (L2.CX P w) P w F mg base ["ring", "parts", "found", "part", "missing"] "common_multiple" (defScope s_common_multiple) f cdv A outer s H E).calm = true := rfl
  have hKF : K.F = (cxOf (L2.CX P w) P w F mg base ["ring", "parts", "found", "part", "missing"] "common_multiple" (defScope s_common_multiple) f cdv A outer s H E).K := T.kf
  exact ⟨_, (pssd_cons (psd_set (i := 2) nd rfl (by first | exact .inl rfl | exact .inr rfl) (pd_callD (d_nested_constant T) (hr.mono (by decide)) (by rfl) hx (pad_cons (pd_var (pv 0)) (pad_cons pd_int pad_nil))))
    (pssd_cons (psd_for hp hc (pid_lst (pd_var (pv 1))) (pgd_name (i := 3) nd rfl (by first | exact .inl rfl | exact .inr rfl)) (pssd_one (psd_if (PWD.pt (pwd_and (ptd_not (ptd_truth (pd_callD (d_is_unit T) (hr.mono (by decide)) (by rfl) hx (pad_cons (pd_var (pv 0)) (pad_cons (pd_var (pv 3)) pad_nil))))) (pwd_and1 (ptd_cmp (op_neX hu) opD_ne (pd_var (pv 3)) (pd_var (pv 2)) (nomark _))))) (pssd_cons (psd_set (i := 4) nd rfl (by first | exact .inl rfl | exact .inr rfl) (pd_callD (d_nested_exact T) (hr.mono (by decide)) (by rfl) hx (pad_cons (pd_var (pv 0)) (pad_cons (pd_var (pv 3)) (pad_cons (pd_callD (d_nested_common T) (hr.mono (by decide)) (by rfl) hx (pad_cons (pd_var (pv 0)) (pad_cons (pd_var (pv 3)) (pad_cons (pd_var (pv 2)) pad_nil)))) pad_nil)))))
    (pssd_one (psd_set (i := 2) nd rfl (by first | exact .inl rfl | exact .inr rfl) (pd_callD (d_nested_times T) (hr.mono (by decide)) (by rfl) hx (pad_cons (pd_var (pv 0)) (pad_cons (pd_var (pv 2)) (pad_cons (pd_var (pv 4)) pad_nil))))))) pssd_nil)))
    (pssd_one (psd_ret (pd_var (pv 2))))))⟩
theorem sc_whole_number : FnScope ["field", "number", "common", "above", "below", "over", "by_over", "under", "by_under"] ["field", "number"] (defScope s_whole_number) := ⟨rfl, rfl, rfl, by decide +kernel, rfl, by decide +kernel, by decide +kernel⟩
def g_whole_number : GS := (gSeq (gIf (gTru (gIsi "int" (gVar 0))) (gRet (gIfE (gTru (gVar 0)) (gDisp .tuple (gaCons (gVar 1) (gaCons (gC (.int 1)) gaNil))) (gVar 1))) gSkip)
    stkS)
def G_whole_number : GF := gFn 9 g_whole_number
theorem d_whole_number (T : Txt P w F mg base K) : DefOk P w F mg base K "whole_number" 1 2 G_whole_number := by
  obtain ⟨f, fd, Fn, hm, hb⟩ := T.f_whole_number
  refine ⟨f, fd, ["field", "number"], ok_def (N := ["field", "number", "common", "above", "below", "over", "by_over", "under", "by_under"]) (g := g_whole_number) Fn sc_whole_number ?body, hm, Fn.kp, hb⟩
  intro cdv A outer s H E hr
  have nd := sc_whole_number.nd
  have hu := hr.units
  have tk : Takes (cxOf (L2.CX P w) P w F mg base ["field", "number", "common", "above", "below", "over", "by_over", "under", "by_under"] "whole_number" (defScope s_whole_number) f cdv A outer s H E) (fun cls d _ H => E cls d H) := takes_of rfl rfl rfl rfl
  have hx : Passes (L2.CX P w) (cxOf (L2.CX P w) P w F mg base ["field", "number", "common", "above", "below", "over", "by_over", "under", "by_under"] "whole_number" (defScope s_whole_number) f cdv A outer s H E) E := passes_call tk fun _ _ _ _ h => h
  have hp : PassesOwn (model P w) (cxOf (L2.CX P w) P w F mg base ["field", "number", "common", "above", "below", "over", "by_over", "under", "by_under"] "whole_number" (defScope s_whole_number) f cdv A outer s H E).A (cxOf (L2.CX P w) P w F mg base ["field", "number", "common", "above", "below", "over", "by_over", "under", "by_under"] "whole_number" (defScope s_whole_number) f cdv A outer s H E).env (cxOf (L2.CX P w) P w F mg base ["field", "number", "common", "above", "below", "over", "by_over", "under", "by_under"] "whole_number" (defScope s_whole_number) f cdv A outer s H E).xe := passes_of rfl
  have hc : (cxOf (L2.CX P w) P w F mg base ["field", "number", "common", "above", "below", "over", "by_over", "under", "by_under"] "whole_number" (defScope s_whole_number) f cdv A outer s H E).calm = true := rfl
  have hKF : K.F = (cxOf (L2.CX P w) P w F mg base ["field", "number", "common", "above", "below", "over", "by_over", "under", "by_under"] "whole_number" (defScope s_whole_number) f cdv A outer s H E).K := T.kf
  exact ⟨_, (pssd_cons (psd_if (ptd_truth (pd_isi (T := "int") (pd_var (pv 0)) (by rfl) T.b_isinstance (by rfl) T.b_int bb_int)) (pssd_one (psd_ret (pd_ifExp (ptd_truth (pd_var (pv 0))) (pd_tup (pad_cons (pd_var (pv 1)) (pad_cons pd_int pad_nil))) (pd_var (pv 1))))) pssd_nil)
    pssd_stk)⟩
theorem sc_whole_line : FnScope ["field", "line", "pairs", "under", "parts", "above", "below", "number", "pair"] ["field", "line"] (defScope s_whole_line) := ⟨rfl, rfl, rfl, by decide +kernel, rfl, by decide +kernel, by decide +kernel⟩
def le_whole_line_0 : GE := (gApp 2 G_whole_number (gaCons (gVar 0) (gaCons (gVar 7) gaNil)))
def le_whole_line_1 : GE := (gBin dIx (gVar 8) (gC (.int 1)))
def fb_whole_line_0 : GS := (gSeq (gIf (gBool (gBin dNe (gVar 6) (gVar 3))) (gSet 5 (gApp 3 G_nested_times (gaCons (gVar 0) (gaCons (gVar 5) (gaCons (gApp 3 G_nested_exact (gaCons (gVar 0) (gaCons (gVar 3) (gaCons (gVar 6) gaNil)))) gaNil))))) gSkip)
    (gApd 4 (gVar 5)))
def ta_whole_line_0 : GS := (gRet (gDisp .tuple (gaCons (gCall dToTup (gaCons (gVar 4) gaNil)) (gaCons (gVar 3) gaNil))))
def g_whole_line : GS := (gSeq (gSet 2 (gL (gLc (giTup (gVar 1)) [7] (ggName 7) gYes le_whole_line_0)))
    (gSeq (gSet 3 (gApp 2 G_common_multiple (gaCons (gVar 0) (gaCons (gL (gLc (giLst (gVar 2)) [8] (ggName 8) gYes le_whole_line_1)) gaNil))))
    (gSeq (gSetO 4 (gfDisp gaNil))
    (gSeq (gFor (giLst (gVar 2)) (ggTup 2 (ggCons (ggName 5) (ggCons (ggName 6) ggNil))) fb_whole_line_0)
    (gFrz 4 ta_whole_line_0)))))
def G_whole_line : GF := gFn 9 g_whole_line
theorem d_whole_line (T : Txt P w F mg base K) : DefOk P w F mg base K "whole_line" 6 2 G_whole_line := by
  obtain ⟨f, fd, Fn, hm, hb⟩ := T.f_whole_line
  refine ⟨f, fd, ["field", "line"], ok_def (N := ["field", "line", "pairs", "under", "parts", "above", "below", "number", "pair"]) (g := g_whole_line) Fn sc_whole_line ?body, hm, Fn.kp, hb⟩
  intro cdv A outer s H E hr
  have nd := sc_whole_line.nd
  have hu := hr.units
  have tk : Takes (cxOf (L2.CX P w) P w F mg base ["field", "line", "pairs", "under", "parts", "above", "below", "number", "pair"] "whole_line" (defScope s_whole_line) f cdv A outer s H E) (fun cls d _ H => E cls d H) := takes_of rfl rfl rfl rfl
  have hx : Passes (L2.CX P w) (cxOf (L2.CX P w) P w F mg base ["field", "line", "pairs", "under", "parts", "above", "below", "number", "pair"] "whole_line" (defScope s_whole_line) f cdv A outer s H E) E := passes_call tk fun _ _ _ _ h => h
  have hp : PassesOwn (model P w) (cxOf (L2.CX P w) P w F mg base ["field", "line", "pairs", "under", "parts", "above", "below", "number", "pair"] "whole_line" (defScope s_whole_line) f cdv A outer s H E).A (cxOf (L2.CX P w) P w F mg base ["field", "line", "pairs", "under", "parts", "above", "below", "number", "pair"] "whole_line" (defScope s_whole_line) f cdv A outer s H E).env (cxOf (L2.CX P w) P w F mg base ["field", "line", "pairs", "under", "parts", "above", "below", "number", "pair"] "whole_line" (defScope s_whole_line) f cdv A outer s H E).xe := passes_of rfl
  have hc : (cxOf (L2.CX P w) P w F mg base ["field", "line", "pairs", "under", "parts", "above", "below", "number", "pair"] "whole_line" (defScope s_whole_line) f cdv A outer s H E).calm = true := rfl
  have hKF : K.F = (cxOf (L2.CX P w) P w F mg base ["field", "line", "pairs", "under", "parts", "above", "below", "number", "pair"] "whole_line" (defScope s_whole_line) f cdv A outer s H E).K := T.kf
  exact ⟨_, (pssd_cons (psd_lcSet (i := 2) (own := [("number", 7)]) (ws := [7]) hc nd rfl rfl (sw_true rfl rfl rfl (by decide +kernel)) (pid_tup (pd_var (pv 1))) (blkOk_by (N := ["field", "line", "pairs", "under", "parts", "above", "below", "number", "pair"]) (sc := defScope s_whole_line) (by decide +kernel)) (fun _ _ _ _ _ => ⟨_, by exact (pgd_name (i := 7) nd rfl (by first | exact .inl rfl | exact .inr rfl))⟩) (fun _ _ _ _ _ => ⟨_, by exact ptsd_nil⟩) (fun _ _ _ _ _ => ⟨_, by exact (pd_callD (d_whole_number T) (hr.mono (by decide)) (by rfl) passL (pad_cons (pd_var (pv 0)) (pad_cons (pd_var (pv 7)) pad_nil)))⟩))
    (pssd_cons (psd_set (i := 3) nd rfl (by first | exact .inl rfl | exact .inr rfl) (pd_callD (d_common_multiple T) (hr.mono (by decide)) (by rfl) hx (pad_cons (pd_var (pv 0)) (pad_cons (PFD.toD (pf_lc (own := [("pair", 8)]) (ws := [8]) hc nd (pid_lst (pd_var (pv 2))) (blkOk_by (N := ["field", "line", "pairs", "under", "parts", "above", "below", "number", "pair"]) (sc := defScope s_whole_line) (by decide +kernel)) (fun _ _ _ _ _ => ⟨_, by exact (pgd_name (i := 8) nd rfl (by first | exact .inl rfl | exact .inr rfl))⟩) (fun _ _ _ _ _ => ⟨_, by exact ptsd_nil⟩) (fun _ _ _ _ _ => ⟨_, by exact (pd_ix ixR_D opD_ix (pd_var (pv 8)) pd_int (fun _ _ => rfl))⟩))) pad_nil))))
    (pssd_cons (psd_setO (i := 4) nd rfl (by first | exact .inl rfl | exact .inr rfl) (pf_lst pad_nil))
    (pssd_cons (psd_for hp hc (pid_lst (pd_var (pv 2))) (pgd_tup rfl (pgsd_cons (pgd_name (i := 5) nd rfl (by first | exact .inl rfl | exact .inr rfl)) (pgsd_cons (pgd_name (i := 6) nd rfl (by first | exact .inl rfl | exact .inr rfl)) pgsd_nil))) (pssd_cons (psd_if (ptd_cmp (op_neX hu) opD_ne (pd_var (pv 6)) (pd_var (pv 3)) (nomark _)) (pssd_one (psd_set (i := 5) nd rfl (by first | exact .inl rfl | exact .inr rfl) (pd_callD (d_nested_times T) (hr.mono (by decide)) (by rfl) hx (pad_cons (pd_var (pv 0)) (pad_cons (pd_var (pv 5)) (pad_cons (pd_callD (d_nested_exact T) (hr.mono (by decide)) (by rfl) hx (pad_cons (pd_var (pv 0)) (pad_cons (pd_var (pv 3)) (pad_cons (pd_var (pv 6)) pad_nil)))) pad_nil)))))) pssd_nil)
    (pssd_one (psd_append (pv 4) (pd_var (pv 5)) (fun h => pe_bm PySem.F.plainAttrs_list PySem.F.slot_list_append PySem.F.type_list_append mt_append (pv 4) h)))))
    (pssd_frz 4 (pssd_one (psd_ret (pd_tup (pad_cons (pd_callTy call_tuple_of callD_tuple (by rfl) T.b_tuple bb_tuple (pad_cons (pd_var (pv 4)) pad_nil)) (pad_cons (pd_var (pv 3)) pad_nil))))))))))⟩
theorem sc_nought_of : FnScope ["field"] ["field"] (defScope s_nought_of) := ⟨rfl, rfl, rfl, by decide +kernel, rfl, by decide +kernel, by decide +kernel⟩
def g_nought_of : GS := (gSeq (gIf (gBool (gBin dEq (gVar 0) (gC (.int 0)))) (gRet (gDisp .tuple (gaCons (gC (.int 0)) (gaCons (gC (.int 1)) gaNil)))) gSkip)
    stkS)
def G_nought_of : GF := gFn 1 g_nought_of
theorem d_nought_of (T : Txt P w F mg base K) : DefOk P w F mg base K "nought_of" 1 1 G_nought_of := by
  obtain ⟨f, fd, Fn, hm, hb⟩ := T.f_nought_of
  refine ⟨f, fd, ["field"], ok_def (N := ["field"]) (g := g_nought_of) Fn sc_nought_of ?body, hm, Fn.kp, hb⟩
  intro cdv A outer s H E hr
  have nd := sc_nought_of.nd
  have hu := hr.units
  have tk : Takes (cxOf (L2.CX P w) P w F mg base ["field"] "nought_of" (defScope s_nought_of) f cdv A outer s H E) (fun cls d _ H => E cls d H) := takes_of rfl rfl rfl rfl
  have hx : Passes (L2.CX P w) (cxOf (L2.CX P w) P w F mg base ["field"] "nought_of" (defScope s_nought_of) f cdv A outer s H E) E := passes_call tk fun _ _ _ _ h => h
  have hp : PassesOwn (model P w) (cxOf (L2.CX P w) P w F mg base ["field"] "nought_of" (defScope s_nought_of) f cdv A outer s H E).A (cxOf (L2.CX P w) P w F mg base ["field"] "nought_of" (defScope s_nought_of) f cdv A outer s H E).env (cxOf (L2.CX P w) P w F mg base ["field"] "nought_of" (defScope s_nought_of) f cdv A outer s H E).xe := passes_of rfl
  have hc : (cxOf (L2.CX P w) P w F mg base ["field"] "nought_of" (defScope s_nought_of) f cdv A outer s H E).calm = true := rfl
  have hKF : K.F = (cxOf (L2.CX P w) P w F mg base ["field"] "nought_of" (defScope s_nought_of) f cdv A outer s H E).K := T.kf
  exact ⟨_, (pssd_cons (psd_if (ptd_cmp (op_eqX hu) opD_eq (pd_var (pv 0)) pd_int (nomark _)) (pssd_one (psd_ret (pd_tup (pad_cons pd_int (pad_cons pd_int pad_nil))))) pssd_nil)
    pssd_stk)⟩
theorem sc_is_pair : FnScope ["value"] ["value"] (defScope s_is_pair) := ⟨rfl, rfl, rfl, by decide +kernel, rfl, by decide +kernel, by decide +kernel⟩
def g_is_pair : GS := (gRet (gAndV (gIsi "tuple" (gVar 0)) (gBin dEq (gCall dLen (gaCons (gVar 0) gaNil)) (gC (.int 2)))))
def G_is_pair : GF := gFn 1 g_is_pair
theorem d_is_pair (T : Txt P w F mg base K) : DefOk P w F mg base K "is_pair" 1 1 G_is_pair := by
  obtain ⟨f, fd, Fn, hm, hb⟩ := T.f_is_pair
  refine ⟨f, fd, ["value"], ok_def (N := ["value"]) (g := g_is_pair) Fn sc_is_pair ?body, hm, Fn.kp, hb⟩
  intro cdv A outer s H E hr
  have nd := sc_is_pair.nd
  have hu := hr.units
  have tk : Takes (cxOf (L2.CX P w) P w F mg base ["value"] "is_pair" (defScope s_is_pair) f cdv A outer s H E) (fun cls d _ H => E cls d H) := takes_of rfl rfl rfl rfl
  have hx : Passes (L2.CX P w) (cxOf (L2.CX P w) P w F mg base ["value"] "is_pair" (defScope s_is_pair) f cdv A outer s H E) E := passes_call tk fun _ _ _ _ h => h
  have hp : PassesOwn (model P w) (cxOf (L2.CX P w) P w F mg base ["value"] "is_pair" (defScope s_is_pair) f cdv A outer s H E).A (cxOf (L2.CX P w) P w F mg base ["value"] "is_pair" (defScope s_is_pair) f cdv A outer s H E).env (cxOf (L2.CX P w) P w F mg base ["value"] "is_pair" (defScope s_is_pair) f cdv A outer s H E).xe := passes_of rfl
  have hc : (cxOf (L2.CX P w) P w F mg base ["value"] "is_pair" (defScope s_is_pair) f cdv A outer s H E).calm = true := rfl
  have hKF : K.F = (cxOf (L2.CX P w) P w F mg base ["value"] "is_pair" (defScope s_is_pair) f cdv A outer s H E).K := T.kf
  exact ⟨_, (pssd_one (psd_ret (pd_and (pd_isi (T := "tuple") (pd_var (pv 0)) (by rfl) T.b_isinstance (by rfl) T.b_tuple bb_tuple) (pd_one (pd_cmp (op_eqX hu) opD_eq (pd_callB call_len_seq callD_len (by rfl) T.b_len bb_len (pad_cons (pd_var (pv 0)) pad_nil)) pd_int (nomark _))))))⟩
theorem sc_is_within_size : FnScope ["value", "waiting", "many", "part"] ["value"] (defScope s_is_within_size) := ⟨rfl, rfl, rfl, by decide +kernel, rfl, by decide +kernel, by decide +kernel⟩
def wt_is_within_size_0 : GT := (gTruO 1)
def wb_is_within_size_0 : GS := (gSeq (gPop 3 1)
    (gSeq (gAug 2 (fI0 fun i j => i + j) (gC (.int 1)))
    (gSeq (gIf (gBool (gBin (fB0 fun i j => decide (j < i)) (gVar 2) (gC (.int 20000)))) (gRet (gC (.bool false))) gSkip)
    (gIf (gTru (gIsi "tuple" (gVar 3))) (gSeq (gIf (gBool (gBin (fB0 fun i j => decide (j < i)) (gCall dLen (gaCons (gVar 3) gaNil)) (gC (.int 61)))) (gRet (gC (.bool false))) gSkip)
    (gExt 1 (gVar 3))) (gIf (gAnd (gTru (gApp 1 G_is_integer (gaCons (gVar 3) gaNil))) (gBool (gBin (fB0 fun i j => decide (j < i)) (gCall dAbs (gaCons (gVar 3) gaNil)) (gC (.int (10 ^ 50 * 10 ^ 50)))))) (gRet (gC (.bool false))) gSkip)))))
def ta_is_within_size_0 : GS := (gRet (gC (.bool true)))
def g_is_within_size : GS := (gSeq (gSetO 1 (gfDisp (gaCons (gVar 0) gaNil)))
    (gSeq (gSet 2 (gC (.int 0)))
    (gSeq (gWhile (fun _ _ => 1000) wt_is_within_size_0 wb_is_within_size_0)
    (gFrz 1 ta_is_within_size_0))))
def G_is_within_size : GF := gFn 4 g_is_within_size
theorem d_is_within_size (T : Txt P w F mg base K) : DefOk P w F mg base K "is_within_size" 2 1 G_is_within_size := by
  obtain ⟨f, fd, Fn, hm, hb⟩ := T.f_is_within_size
  refine ⟨f, fd, ["value"], ok_def (N := ["value", "waiting", "many", "part"]) (g := g_is_within_size) Fn sc_is_within_size ?body, hm, Fn.kp, hb⟩
  intro cdv A outer s H E hr
  have nd := sc_is_within_size.nd
  have hu := hr.units
  have tk : Takes (cxOf (L2.CX P w) P w F mg base ["value", "waiting", "many", "part"] "is_within_size" (defScope s_is_within_size) f cdv A outer s H E) (fun cls d _ H => E cls d H) := takes_of rfl rfl rfl rfl
  have hx : Passes (L2.CX P w) (cxOf (L2.CX P w) P w F mg base ["value", "waiting", "many", "part"] "is_within_size" (defScope s_is_within_size) f cdv A outer s H E) E := passes_call tk fun _ _ _ _ h => h
  have hp : PassesOwn (model P w) (cxOf (L2.CX P w) P w F mg base ["value", "waiting", "many", "part"] "is_within_size" (defScope s_is_within_size) f cdv A outer s H E).A (cxOf (L2.CX P w) P w F mg base ["value", "waiting", "many", "part"] "is_within_size" (defScope s_is_within_size) f cdv A outer s H E).env (cxOf (L2.CX P w) P w F mg base ["value", "waiting", "many", "part"] "is_within_size" (defScope s_is_within_size) f cdv A outer s H E).xe := passes_of rfl
  have hc : (cxOf (L2.CX P w) P w F mg base ["value", "waiting", "many", "part"] "is_within_size" (defScope s_is_within_size) f cdv A outer s H E).calm = true := rfl
  have hKF : K.F = (cxOf (L2.CX P w) P w F mg base ["value", "waiting", "many", "part"] "is_within_size" (defScope s_is_within_size) f cdv A outer s H E).K := T.kf
  exact ⟨_, (pssd_cons (psd_setO (i := 1) nd rfl (by first | exact .inl rfl | exact .inr rfl) (pf_lst (pad_cons (pd_var (pv 0)) pad_nil)))
    (pssd_cons (psd_set (i := 2) nd rfl (by first | exact .inl rfl | exact .inr rfl) pd_int)
    (pssd_cons (psd_while (fun _ _ => 1000) hp (ptd_own (pv 1)) (pssd_cons (psd_pop (i := 1) (j := 3) nd rfl (by first | exact .inl rfl | exact .inr rfl) (pv 1) (pe_bm0 PySem.F.plainAttrs_list PySem.F.slot_list_pop PySem.F.type_list_pop mt_pop (pv 1)))
    (pssd_cons (psd_aug (i := 2) nd rfl (by first | exact .inl rfl | exact .inr rfl) ip_addD opD_I0 pd_int)
    (pssd_cons (psd_if (ptd_cmp op_gt opD_gt (pd_var (pv 2)) (pd_globI (by rfl) T.c_MOST_PARTS.choose_spec) (nomark _)) (pssd_one (psd_ret pd_bl)) pssd_nil)
    (pssd_one (psd_if (ptd_truth (pd_isi (T := "tuple") (pd_var (pv 3)) (by rfl) T.b_isinstance (by rfl) T.b_tuple bb_tuple)) (pssd_cons (psd_if (ptd_cmp op_gt opD_gt (pd_callB call_len_seq callD_len (by rfl) T.b_len bb_len (pad_cons (pd_var (pv 3)) pad_nil)) (pd_globI (by rfl) T.c_LONGEST.choose_spec) (nomark _)) (pssd_one (psd_ret pd_bl)) pssd_nil)
    (pssd_one (psd_extend (pv 1) (pd_var (pv 3)) (fun h => pe_bm PySem.F.plainAttrs_list PySem.F.slot_list_extend PySem.F.type_list_extend mt_extD (pv 1) h)))) (pssd_one (psd_if (PWD.pt (pwd_and (ptd_truth (pd_callD (d_is_integer T) (hr.mono (by decide)) (by rfl) hx (pad_cons (pd_var (pv 3)) pad_nil))) (pwd_and1 (ptd_cmp op_gt opD_gt (pd_callB call_abs callD_abs (by rfl) T.b_abs bb_abs (pad_cons (pd_var (pv 3)) pad_nil)) (pd_globI (by rfl) T.c_GREATEST.choose_spec) (nomark _))))) (pssd_one (psd_ret pd_bl)) pssd_nil))))))))
    (pssd_frz 1 (pssd_one (psd_ret pd_bl))))))⟩
theorem sc_is_settled : FnScope ["over", "under"] ["over", "under"] (defScope s_is_settled) := ⟨rfl, rfl, rfl, by decide +kernel, rfl, by decide +kernel, by decide +kernel⟩
def g_is_settled : GS := (gRet (gAndV (gBin (fB0 fun i j => decide (j < i)) (gVar 1) (gC (.int 0))) (gBin dEq (gCall dGcd (gaCons (gVar 0) (gaCons (gVar 1) gaNil))) (gC (.int 1)))))
def G_is_settled : GF := gFn 2 g_is_settled
theorem d_is_settled (T : Txt P w F mg base K) : DefOk P w F mg base K "is_settled" 1 2 G_is_settled := by
  obtain ⟨f, fd, Fn, hm, hb⟩ := T.f_is_settled
  refine ⟨f, fd, ["over", "under"], ok_def (N := ["over", "under"]) (g := g_is_settled) Fn sc_is_settled ?body, hm, Fn.kp, hb⟩
  intro cdv A outer s H E hr
  have nd := sc_is_settled.nd
  have hu := hr.units
  have tk : Takes (cxOf (L2.CX P w) P w F mg base ["over", "under"] "is_settled" (defScope s_is_settled) f cdv A outer s H E) (fun cls d _ H => E cls d H) := takes_of rfl rfl rfl rfl
  have hx : Passes (L2.CX P w) (cxOf (L2.CX P w) P w F mg base ["over", "under"] "is_settled" (defScope s_is_settled) f cdv A outer s H E) E := passes_call tk fun _ _ _ _ h => h
  have hp : PassesOwn (model P w) (cxOf (L2.CX P w) P w F mg base ["over", "under"] "is_settled" (defScope s_is_settled) f cdv A outer s H E).A (cxOf (L2.CX P w) P w F mg base ["over", "under"] "is_settled" (defScope s_is_settled) f cdv A outer s H E).env (cxOf (L2.CX P w) P w F mg base ["over", "under"] "is_settled" (defScope s_is_settled) f cdv A outer s H E).xe := passes_of rfl
  have hc : (cxOf (L2.CX P w) P w F mg base ["over", "under"] "is_settled" (defScope s_is_settled) f cdv A outer s H E).calm = true := rfl
  have hKF : K.F = (cxOf (L2.CX P w) P w F mg base ["over", "under"] "is_settled" (defScope s_is_settled) f cdv A outer s H E).K := T.kf
  exact ⟨_, (pssd_one (psd_ret (pd_and (pd_cmp op_gt opD_gt (pd_var (pv 1)) pd_int (nomark _)) (pd_one (pd_cmp (op_eqX hu) opD_eq (pd_callBf cr_gcd callD_gcd (by rfl) T.b_gcd (pad_cons (pd_var (pv 0)) (pad_cons (pd_var (pv 1)) pad_nil))) pd_int (nomark _))))))⟩
theorem sc_has_number_form : FnScope ["field", "value"] ["field", "value"] (defScope s_has_number_form) := ⟨rfl, rfl, rfl, by decide +kernel, rfl, by decide +kernel, by decide +kernel⟩
def g_has_number_form : GS := (gSeq (gIf (gBool (gBin dEq (gVar 0) (gC (.int 0)))) (gRet (gAndV (gApp 1 G_is_pair (gaCons (gVar 1) gaNil)) (gAndV (gApp 1 G_is_integer (gaCons (gBin dIx (gVar 1) (gC (.int 0))) gaNil)) (gAndV (gApp 1 G_is_integer (gaCons (gBin dIx (gVar 1) (gC (.int 1))) gaNil)) (gApp 2 G_is_settled (gaCons (gBin dIx (gVar 1) (gC (.int 0))) (gaCons (gBin dIx (gVar 1) (gC (.int 1))) gaNil))))))) gSkip)
    stkS)
def G_has_number_form : GF := gFn 2 g_has_number_form
theorem d_has_number_form (T : Txt P w F mg base K) : DefOk P w F mg base K "has_number_form" 2 2 G_has_number_form := by
  obtain ⟨f, fd, Fn, hm, hb⟩ := T.f_has_number_form
  refine ⟨f, fd, ["field", "value"], ok_def (N := ["field", "value"]) (g := g_has_number_form) Fn sc_has_number_form ?body, hm, Fn.kp, hb⟩
  intro cdv A outer s H E hr
  have nd := sc_has_number_form.nd
  have hu := hr.units
  have tk : Takes (cxOf (L2.CX P w) P w F mg base ["field", "value"] "has_number_form" (defScope s_has_number_form) f cdv A outer s H E) (fun cls d _ H => E cls d H) := takes_of rfl rfl rfl rfl
  have hx : Passes (L2.CX P w) (cxOf (L2.CX P w) P w F mg base ["field", "value"] "has_number_form" (defScope s_has_number_form) f cdv A outer s H E) E := passes_call tk fun _ _ _ _ h => h
  have hp : PassesOwn (model P w) (cxOf (L2.CX P w) P w F mg base ["field", "value"] "has_number_form" (defScope s_has_number_form) f cdv A outer s H E).A (cxOf (L2.CX P w) P w F mg base ["field", "value"] "has_number_form" (defScope s_has_number_form) f cdv A outer s H E).env (cxOf (L2.CX P w) P w F mg base ["field", "value"] "has_number_form" (defScope s_has_number_form) f cdv A outer s H E).xe := passes_of rfl
  have hc : (cxOf (L2.CX P w) P w F mg base ["field", "value"] "has_number_form" (defScope s_has_number_form) f cdv A outer s H E).calm = true := rfl
  have hKF : K.F = (cxOf (L2.CX P w) P w F mg base ["field", "value"] "has_number_form" (defScope s_has_number_form) f cdv A outer s H E).K := T.kf
  exact ⟨_, (pssd_cons (psd_if (ptd_cmp (op_eqX hu) opD_eq (pd_var (pv 0)) pd_int (nomark _)) (pssd_one (psd_ret (pd_and (pd_callD (d_is_pair T) (hr.mono (by decide)) (by rfl) hx (pad_cons (pd_var (pv 1)) pad_nil)) (pd_and (pd_callD (d_is_integer T) (hr.mono (by decide)) (by rfl) hx (pad_cons (pd_ix ixR_D opD_ix (pd_var (pv 1)) pd_int (fun _ _ => rfl)) pad_nil)) (pd_and (pd_callD (d_is_integer T) (hr.mono (by decide)) (by rfl) hx (pad_cons (pd_ix ixR_D opD_ix (pd_var (pv 1)) pd_int (fun _ _ => rfl)) pad_nil)) (pd_one (pd_callD (d_is_settled T) (hr.mono (by decide)) (by rfl) hx (pad_cons (pd_ix ixR_D opD_ix (pd_var (pv 1)) pd_int (fun _ _ => rfl)) (pad_cons (pd_ix ixR_D opD_ix (pd_var (pv 1)) pd_int (fun _ _ => rfl)) pad_nil))))))))) pssd_nil)
    pssd_stk)⟩
theorem sc_has_line_form : FnScope ["field", "value", "part"] ["field", "value"] (defScope s_has_line_form) := ⟨rfl, rfl, rfl, by decide +kernel, rfl, by decide +kernel, by decide +kernel⟩
def le_has_line_form_0 : GE := (gApp 2 G_has_number_form (gaCons (gVar 0) (gaCons (gVar 2) gaNil)))
def g_has_line_form : GS := (gSeq (gIf (gOr (gNot (gTru (gIsi "tuple" (gVar 1)))) (gNot (gTru (gAllN (giTup (gVar 1)) [2] (ggName 2) gYes le_has_line_form_0)))) (gRet (gC (.bool false))) gSkip)
    (gRet (gOrV (gBin dEq (gVar 1) (gDisp .tuple gaNil)) (gBin dNe (gBin dIx (gVar 1) (gUn dNeg (gC (.int 1)))) (gApp 1 G_nought_of (gaCons (gVar 0) gaNil))))))
def G_has_line_form : GF := gFn 3 g_has_line_form
theorem d_has_line_form (T : Txt P w F mg base K) : DefOk P w F mg base K "has_line_form" 5 2 G_has_line_form := by
  obtain ⟨f, fd, c, Pt, Fn, hm, hb, TB, hmT, hu0⟩ := T.k_has_line_form
  refine ⟨f, fd, ["field", "value"], ok_defK (N := ["field", "value", "part"]) (g := g_has_line_form) Fn sc_has_line_form ?body, hm, Fn.kp, hb⟩
  intro A outer s H E hr
  have nd := sc_has_line_form.nd
  have hu := hr.units
  have tk : Takes (cxOf (L2.CX P w) P w F mg base ["field", "value", "part"] "has_line_form" (defScope s_has_line_form) f (.ref c) A outer s H E) (fun cls d _ H => E cls d H) := takes_of rfl rfl rfl rfl
  have hx : Passes (L2.CX P w) (cxOf (L2.CX P w) P w F mg base ["field", "value", "part"] "has_line_form" (defScope s_has_line_form) f (.ref c) A outer s H E) E := passes_call tk fun _ _ _ _ h => h
  have hp : PassesOwn (model P w) (cxOf (L2.CX P w) P w F mg base ["field", "value", "part"] "has_line_form" (defScope s_has_line_form) f (.ref c) A outer s H E).A (cxOf (L2.CX P w) P w F mg base ["field", "value", "part"] "has_line_form" (defScope s_has_line_form) f (.ref c) A outer s H E).env (cxOf (L2.CX P w) P w F mg base ["field", "value", "part"] "has_line_form" (defScope s_has_line_form) f (.ref c) A outer s H E).xe := passes_of rfl
  have hc : (cxOf (L2.CX P w) P w F mg base ["field", "value", "part"] "has_line_form" (defScope s_has_line_form) f (.ref c) A outer s H E).calm = true := rfl
  have hKF : K.F = (cxOf (L2.CX P w) P w F mg base ["field", "value", "part"] "has_line_form" (defScope s_has_line_form) f (.ref c) A outer s H E).K := T.kf
  exact ⟨_, (pssd_cons (psd_if (PWD.pt (pwd_or (ptd_not (ptd_truth (pd_isi (T := "tuple") (pd_var (pv 1)) (by rfl) T.b_isinstance (by rfl) T.b_tuple bb_tuple))) (pwd_or1 (ptd_not (ptd_truth (pd_gAll (k := 2) (own := [("part", 2)]) (ws := [2]) nd (hr.mono (by decide)) (by rfl) T.b_all TB rfl hmT hu0 (pid_tup (pd_var (pv 1))) (blkOk_by (N := ["field", "value", "part"]) (sc := defScope s_has_line_form) (by decide +kernel)) (by decide +kernel) (fun _ _ _ _ _ _ _ => ⟨_, by exact (pgd_name (i := 2) nd rfl (by first | exact .inl rfl | exact .inr rfl))⟩) (fun _ _ _ _ _ _ _ hr => have hu := hr.units; ⟨_, by exact ptsd_nil⟩) (fun _ _ _ _ _ _ _ hr => have hu := hr.units; ⟨_, by exact (pd_callD (d_has_number_form T) (hr.mono (by decide)) (by rfl) passL (pad_cons (pd_var (pv 0)) (pad_cons (pd_var (pv 2)) pad_nil)))⟩))))))) (pssd_one (psd_ret pd_bl)) pssd_nil)
    (pssd_one (psd_ret (pd_or (pd_cmp (op_eqX hu) opD_eq (pd_var (pv 1)) (pd_tup pad_nil) (nomark _)) (pd_one (pd_cmp (op_neX hu) opD_ne (pd_ix ixR_D opD_ix (pd_var (pv 1)) (pd_neg pd_int) (fun _ _ => rfl)) (pd_callD (d_nought_of T) (hr.mono (by decide)) (by rfl) hx (pad_cons (pd_var (pv 0)) pad_nil)) (nomark _)))))))⟩
theorem sc_is_given_line : FnScope ["field", "value"] ["field", "value"] (defScope s_is_given_line) := ⟨rfl, rfl, rfl, by decide +kernel, rfl, by decide +kernel, by decide +kernel⟩
def g_is_given_line : GS := (gRet (gAndV (gApp 1 G_is_within_size (gaCons (gVar 1) gaNil)) (gApp 2 G_has_line_form (gaCons (gVar 0) (gaCons (gVar 1) gaNil)))))
def G_is_given_line : GF := gFn 2 g_is_given_line
theorem d_is_given_line (T : Txt P w F mg base K) : DefOk P w F mg base K "is_given_line" 6 2 G_is_given_line := by
  obtain ⟨f, fd, Fn, hm, hb⟩ := T.f_is_given_line
  refine ⟨f, fd, ["field", "value"], ok_def (N := ["field", "value"]) (g := g_is_given_line) Fn sc_is_given_line ?body, hm, Fn.kp, hb⟩
  intro cdv A outer s H E hr
  have nd := sc_is_given_line.nd
  have hu := hr.units
  have tk : Takes (cxOf (L2.CX P w) P w F mg base ["field", "value"] "is_given_line" (defScope s_is_given_line) f cdv A outer s H E) (fun cls d _ H => E cls d H) := takes_of rfl rfl rfl rfl
  have hx : Passes (L2.CX P w) (cxOf (L2.CX P w) P w F mg base ["field", "value"] "is_given_line" (defScope s_is_given_line) f cdv A outer s H E) E := passes_call tk fun _ _ _ _ h => h
  have hp : PassesOwn (model P w) (cxOf (L2.CX P w) P w F mg base ["field", "value"] "is_given_line" (defScope s_is_given_line) f cdv A outer s H E).A (cxOf (L2.CX P w) P w F mg base ["field", "value"] "is_given_line" (defScope s_is_given_line) f cdv A outer s H E).env (cxOf (L2.CX P w) P w F mg base ["field", "value"] "is_given_line" (defScope s_is_given_line) f cdv A outer s H E).xe := passes_of rfl
  have hc : (cxOf (L2.CX P w) P w F mg base ["field", "value"] "is_given_line" (defScope s_is_given_line) f cdv A outer s H E).calm = true := rfl
  have hKF : K.F = (cxOf (L2.CX P w) P w F mg base ["field", "value"] "is_given_line" (defScope s_is_given_line) f cdv A outer s H E).K := T.kf
  exact ⟨_, (pssd_one (psd_ret (pd_and (pd_callD (d_is_within_size T) (hr.mono (by decide)) (by rfl) hx (pad_cons (pd_var (pv 1)) pad_nil)) (pd_one (pd_callD (d_has_line_form T) (hr.mono (by decide)) (by rfl) hx (pad_cons (pd_var (pv 0)) (pad_cons (pd_var (pv 1)) pad_nil)))))))⟩
theorem sc_need_line : FnScope ["field", "line"] ["field", "line"] (defScope s_need_line) := ⟨rfl, rfl, rfl, by decide +kernel, rfl, by decide +kernel, by decide +kernel⟩
def g_need_line : GS := (gIf (gNot (gTru (gApp 2 G_is_given_line (gaCons (gVar 0) (gaCons (gVar 1) gaNil))))) (gRaise 1) gSkip)
def G_need_line : GF := gFn 2 g_need_line
theorem d_need_line (T : Txt P w F mg base K) : DefOk P w F mg base K "need_line" 7 2 G_need_line := by
  obtain ⟨f, fd, Fn, hm, hb⟩ := T.f_need_line
  refine ⟨f, fd, ["field", "line"], ok_def (N := ["field", "line"]) (g := g_need_line) Fn sc_need_line ?body, hm, Fn.kp, hb⟩
  intro cdv A outer s H E hr
  have nd := sc_need_line.nd
  have hu := hr.units
  have tk : Takes (cxOf (L2.CX P w) P w F mg base ["field", "line"] "need_line" (defScope s_need_line) f cdv A outer s H E) (fun cls d _ H => E cls d H) := takes_of rfl rfl rfl rfl
  have hx : Passes (L2.CX P w) (cxOf (L2.CX P w) P w F mg base ["field", "line"] "need_line" (defScope s_need_line) f cdv A outer s H E) E := passes_call tk fun _ _ _ _ h => h
  have hp : PassesOwn (model P w) (cxOf (L2.CX P w) P w F mg base ["field", "line"] "need_line" (defScope s_need_line) f cdv A outer s H E).A (cxOf (L2.CX P w) P w F mg base ["field", "line"] "need_line" (defScope s_need_line) f cdv A outer s H E).env (cxOf (L2.CX P w) P w F mg base ["field", "line"] "need_line" (defScope s_need_line) f cdv A outer s H E).xe := passes_of rfl
  have hc : (cxOf (L2.CX P w) P w F mg base ["field", "line"] "need_line" (defScope s_need_line) f cdv A outer s H E).calm = true := rfl
  have hKF : K.F = (cxOf (L2.CX P w) P w F mg base ["field", "line"] "need_line" (defScope s_need_line) f cdv A outer s H E).K := T.kf
  exact ⟨_, (pssd_one (psd_if (ptd_not (ptd_truth (pd_callD (d_is_given_line T) (hr.mono (by decide)) (by rfl) hx (pad_cons (pd_var (pv 0)) (pad_cons (pd_var (pv 1)) pad_nil))))) (pssd_one (psd_raise (k := 1) hc tk (pmk_own PySem.F.excBase_ValueError T.x_InvalidLine T.g_InvalidLine T.k_InvalidLine (raises_own T.s_InvalidLine T.t_InvalidLine) (by rfl)) (fun _ _ _ h => h))) pssd_nil))⟩
theorem sc_need_integer : FnScope ["value", "low", "high"] ["value", "low", "high"] (defScope s_need_integer) := ⟨rfl, rfl, rfl, by decide +kernel, rfl, by decide +kernel, by decide +kernel⟩
def g_need_integer : GS := (gIf (gNot (gTru (gApp 3 G_is_integer_in (gaCons (gVar 0) (gaCons (gVar 1) (gaCons (gVar 2) gaNil)))))) (gRaise 0) gSkip)
def G_need_integer : GF := gFn 3 g_need_integer
theorem d_need_integer (T : Txt P w F mg base K) : DefOk P w F mg base K "need_integer" 3 3 G_need_integer := by
  obtain ⟨f, fd, Fn, hm, hb⟩ := T.f_need_integer
  refine ⟨f, fd, ["value", "low", "high"], ok_def (N := ["value", "low", "high"]) (g := g_need_integer) Fn sc_need_integer ?body, hm, Fn.kp, hb⟩
  intro cdv A outer s H E hr
  have nd := sc_need_integer.nd
  have hu := hr.units
  have tk : Takes (cxOf (L2.CX P w) P w F mg base ["value", "low", "high"] "need_integer" (defScope s_need_integer) f cdv A outer s H E) (fun cls d _ H => E cls d H) := takes_of rfl rfl rfl rfl
  have hx : Passes (L2.CX P w) (cxOf (L2.CX P w) P w F mg base ["value", "low", "high"] "need_integer" (defScope s_need_integer) f cdv A outer s H E) E := passes_call tk fun _ _ _ _ h => h
  have hp : PassesOwn (model P w) (cxOf (L2.CX P w) P w F mg base ["value", "low", "high"] "need_integer" (defScope s_need_integer) f cdv A outer s H E).A (cxOf (L2.CX P w) P w F mg base ["value", "low", "high"] "need_integer" (defScope s_need_integer) f cdv A outer s H E).env (cxOf (L2.CX P w) P w F mg base ["value", "low", "high"] "need_integer" (defScope s_need_integer) f cdv A outer s H E).xe := passes_of rfl
  have hc : (cxOf (L2.CX P w) P w F mg base ["value", "low", "high"] "need_integer" (defScope s_need_integer) f cdv A outer s H E).calm = true := rfl
  have hKF : K.F = (cxOf (L2.CX P w) P w F mg base ["value", "low", "high"] "need_integer" (defScope s_need_integer) f cdv A outer s H E).K := T.kf
  exact ⟨_, (pssd_one (psd_if (ptd_not (ptd_truth (pd_callD (d_is_integer_in T) (hr.mono (by decide)) (by rfl) hx (pad_cons (pd_var (pv 0)) (pad_cons (pd_var (pv 1)) (pad_cons (pd_var (pv 2)) pad_nil)))))) (pssd_one (psd_raise (k := 0) hc tk (pmk_own PySem.F.excBase_ValueError T.x_InvalidNumber T.g_InvalidNumber T.k_InvalidNumber (raises_own T.s_InvalidNumber T.t_InvalidNumber) (by rfl)) (fun _ _ _ h => h))) pssd_nil))⟩
theorem sc_value_of_whole : FnScope ["line", "number", "found", "part"] ["line", "number"] (defScope s_value_of_whole) := ⟨rfl, rfl, rfl, by decide +kernel, rfl, by decide +kernel, by decide +kernel⟩
def fb_value_of_whole_0 : GS := (gSet 2 (gBin dAdd (gBin dMul (gVar 2) (gVar 1)) (gVar 3)))
def g_value_of_whole : GS := (gSeq (gSet 2 (gC (.int 0)))
    (gSeq (gFor (giRevT (gVar 0)) (ggName 3) fb_value_of_whole_0)
    (gRet (gVar 2))))
def G_value_of_whole : GF := gFn 4 g_value_of_whole
theorem d_value_of_whole (T : Txt P w F mg base K) : DefOk P w F mg base K "value_of_whole" 1 2 G_value_of_whole := by
  obtain ⟨f, fd, Fn, hm, hb⟩ := T.f_value_of_whole
  refine ⟨f, fd, ["line", "number"], ok_def (N := ["line", "number", "found", "part"]) (g := g_value_of_whole) Fn sc_value_of_whole ?body, hm, Fn.kp, hb⟩
  intro cdv A outer s H E hr
  have nd := sc_value_of_whole.nd
  have hu := hr.units
  have tk : Takes (cxOf (L2.CX P w) P w F mg base ["line", "number", "found", "part"] "value_of_whole" (defScope s_value_of_whole) f cdv A outer s H E) (fun cls d _ H => E cls d H) := takes_of rfl rfl rfl rfl
  have hx : Passes (L2.CX P w) (cxOf (L2.CX P w) P w F mg base ["line", "number", "found", "part"] "value_of_whole" (defScope s_value_of_whole) f cdv A outer s H E) E := passes_call tk fun _ _ _ _ h => h
  have hp : PassesOwn (model P w) (cxOf (L2.CX P w) P w F mg base ["line", "number", "found", "part"] "value_of_whole" (defScope s_value_of_whole) f cdv A outer s H E).A (cxOf (L2.CX P w) P w F mg base ["line", "number", "found", "part"] "value_of_whole" (defScope s_value_of_whole) f cdv A outer s H E).env (cxOf (L2.CX P w) P w F mg base ["line", "number", "found", "part"] "value_of_whole" (defScope s_value_of_whole) f cdv A outer s H E).xe := passes_of rfl
  have hc : (cxOf (L2.CX P w) P w F mg base ["line", "number", "found", "part"] "value_of_whole" (defScope s_value_of_whole) f cdv A outer s H E).calm = true := rfl
  have hKF : K.F = (cxOf (L2.CX P w) P w F mg base ["line", "number", "found", "part"] "value_of_whole" (defScope s_value_of_whole) f cdv A outer s H E).K := T.kf
  exact ⟨_, (pssd_cons (psd_set (i := 2) nd rfl (by first | exact .inl rfl | exact .inr rfl) pd_int)
    (pssd_cons (psd_for hp hc (pid_revT (by rfl) T.b_reversed (pd_var (pv 0))) (pgd_name (i := 3) nd rfl (by first | exact .inl rfl | exact .inr rfl)) (pssd_one (psd_set (i := 2) nd rfl (by first | exact .inl rfl | exact .inr rfl) (pd_op op_addD opD_add (pd_op op_mulD opD_mul (pd_var (pv 2)) (pd_var (pv 1))) (pd_var (pv 3))))))
    (pssd_one (psd_ret (pd_var (pv 2))))))⟩
theorem sc_is_whole : FnScope ["value", "number"] ["value"] (defScope s_is_whole) := ⟨rfl, rfl, rfl, by decide +kernel, rfl, by decide +kernel, by decide +kernel⟩
def le_is_whole_0 : GE := (gApp 1 G_is_integer (gaCons (gVar 1) gaNil))
def g_is_whole : GS := (gSeq (gIf (gOr (gNot (gTru (gIsi "tuple" (gVar 0)))) (gNot (gTru (gAllN (giTup (gVar 0)) [1] (ggName 1) gYes le_is_whole_0)))) (gRet (gC (.bool false))) gSkip)
    (gRet (gOrV (gBin dEq (gVar 0) (gDisp .tuple gaNil)) (gBin dNe (gBin dIx (gVar 0) (gUn dNeg (gC (.int 1)))) (gC (.int 0))))))
def G_is_whole : GF := gFn 2 g_is_whole
theorem d_is_whole (T : Txt P w F mg base K) : DefOk P w F mg base K "is_whole" 4 1 G_is_whole := by
  obtain ⟨f, fd, c, Pt, Fn, hm, hb, TB, hmT, hu0⟩ := T.k_is_whole
  refine ⟨f, fd, ["value"], ok_defK (N := ["value", "number"]) (g := g_is_whole) Fn sc_is_whole ?body, hm, Fn.kp, hb⟩
  intro A outer s H E hr
  have nd := sc_is_whole.nd
  have hu := hr.units
  have tk : Takes (cxOf (L2.CX P w) P w F mg base ["value", "number"] "is_whole" (defScope s_is_whole) f (.ref c) A outer s H E) (fun cls d _ H => E cls d H) := takes_of rfl rfl rfl rfl
  have hx : Passes (L2.CX P w) (cxOf (L2.CX P w) P w F mg base ["value", "number"] "is_whole" (defScope s_is_whole) f (.ref c) A outer s H E) E := passes_call tk fun _ _ _ _ h => h
  have hp : PassesOwn (model P w) (cxOf (L2.CX P w) P w F mg base ["value", "number"] "is_whole" (defScope s_is_whole) f (.ref c) A outer s H E).A (cxOf (L2.CX P w) P w F mg base ["value", "number"] "is_whole" (defScope s_is_whole) f (.ref c) A outer s H E).env (cxOf (L2.CX P w) P w F mg base ["value", "number"] "is_whole" (defScope s_is_whole) f (.ref c) A outer s H E).xe := passes_of rfl
  have hc : (cxOf (L2.CX P w) P w F mg base ["value", "number"] "is_whole" (defScope s_is_whole) f (.ref c) A outer s H E).calm = true := rfl
  have hKF : K.F = (cxOf (L2.CX P w) P w F mg base ["value", "number"] "is_whole" (defScope s_is_whole) f (.ref c) A outer s H E).K := T.kf
  exact ⟨_, (pssd_cons (psd_if (PWD.pt (pwd_or (ptd_not (ptd_truth (pd_isi (T := "tuple") (pd_var (pv 0)) (by rfl) T.b_isinstance (by rfl) T.b_tuple bb_tuple))) (pwd_or1 (ptd_not (ptd_truth (pd_gAll (k := 1) (own := [("number", 1)]) (ws := [1]) nd (hr.mono (by decide)) (by rfl) T.b_all TB rfl hmT hu0 (pid_tup (pd_var (pv 0))) (blkOk_by (N := ["value", "number"]) (sc := defScope s_is_whole) (by decide +kernel)) (by decide +kernel) (fun _ _ _ _ _ _ _ => ⟨_, by exact (pgd_name (i := 1) nd rfl (by first | exact .inl rfl | exact .inr rfl))⟩) (fun _ _ _ _ _ _ _ hr => have hu := hr.units; ⟨_, by exact ptsd_nil⟩) (fun _ _ _ _ _ _ _ hr => have hu := hr.units; ⟨_, by exact (pd_callD (d_is_integer T) (hr.mono (by decide)) (by rfl) passL (pad_cons (pd_var (pv 1)) pad_nil))⟩))))))) (pssd_one (psd_ret pd_bl)) pssd_nil)
    (pssd_one (psd_ret (pd_or (pd_cmp (op_eqX hu) opD_eq (pd_var (pv 0)) (pd_tup pad_nil) (nomark _)) (pd_one (pd_cmp (op_neX hu) opD_ne (pd_ix ixR_D opD_ix (pd_var (pv 0)) (pd_neg pd_int) (fun _ _ => rfl)) pd_int (nomark _)))))))⟩
theorem sc_is_given_whole : FnScope ["value", "number"] ["value"] (defScope s_is_given_whole) := ⟨rfl, rfl, rfl, by decide +kernel, rfl, by decide +kernel, by decide +kernel⟩
def le_is_given_whole_0 : GE := (gBin (fB0 fun i j => decide (i ≤ j)) (gCall dAbs (gaCons (gVar 1) gaNil)) (gC (.int (10 ^ 50 * 10 ^ 50))))
def g_is_given_whole : GS := (gRet (gAndV (gApp 1 G_is_whole (gaCons (gVar 0) gaNil)) (gAndV (gBin (fB0 fun i j => decide (i ≤ j)) (gCall dLen (gaCons (gVar 0) gaNil)) (gC (.int 13))) (gAllN (giTup (gVar 0)) [1] (ggName 1) gYes le_is_given_whole_0))))
def G_is_given_whole : GF := gFn 2 g_is_given_whole
theorem d_is_given_whole (T : Txt P w F mg base K) : DefOk P w F mg base K "is_given_whole" 5 1 G_is_given_whole := by
  obtain ⟨f, fd, c, Pt, Fn, hm, hb, TB, hmT, hu0⟩ := T.k_is_given_whole
  refine ⟨f, fd, ["value"], ok_defK (N := ["value", "number"]) (g := g_is_given_whole) Fn sc_is_given_whole ?body, hm, Fn.kp, hb⟩
  intro A outer s H E hr
  have nd := sc_is_given_whole.nd
  have hu := hr.units
  have tk : Takes (cxOf (L2.CX P w) P w F mg base ["value", "number"] "is_given_whole" (defScope s_is_given_whole) f (.ref c) A outer s H E) (fun cls d _ H => E cls d H) := takes_of rfl rfl rfl rfl
  have hx : Passes (L2.CX P w) (cxOf (L2.CX P w) P w F mg base ["value", "number"] "is_given_whole" (defScope s_is_given_whole) f (.ref c) A outer s H E) E := passes_call tk fun _ _ _ _ h => h
  have hp : PassesOwn (model P w) (cxOf (L2.CX P w) P w F mg base ["value", "number"] "is_given_whole" (defScope s_is_given_whole) f (.ref c) A outer s H E).A (cxOf (L2.CX P w) P w F mg base ["value", "number"] "is_given_whole" (defScope s_is_given_whole) f (.ref c) A outer s H E).env (cxOf (L2.CX P w) P w F mg base ["value", "number"] "is_given_whole" (defScope s_is_given_whole) f (.ref c) A outer s H E).xe := passes_of rfl
  have hc : (cxOf (L2.CX P w) P w F mg base ["value", "number"] "is_given_whole" (defScope s_is_given_whole) f (.ref c) A outer s H E).calm = true := rfl
  have hKF : K.F = (cxOf (L2.CX P w) P w F mg base ["value", "number"] "is_given_whole" (defScope s_is_given_whole) f (.ref c) A outer s H E).K := T.kf
  exact ⟨_, (pssd_one (psd_ret (pd_and (pd_callD (d_is_whole T) (hr.mono (by decide)) (by rfl) hx (pad_cons (pd_var (pv 0)) pad_nil)) (pd_and (pd_cmp op_le opD_le (pd_callB call_len_seq callD_len (by rfl) T.b_len bb_len (pad_cons (pd_var (pv 0)) pad_nil)) (pd_globI (by rfl) T.c_LONGEST_WHOLE.choose_spec) (nomark _)) (pd_one (pd_gAll (k := 0) (own := [("number", 1)]) (ws := [1]) nd (hr.mono (by decide)) (by rfl) T.b_all TB rfl hmT hu0 (pid_tup (pd_var (pv 0))) (blkOk_by (N := ["value", "number"]) (sc := defScope s_is_given_whole) (by decide +kernel)) (by decide +kernel) (fun _ _ _ _ _ _ _ => ⟨_, by exact (pgd_name (i := 1) nd rfl (by first | exact .inl rfl | exact .inr rfl))⟩) (fun _ _ _ _ _ _ _ hr => have hu := hr.units; ⟨_, by exact ptsd_nil⟩) (fun _ _ _ _ _ _ _ hr => have hu := hr.units; ⟨_, by exact (pd_cmp op_le opD_le (pd_callB call_abs callD_abs (by rfl) T.b_abs bb_abs (pad_cons (pd_var (pv 1)) pad_nil)) (pd_globI (by rfl) T.c_GREATEST.choose_spec) (nomark _))⟩)))))))⟩
theorem sc_need_whole : FnScope ["line"] ["line"] (defScope s_need_whole) := ⟨rfl, rfl, rfl, by decide +kernel, rfl, by decide +kernel, by decide +kernel⟩
def g_need_whole : GS := (gIf (gNot (gTru (gApp 1 G_is_given_whole (gaCons (gVar 0) gaNil)))) (gRaise 2) gSkip)
def G_need_whole : GF := gFn 1 g_need_whole
theorem d_need_whole (T : Txt P w F mg base K) : DefOk P w F mg base K "need_whole" 6 1 G_need_whole := by
  obtain ⟨f, fd, Fn, hm, hb⟩ := T.f_need_whole
  refine ⟨f, fd, ["line"], ok_def (N := ["line"]) (g := g_need_whole) Fn sc_need_whole ?body, hm, Fn.kp, hb⟩
  intro cdv A outer s H E hr
  have nd := sc_need_whole.nd
  have hu := hr.units
  have tk : Takes (cxOf (L2.CX P w) P w F mg base ["line"] "need_whole" (defScope s_need_whole) f cdv A outer s H E) (fun cls d _ H => E cls d H) := takes_of rfl rfl rfl rfl
  have hx : Passes (L2.CX P w) (cxOf (L2.CX P w) P w F mg base ["line"] "need_whole" (defScope s_need_whole) f cdv A outer s H E) E := passes_call tk fun _ _ _ _ h => h
  have hp : PassesOwn (model P w) (cxOf (L2.CX P w) P w F mg base ["line"] "need_whole" (defScope s_need_whole) f cdv A outer s H E).A (cxOf (L2.CX P w) P w F mg base ["line"] "need_whole" (defScope s_need_whole) f cdv A outer s H E).env (cxOf (L2.CX P w) P w F mg base ["line"] "need_whole" (defScope s_need_whole) f cdv A outer s H E).xe := passes_of rfl
  have hc : (cxOf (L2.CX P w) P w F mg base ["line"] "need_whole" (defScope s_need_whole) f cdv A outer s H E).calm = true := rfl
  have hKF : K.F = (cxOf (L2.CX P w) P w F mg base ["line"] "need_whole" (defScope s_need_whole) f cdv A outer s H E).K := T.kf
  exact ⟨_, (pssd_one (psd_if (ptd_not (ptd_truth (pd_callD (d_is_given_whole T) (hr.mono (by decide)) (by rfl) hx (pad_cons (pd_var (pv 0)) pad_nil)))) (pssd_one (psd_raise (k := 2) hc tk (pmk_own PySem.F.excBase_ValueError T.x_InvalidWhole T.g_InvalidWhole T.k_InvalidWhole (raises_own T.s_InvalidWhole T.t_InvalidWhole) (by rfl)) (fun _ _ _ h => h))) pssd_nil))⟩
theorem sc_need_filled_whole : FnScope ["line"] ["line"] (defScope s_need_filled_whole) := ⟨rfl, rfl, rfl, by decide +kernel, rfl, by decide +kernel, by decide +kernel⟩
def g_need_filled_whole : GS := (gSeq (gDrop (gApp 1 G_need_whole (gaCons (gVar 0) gaNil)))
    (gIf (gBool (gBin dEq (gVar 0) (gDisp .tuple gaNil))) (gRaise 2) gSkip))
def G_need_filled_whole : GF := gFn 1 g_need_filled_whole
theorem d_need_filled_whole (T : Txt P w F mg base K) : DefOk P w F mg base K "need_filled_whole" 7 1 G_need_filled_whole := by
  obtain ⟨f, fd, Fn, hm, hb⟩ := T.f_need_filled_whole
  refine ⟨f, fd, ["line"], ok_def (N := ["line"]) (g := g_need_filled_whole) Fn sc_need_filled_whole ?body, hm, Fn.kp, hb⟩
  intro cdv A outer s H E hr
  have nd := sc_need_filled_whole.nd
  have hu := hr.units
  have tk : Takes (cxOf (L2.CX P w) P w F mg base ["line"] "need_filled_whole" (defScope s_need_filled_whole) f cdv A outer s H E) (fun cls d _ H => E cls d H) := takes_of rfl rfl rfl rfl
  have hx : Passes (L2.CX P w) (cxOf (L2.CX P w) P w F mg base ["line"] "need_filled_whole" (defScope s_need_filled_whole) f cdv A outer s H E) E := passes_call tk fun _ _ _ _ h => h
  have hp : PassesOwn (model P w) (cxOf (L2.CX P w) P w F mg base ["line"] "need_filled_whole" (defScope s_need_filled_whole) f cdv A outer s H E).A (cxOf (L2.CX P w) P w F mg base ["line"] "need_filled_whole" (defScope s_need_filled_whole) f cdv A outer s H E).env (cxOf (L2.CX P w) P w F mg base ["line"] "need_filled_whole" (defScope s_need_filled_whole) f cdv A outer s H E).xe := passes_of rfl
  have hc : (cxOf (L2.CX P w) P w F mg base ["line"] "need_filled_whole" (defScope s_need_filled_whole) f cdv A outer s H E).calm = true := rfl
  have hKF : K.F = (cxOf (L2.CX P w) P w F mg base ["line"] "need_filled_whole" (defScope s_need_filled_whole) f cdv A outer s H E).K := T.kf
  exact ⟨_, (pssd_cons (psd_expr (pd_callD (d_need_whole T) (hr.mono (by decide)) (by rfl) hx (pad_cons (pd_var (pv 0)) pad_nil)))
    (pssd_one (psd_if (ptd_cmp (op_eqX hu) opD_eq (pd_var (pv 0)) (pd_tup pad_nil) (nomark _)) (pssd_one (psd_raise (k := 2) hc tk (pmk_own PySem.F.excBase_ValueError T.x_InvalidWhole T.g_InvalidWhole T.k_InvalidWhole (raises_own T.s_InvalidWhole T.t_InvalidWhole) (by rfl)) (fun _ _ _ h => h))) pssd_nil)))⟩
theorem sc_whole_content : FnScope ["line", "content"] ["line"] (defScope s_whole_content) := ⟨rfl, rfl, rfl, by decide +kernel, rfl, by decide +kernel, by decide +kernel⟩
def g_whole_content : GS := (gSeq (gSet 1 (gApp 2 G_nested_content (gaCons (gC (.tuple [.str (PySem.Str.ofString "quot"), .int 0])) (gaCons (gVar 0) gaNil))))
    (gRet (gIfE (gAnd (gTru (gVar 0)) (gBool (gBin (fB0 fun i j => decide (i < j)) (gBin dIx (gVar 0) (gUn dNeg (gC (.int 1)))) (gC (.int 0))))) (gUn dNeg (gVar 1)) (gVar 1))))
def G_whole_content : GF := gFn 2 g_whole_content
theorem d_whole_content (T : Txt P w F mg base K) : DefOk P w F mg base K "whole_content" 3 1 G_whole_content := by
  obtain ⟨f, fd, Fn, hm, hb⟩ := T.f_whole_content
  refine ⟨f, fd, ["line"], ok_def (N := ["line", "content"]) (g := g_whole_content) Fn sc_whole_content ?body, hm, Fn.kp, hb⟩
  intro cdv A outer s H E hr
  have nd := sc_whole_content.nd
  have hu := hr.units
  have tk : Takes (cxOf (L2.CX P w) P w F mg base ["line", "content"] "whole_content" (defScope s_whole_content) f cdv A outer s H E) (fun cls d _ H => E cls d H) := takes_of rfl rfl rfl rfl
  have hx : Passes (L2.CX P w) (cxOf (L2.CX P w) P w F mg base ["line", "content"] "whole_content" (defScope s_whole_content) f cdv A outer s H E) E := passes_call tk fun _ _ _ _ h => h
  have hp : PassesOwn (model P w) (cxOf (L2.CX P w) P w F mg base ["line", "content"] "whole_content" (defScope s_whole_content) f cdv A outer s H E).A (cxOf (L2.CX P w) P w F mg base ["line", "content"] "whole_content" (defScope s_whole_content) f cdv A outer s H E).env (cxOf (L2.CX P w) P w F mg base ["line", "content"] "whole_content" (defScope s_whole_content) f cdv A outer s H E).xe := passes_of rfl
  have hc : (cxOf (L2.CX P w) P w F mg base ["line", "content"] "whole_content" (defScope s_whole_content) f cdv A outer s H E).calm = true := rfl
  have hKF : K.F = (cxOf (L2.CX P w) P w F mg base ["line", "content"] "whole_content" (defScope s_whole_content) f cdv A outer s H E).K := T.kf
  exact ⟨_, (pssd_cons (psd_set (i := 1) nd rfl (by first | exact .inl rfl | exact .inr rfl) (pd_callD (d_nested_content T) (hr.mono (by decide)) (by rfl) hx (pad_cons (pd_globD (by rfl) T.u_WHOLE.choose_spec.choose_spec) (pad_cons (pd_var (pv 0)) pad_nil))))
    (pssd_one (psd_ret (pd_ifExp (PWD.pt (pwd_and (ptd_truth (pd_var (pv 0))) (pwd_and1 (ptd_cmp op_lt opD_lt (pd_ix ixR_D opD_ix (pd_var (pv 0)) (pd_neg pd_int) (fun _ _ => rfl)) pd_int (nomark _))))) (pd_neg (pd_var (pv 1))) (pd_var (pv 1))))))⟩
theorem sc_shared_line : FnScope ["line", "number"] ["line", "number"] (defScope s_shared_line) := ⟨rfl, rfl, rfl, by decide +kernel, rfl, by decide +kernel, by decide +kernel⟩
def ez_shared_line_0 : En → PyData → Option Int := (fun ρ d => ((fun _ d => dInt d) ρ d).bind fun i => ((fun ρ _ => atZ 1 ρ) ρ d).bind fun j => if divOk i j = true then some (i.fdiv j) else none)
def g_shared_line : GS := (gRet (gTupZ ez_shared_line_0 (gVar 0)))
def G_shared_line : GF := gFn 2 g_shared_line
theorem d_shared_line (T : Txt P w F mg base K) : DefOk P w F mg base K "shared_line" 3 2 G_shared_line := by
  obtain ⟨f, fd, c, Pt, Fn, hm, hb, TB, hmT, hu0⟩ := T.k_shared_line
  refine ⟨f, fd, ["line", "number"], ok_defK (N := ["line", "number"]) (g := g_shared_line) Fn sc_shared_line ?body, hm, Fn.kp, hb⟩
  intro A outer s H E hr
  have nd := sc_shared_line.nd
  have hu := hr.units
  have tk : Takes (cxOf (L2.CX P w) P w F mg base ["line", "number"] "shared_line" (defScope s_shared_line) f (.ref c) A outer s H E) (fun cls d _ H => E cls d H) := takes_of rfl rfl rfl rfl
  have hx : Passes (L2.CX P w) (cxOf (L2.CX P w) P w F mg base ["line", "number"] "shared_line" (defScope s_shared_line) f (.ref c) A outer s H E) E := passes_call tk fun _ _ _ _ h => h
  have hp : PassesOwn (model P w) (cxOf (L2.CX P w) P w F mg base ["line", "number"] "shared_line" (defScope s_shared_line) f (.ref c) A outer s H E).A (cxOf (L2.CX P w) P w F mg base ["line", "number"] "shared_line" (defScope s_shared_line) f (.ref c) A outer s H E).env (cxOf (L2.CX P w) P w F mg base ["line", "number"] "shared_line" (defScope s_shared_line) f (.ref c) A outer s H E).xe := passes_of rfl
  have hc : (cxOf (L2.CX P w) P w F mg base ["line", "number"] "shared_line" (defScope s_shared_line) f (.ref c) A outer s H E).calm = true := rfl
  have hKF : K.F = (cxOf (L2.CX P w) P w F mg base ["line", "number"] "shared_line" (defScope s_shared_line) f (.ref c) A outer s H E).K := T.kf
  exact ⟨_, (pssd_one (psd_ret (pd_tupZ (k := 0) (f := ez_shared_line_0) (hr.mono (by decide)) (by rfl) T.b_tuple TB rfl (by rfl) (pd_var (pv 0)) hmT hu0 (ei_div (ei_item rfl rfl) (ei_cell (i := 1) rfl rfl rfl)) (fun _ => rfl))))⟩
theorem sc_whole_primitive : FnScope ["line"] ["line"] (defScope s_whole_primitive) := ⟨rfl, rfl, rfl, by decide +kernel, rfl, by decide +kernel, by decide +kernel⟩
def g_whole_primitive : GS := (gRet (gApp 2 G_shared_line (gaCons (gVar 0) (gaCons (gApp 1 G_whole_content (gaCons (gVar 0) gaNil)) gaNil))))
def G_whole_primitive : GF := gFn 1 g_whole_primitive
theorem d_whole_primitive (T : Txt P w F mg base K) : DefOk P w F mg base K "whole_primitive" 4 1 G_whole_primitive := by
  obtain ⟨f, fd, Fn, hm, hb⟩ := T.f_whole_primitive
  refine ⟨f, fd, ["line"], ok_def (N := ["line"]) (g := g_whole_primitive) Fn sc_whole_primitive ?body, hm, Fn.kp, hb⟩
  intro cdv A outer s H E hr
  have nd := sc_whole_primitive.nd
  have hu := hr.units
  have tk : Takes (cxOf (L2.CX P w) P w F mg base ["line"] "whole_primitive" (defScope s_whole_primitive) f cdv A outer s H E) (fun cls d _ H => E cls d H) := takes_of rfl rfl rfl rfl
  have hx : Passes (L2.CX P w) (cxOf (L2.CX P w) P w F mg base ["line"] "whole_primitive" (defScope s_whole_primitive) f cdv A outer s H E) E := passes_call tk fun _ _ _ _ h => h
  have hp : PassesOwn (model P w) (cxOf (L2.CX P w) P w F mg base ["line"] "whole_primitive" (defScope s_whole_primitive) f cdv A outer s H E).A (cxOf (L2.CX P w) P w F mg base ["line"] "whole_primitive" (defScope s_whole_primitive) f cdv A outer s H E).env (cxOf (L2.CX P w) P w F mg base ["line"] "whole_primitive" (defScope s_whole_primitive) f cdv A outer s H E).xe := passes_of rfl
  have hc : (cxOf (L2.CX P w) P w F mg base ["line"] "whole_primitive" (defScope s_whole_primitive) f cdv A outer s H E).calm = true := rfl
  have hKF : K.F = (cxOf (L2.CX P w) P w F mg base ["line"] "whole_primitive" (defScope s_whole_primitive) f cdv A outer s H E).K := T.kf
  exact ⟨_, (pssd_one (psd_ret (pd_callD (d_shared_line T) (hr.mono (by decide)) (by rfl) hx (pad_cons (pd_var (pv 0)) (pad_cons (pd_callD (d_whole_content T) (hr.mono (by decide)) (by rfl) hx (pad_cons (pd_var (pv 0)) pad_nil)) pad_nil)))))⟩
theorem sc_cleared : FnScope ["line", "content", "parts", "under"] ["line"] (defScope s_cleared) := ⟨rfl, rfl, rfl, by decide +kernel, rfl, by decide +kernel, by decide +kernel⟩
def g_cleared : GS := (gSeq (gAsg (gApp 2 G_whole_line (gaCons (gC (.int 0)) (gaCons (gVar 0) gaNil))) (ggTup 2 (ggCons (ggName 2) (ggCons (ggName 3) ggNil))))
    (gSeq (gSet 1 (gApp 1 G_whole_content (gaCons (gVar 2) gaNil)))
    (gRet (gDisp .tuple (gaCons (gApp 2 G_fraction (gaCons (gVar 1) (gaCons (gVar 3) gaNil))) (gaCons (gApp 2 G_shared_line (gaCons (gVar 2) (gaCons (gVar 1) gaNil))) gaNil))))))
def G_cleared : GF := gFn 4 g_cleared
theorem d_cleared (T : Txt P w F mg base K) : DefOk P w F mg base K "cleared" 7 1 G_cleared := by
  obtain ⟨f, fd, Fn, hm, hb⟩ := T.f_cleared
  refine ⟨f, fd, ["line"], ok_def (N := ["line", "content", "parts", "under"]) (g := g_cleared) Fn sc_cleared ?body, hm, Fn.kp, hb⟩
  intro cdv A outer s H E hr
  have nd := sc_cleared.nd
  have hu := hr.units
  have tk : Takes (cxOf (L2.CX P w) P w F mg base ["line", "content", "parts", "under"] "cleared" (defScope s_cleared) f cdv A outer s H E) (fun cls d _ H => E cls d H) := takes_of rfl rfl rfl rfl
  have hx : Passes (L2.CX P w) (cxOf (L2.CX P w) P w F mg base ["line", "content", "parts", "under"] "cleared" (defScope s_cleared) f cdv A outer s H E) E := passes_call tk fun _ _ _ _ h => h
  have hp : PassesOwn (model P w) (cxOf (L2.CX P w) P w F mg base ["line", "content", "parts", "under"] "cleared" (defScope s_cleared) f cdv A outer s H E).A (cxOf (L2.CX P w) P w F mg base ["line", "content", "parts", "under"] "cleared" (defScope s_cleared) f cdv A outer s H E).env (cxOf (L2.CX P w) P w F mg base ["line", "content", "parts", "under"] "cleared" (defScope s_cleared) f cdv A outer s H E).xe := passes_of rfl
  have hc : (cxOf (L2.CX P w) P w F mg base ["line", "content", "parts", "under"] "cleared" (defScope s_cleared) f cdv A outer s H E).calm = true := rfl
  have hKF : K.F = (cxOf (L2.CX P w) P w F mg base ["line", "content", "parts", "under"] "cleared" (defScope s_cleared) f cdv A outer s H E).K := T.kf
  exact ⟨_, (pssd_cons (psd_asg (pd_callD (d_whole_line T) (hr.mono (by decide)) (by rfl) hx (pad_cons pd_int (pad_cons (pd_var (pv 0)) pad_nil))) (pgd_tup rfl (pgsd_cons (pgd_name (i := 2) nd rfl (by first | exact .inl rfl | exact .inr rfl)) (pgsd_cons (pgd_name (i := 3) nd rfl (by first | exact .inl rfl | exact .inr rfl)) pgsd_nil))))
    (pssd_cons (psd_set (i := 1) nd rfl (by first | exact .inl rfl | exact .inr rfl) (pd_callD (d_whole_content T) (hr.mono (by decide)) (by rfl) hx (pad_cons (pd_var (pv 2)) pad_nil)))
    (pssd_one (psd_ret (pd_tup (pad_cons (pd_callD (d_fraction T) (hr.mono (by decide)) (by rfl) hx (pad_cons (pd_var (pv 1)) (pad_cons (pd_var (pv 3)) pad_nil))) (pad_cons (pd_callD (d_shared_line T) (hr.mono (by decide)) (by rfl) hx (pad_cons (pd_var (pv 2)) (pad_cons (pd_var (pv 1)) pad_nil))) pad_nil)))))))⟩
theorem sc_content_of : FnScope ["line"] ["line"] (defScope s_content_of) := ⟨rfl, rfl, rfl, by decide +kernel, rfl, by decide +kernel, by decide +kernel⟩
def g_content_of : GS := (gSeq (gDrop (gApp 1 G_need_whole (gaCons (gVar 0) gaNil)))
    (gRet (gApp 1 G_whole_content (gaCons (gVar 0) gaNil))))
def G_content_of : GF := gFn 1 g_content_of
theorem d_content_of (T : Txt P w F mg base K) : DefOk P w F mg base K "content_of" 7 1 G_content_of := by
  obtain ⟨f, fd, Fn, hm, hb⟩ := T.f_content_of
  refine ⟨f, fd, ["line"], ok_def (N := ["line"]) (g := g_content_of) Fn sc_content_of ?body, hm, Fn.kp, hb⟩
  intro cdv A outer s H E hr
  have nd := sc_content_of.nd
  have hu := hr.units
  have tk : Takes (cxOf (L2.CX P w) P w F mg base ["line"] "content_of" (defScope s_content_of) f cdv A outer s H E) (fun cls d _ H => E cls d H) := takes_of rfl rfl rfl rfl
  have hx : Passes (L2.CX P w) (cxOf (L2.CX P w) P w F mg base ["line"] "content_of" (defScope s_content_of) f cdv A outer s H E) E := passes_call tk fun _ _ _ _ h => h
  have hp : PassesOwn (model P w) (cxOf (L2.CX P w) P w F mg base ["line"] "content_of" (defScope s_content_of) f cdv A outer s H E).A (cxOf (L2.CX P w) P w F mg base ["line"] "content_of" (defScope s_content_of) f cdv A outer s H E).env (cxOf (L2.CX P w) P w F mg base ["line"] "content_of" (defScope s_content_of) f cdv A outer s H E).xe := passes_of rfl
  have hc : (cxOf (L2.CX P w) P w F mg base ["line"] "content_of" (defScope s_content_of) f cdv A outer s H E).calm = true := rfl
  have hKF : K.F = (cxOf (L2.CX P w) P w F mg base ["line"] "content_of" (defScope s_content_of) f cdv A outer s H E).K := T.kf
  exact ⟨_, (pssd_cons (psd_expr (pd_callD (d_need_whole T) (hr.mono (by decide)) (by rfl) hx (pad_cons (pd_var (pv 0)) pad_nil)))
    (pssd_one (psd_ret (pd_callD (d_whole_content T) (hr.mono (by decide)) (by rfl) hx (pad_cons (pd_var (pv 0)) pad_nil)))))⟩
theorem sc_primitive_of : FnScope ["line"] ["line"] (defScope s_primitive_of) := ⟨rfl, rfl, rfl, by decide +kernel, rfl, by decide +kernel, by decide +kernel⟩
def g_primitive_of : GS := (gSeq (gDrop (gApp 1 G_need_filled_whole (gaCons (gVar 0) gaNil)))
    (gRet (gApp 1 G_whole_primitive (gaCons (gVar 0) gaNil))))
def G_primitive_of : GF := gFn 1 g_primitive_of
theorem d_primitive_of (T : Txt P w F mg base K) : DefOk P w F mg base K "primitive_of" 8 1 G_primitive_of := by
  obtain ⟨f, fd, Fn, hm, hb⟩ := T.f_primitive_of
  refine ⟨f, fd, ["line"], ok_def (N := ["line"]) (g := g_primitive_of) Fn sc_primitive_of ?body, hm, Fn.kp, hb⟩
  intro cdv A outer s H E hr
  have nd := sc_primitive_of.nd
  have hu := hr.units
  have tk : Takes (cxOf (L2.CX P w) P w F mg base ["line"] "primitive_of" (defScope s_primitive_of) f cdv A outer s H E) (fun cls d _ H => E cls d H) := takes_of rfl rfl rfl rfl
  have hx : Passes (L2.CX P w) (cxOf (L2.CX P w) P w F mg base ["line"] "primitive_of" (defScope s_primitive_of) f cdv A outer s H E) E := passes_call tk fun _ _ _ _ h => h
  have hp : PassesOwn (model P w) (cxOf (L2.CX P w) P w F mg base ["line"] "primitive_of" (defScope s_primitive_of) f cdv A outer s H E).A (cxOf (L2.CX P w) P w F mg base ["line"] "primitive_of" (defScope s_primitive_of) f cdv A outer s H E).env (cxOf (L2.CX P w) P w F mg base ["line"] "primitive_of" (defScope s_primitive_of) f cdv A outer s H E).xe := passes_of rfl
  have hc : (cxOf (L2.CX P w) P w F mg base ["line"] "primitive_of" (defScope s_primitive_of) f cdv A outer s H E).calm = true := rfl
  have hKF : K.F = (cxOf (L2.CX P w) P w F mg base ["line"] "primitive_of" (defScope s_primitive_of) f cdv A outer s H E).K := T.kf
  exact ⟨_, (pssd_cons (psd_expr (pd_callD (d_need_filled_whole T) (hr.mono (by decide)) (by rfl) hx (pad_cons (pd_var (pv 0)) pad_nil)))
    (pssd_one (psd_ret (pd_callD (d_whole_primitive T) (hr.mono (by decide)) (by rfl) hx (pad_cons (pd_var (pv 0)) pad_nil)))))⟩
theorem sc_whole_plus : FnScope ["one", "other"] ["one", "other"] (defScope s_whole_plus) := ⟨rfl, rfl, rfl, by decide +kernel, rfl, by decide +kernel, by decide +kernel⟩
def g_whole_plus : GS := (gSeq (gDrop (gApp 1 G_need_whole (gaCons (gVar 0) gaNil)))
    (gSeq (gDrop (gApp 1 G_need_whole (gaCons (gVar 1) gaNil)))
    (gRet (gApp 3 G_nested_plus (gaCons (gC (.tuple [.str (PySem.Str.ofString "quot"), .int 0])) (gaCons (gVar 0) (gaCons (gVar 1) gaNil)))))))
def G_whole_plus : GF := gFn 2 g_whole_plus
theorem d_whole_plus (T : Txt P w F mg base K) : DefOk P w F mg base K "whole_plus" 7 2 G_whole_plus := by
  obtain ⟨f, fd, Fn, hm, hb⟩ := T.f_whole_plus
  refine ⟨f, fd, ["one", "other"], ok_def (N := ["one", "other"]) (g := g_whole_plus) Fn sc_whole_plus ?body, hm, Fn.kp, hb⟩
  intro cdv A outer s H E hr
  have nd := sc_whole_plus.nd
  have hu := hr.units
  have tk : Takes (cxOf (L2.CX P w) P w F mg base ["one", "other"] "whole_plus" (defScope s_whole_plus) f cdv A outer s H E) (fun cls d _ H => E cls d H) := takes_of rfl rfl rfl rfl
  have hx : Passes (L2.CX P w) (cxOf (L2.CX P w) P w F mg base ["one", "other"] "whole_plus" (defScope s_whole_plus) f cdv A outer s H E) E := passes_call tk fun _ _ _ _ h => h
  have hp : PassesOwn (model P w) (cxOf (L2.CX P w) P w F mg base ["one", "other"] "whole_plus" (defScope s_whole_plus) f cdv A outer s H E).A (cxOf (L2.CX P w) P w F mg base ["one", "other"] "whole_plus" (defScope s_whole_plus) f cdv A outer s H E).env (cxOf (L2.CX P w) P w F mg base ["one", "other"] "whole_plus" (defScope s_whole_plus) f cdv A outer s H E).xe := passes_of rfl
  have hc : (cxOf (L2.CX P w) P w F mg base ["one", "other"] "whole_plus" (defScope s_whole_plus) f cdv A outer s H E).calm = true := rfl
  have hKF : K.F = (cxOf (L2.CX P w) P w F mg base ["one", "other"] "whole_plus" (defScope s_whole_plus) f cdv A outer s H E).K := T.kf
  exact ⟨_, (pssd_cons (psd_expr (pd_callD (d_need_whole T) (hr.mono (by decide)) (by rfl) hx (pad_cons (pd_var (pv 0)) pad_nil)))
    (pssd_cons (psd_expr (pd_callD (d_need_whole T) (hr.mono (by decide)) (by rfl) hx (pad_cons (pd_var (pv 1)) pad_nil)))
    (pssd_one (psd_ret (pd_callD (d_nested_plus T) (hr.mono (by decide)) (by rfl) hx (pad_cons (pd_globD (by rfl) T.u_WHOLE.choose_spec.choose_spec) (pad_cons (pd_var (pv 0)) (pad_cons (pd_var (pv 1)) pad_nil))))))))⟩
theorem sc_whole_times_wholelines : FnScope ["one", "other"] ["one", "other"] (defScope s_whole_times_wholelines) := ⟨rfl, rfl, rfl, by decide +kernel, rfl, by decide +kernel, by decide +kernel⟩
def g_whole_times_wholelines : GS := (gSeq (gDrop (gApp 1 G_need_whole (gaCons (gVar 0) gaNil)))
    (gSeq (gDrop (gApp 1 G_need_whole (gaCons (gVar 1) gaNil)))
    (gRet (gApp 3 G_nested_times (gaCons (gC (.tuple [.str (PySem.Str.ofString "quot"), .int 0])) (gaCons (gVar 0) (gaCons (gVar 1) gaNil)))))))
def G_whole_times_wholelines : GF := gFn 2 g_whole_times_wholelines
theorem d_whole_times_wholelines (T : Txt P w F mg base K) : DefOk P w F mg base K "whole_times_wholelines" 7 2 G_whole_times_wholelines := by
  obtain ⟨f, fd, Fn, hm, hb⟩ := T.f_whole_times_wholelines
  refine ⟨f, fd, ["one", "other"], ok_def (N := ["one", "other"]) (g := g_whole_times_wholelines) Fn sc_whole_times_wholelines ?body, hm, Fn.kp, hb⟩
  intro cdv A outer s H E hr
  have nd := sc_whole_times_wholelines.nd
  have hu := hr.units
  have tk : Takes (cxOf (L2.CX P w) P w F mg base ["one", "other"] "whole_times" (defScope s_whole_times_wholelines) f cdv A outer s H E) (fun cls d _ H => E cls d H) := takes_of rfl rfl rfl rfl
  have hx : Passes (L2.CX P w) (cxOf (L2.CX P w) P w F mg base ["one", "other"] "whole_times" (defScope s_whole_times_wholelines) f cdv A outer s H E) E := passes_call tk fun _ _ _ _ h => h
  have hp : PassesOwn (model P w) (cxOf (L2.CX P w) P w F mg base ["one", "other"] "whole_times" (defScope s_whole_times_wholelines) f cdv A outer s H E).A (cxOf (L2.CX P w) P w F mg base ["one", "other"] "whole_times" (defScope s_whole_times_wholelines) f cdv A outer s H E).env (cxOf (L2.CX P w) P w F mg base ["one", "other"] "whole_times" (defScope s_whole_times_wholelines) f cdv A outer s H E).xe := passes_of rfl
  have hc : (cxOf (L2.CX P w) P w F mg base ["one", "other"] "whole_times" (defScope s_whole_times_wholelines) f cdv A outer s H E).calm = true := rfl
  have hKF : K.F = (cxOf (L2.CX P w) P w F mg base ["one", "other"] "whole_times" (defScope s_whole_times_wholelines) f cdv A outer s H E).K := T.kf
  exact ⟨_, (pssd_cons (psd_expr (pd_callD (d_need_whole T) (hr.mono (by decide)) (by rfl) hx (pad_cons (pd_var (pv 0)) pad_nil)))
    (pssd_cons (psd_expr (pd_callD (d_need_whole T) (hr.mono (by decide)) (by rfl) hx (pad_cons (pd_var (pv 1)) pad_nil)))
    (pssd_one (psd_ret (pd_callD (d_nested_times T) (hr.mono (by decide)) (by rfl) hx (pad_cons (pd_globD (by rfl) T.u_WHOLE.choose_spec.choose_spec) (pad_cons (pd_var (pv 0)) (pad_cons (pd_var (pv 1)) pad_nil))))))))⟩
theorem sc_whole_at : FnScope ["line", "number"] ["line", "number"] (defScope s_whole_at) := ⟨rfl, rfl, rfl, by decide +kernel, rfl, by decide +kernel, by decide +kernel⟩
def g_whole_at : GS := (gSeq (gDrop (gApp 1 G_need_whole (gaCons (gVar 0) gaNil)))
    (gSeq (gDrop (gApp 3 G_need_integer (gaCons (gVar 1) (gaCons (gUn dNeg (gC (.int (10 ^ 50 * 10 ^ 50)))) (gaCons (gC (.int (10 ^ 50 * 10 ^ 50))) gaNil)))))
    (gRet (gApp 2 G_value_of_whole (gaCons (gVar 0) (gaCons (gVar 1) gaNil))))))
def G_whole_at : GF := gFn 2 g_whole_at
theorem d_whole_at (T : Txt P w F mg base K) : DefOk P w F mg base K "whole_at" 7 2 G_whole_at := by
  obtain ⟨f, fd, Fn, hm, hb⟩ := T.f_whole_at
  refine ⟨f, fd, ["line", "number"], ok_def (N := ["line", "number"]) (g := g_whole_at) Fn sc_whole_at ?body, hm, Fn.kp, hb⟩
  intro cdv A outer s H E hr
  have nd := sc_whole_at.nd
  have hu := hr.units
  have tk : Takes (cxOf (L2.CX P w) P w F mg base ["line", "number"] "whole_at" (defScope s_whole_at) f cdv A outer s H E) (fun cls d _ H => E cls d H) := takes_of rfl rfl rfl rfl
  have hx : Passes (L2.CX P w) (cxOf (L2.CX P w) P w F mg base ["line", "number"] "whole_at" (defScope s_whole_at) f cdv A outer s H E) E := passes_call tk fun _ _ _ _ h => h
  have hp : PassesOwn (model P w) (cxOf (L2.CX P w) P w F mg base ["line", "number"] "whole_at" (defScope s_whole_at) f cdv A outer s H E).A (cxOf (L2.CX P w) P w F mg base ["line", "number"] "whole_at" (defScope s_whole_at) f cdv A outer s H E).env (cxOf (L2.CX P w) P w F mg base ["line", "number"] "whole_at" (defScope s_whole_at) f cdv A outer s H E).xe := passes_of rfl
  have hc : (cxOf (L2.CX P w) P w F mg base ["line", "number"] "whole_at" (defScope s_whole_at) f cdv A outer s H E).calm = true := rfl
  have hKF : K.F = (cxOf (L2.CX P w) P w F mg base ["line", "number"] "whole_at" (defScope s_whole_at) f cdv A outer s H E).K := T.kf
  exact ⟨_, (pssd_cons (psd_expr (pd_callD (d_need_whole T) (hr.mono (by decide)) (by rfl) hx (pad_cons (pd_var (pv 0)) pad_nil)))
    (pssd_cons (psd_expr (pd_callD (d_need_integer T) (hr.mono (by decide)) (by rfl) hx (pad_cons (pd_var (pv 1)) (pad_cons (pd_neg (pd_globI (by rfl) T.c_GREATEST.choose_spec)) (pad_cons (pd_globI (by rfl) T.c_GREATEST.choose_spec) pad_nil)))))
    (pssd_one (psd_ret (pd_callD (d_value_of_whole T) (hr.mono (by decide)) (by rfl) hx (pad_cons (pd_var (pv 0)) (pad_cons (pd_var (pv 1)) pad_nil)))))))⟩
theorem sc_whole_divided_wholelines : FnScope ["line", "other"] ["line", "other"] (defScope s_whole_divided_wholelines) := ⟨rfl, rfl, rfl, by decide +kernel, rfl, by decide +kernel, by decide +kernel⟩
def g_whole_divided_wholelines : GS := (gSeq (gDrop (gApp 1 G_need_whole (gaCons (gVar 0) gaNil)))
    (gSeq (gDrop (gApp 1 G_need_filled_whole (gaCons (gVar 1) gaNil)))
    (gRet (gApp 3 G_nested_exact (gaCons (gC (.tuple [.str (PySem.Str.ofString "quot"), .int 0])) (gaCons (gVar 0) (gaCons (gVar 1) gaNil)))))))
def G_whole_divided_wholelines : GF := gFn 2 g_whole_divided_wholelines
theorem d_whole_divided_wholelines (T : Txt P w F mg base K) : DefOk P w F mg base K "whole_divided_wholelines" 8 2 G_whole_divided_wholelines := by
  obtain ⟨f, fd, Fn, hm, hb⟩ := T.f_whole_divided_wholelines
  refine ⟨f, fd, ["line", "other"], ok_def (N := ["line", "other"]) (g := g_whole_divided_wholelines) Fn sc_whole_divided_wholelines ?body, hm, Fn.kp, hb⟩
  intro cdv A outer s H E hr
  have nd := sc_whole_divided_wholelines.nd
  have hu := hr.units
  have tk : Takes (cxOf (L2.CX P w) P w F mg base ["line", "other"] "whole_divided" (defScope s_whole_divided_wholelines) f cdv A outer s H E) (fun cls d _ H => E cls d H) := takes_of rfl rfl rfl rfl
  have hx : Passes (L2.CX P w) (cxOf (L2.CX P w) P w F mg base ["line", "other"] "whole_divided" (defScope s_whole_divided_wholelines) f cdv A outer s H E) E := passes_call tk fun _ _ _ _ h => h
  have hp : PassesOwn (model P w) (cxOf (L2.CX P w) P w F mg base ["line", "other"] "whole_divided" (defScope s_whole_divided_wholelines) f cdv A outer s H E).A (cxOf (L2.CX P w) P w F mg base ["line", "other"] "whole_divided" (defScope s_whole_divided_wholelines) f cdv A outer s H E).env (cxOf (L2.CX P w) P w F mg base ["line", "other"] "whole_divided" (defScope s_whole_divided_wholelines) f cdv A outer s H E).xe := passes_of rfl
  have hc : (cxOf (L2.CX P w) P w F mg base ["line", "other"] "whole_divided" (defScope s_whole_divided_wholelines) f cdv A outer s H E).calm = true := rfl
  have hKF : K.F = (cxOf (L2.CX P w) P w F mg base ["line", "other"] "whole_divided" (defScope s_whole_divided_wholelines) f cdv A outer s H E).K := T.kf
  exact ⟨_, (pssd_cons (psd_expr (pd_callD (d_need_whole T) (hr.mono (by decide)) (by rfl) hx (pad_cons (pd_var (pv 0)) pad_nil)))
    (pssd_cons (psd_expr (pd_callD (d_need_filled_whole T) (hr.mono (by decide)) (by rfl) hx (pad_cons (pd_var (pv 1)) pad_nil)))
    (pssd_one (psd_ret (pd_callD (d_nested_exact T) (hr.mono (by decide)) (by rfl) hx (pad_cons (pd_globD (by rfl) T.u_WHOLE.choose_spec.choose_spec) (pad_cons (pd_var (pv 0)) (pad_cons (pd_var (pv 1)) pad_nil))))))))⟩
theorem sc_cleared_line : FnScope ["line"] ["line"] (defScope s_cleared_line) := ⟨rfl, rfl, rfl, by decide +kernel, rfl, by decide +kernel, by decide +kernel⟩
def g_cleared_line : GS := (gSeq (gDrop (gApp 2 G_need_line (gaCons (gC (.int 0)) (gaCons (gVar 0) gaNil))))
    (gSeq (gIf (gBool (gBin dEq (gVar 0) (gDisp .tuple gaNil))) (gRaise 2) gSkip)
    (gRet (gApp 1 G_cleared (gaCons (gVar 0) gaNil)))))
def G_cleared_line : GF := gFn 1 g_cleared_line
theorem d_cleared_line (T : Txt P w F mg base K) : DefOk P w F mg base K "cleared_line" 8 1 G_cleared_line := by
  obtain ⟨f, fd, Fn, hm, hb⟩ := T.f_cleared_line
  refine ⟨f, fd, ["line"], ok_def (N := ["line"]) (g := g_cleared_line) Fn sc_cleared_line ?body, hm, Fn.kp, hb⟩
  intro cdv A outer s H E hr
  have nd := sc_cleared_line.nd
  have hu := hr.units
  have tk : Takes (cxOf (L2.CX P w) P w F mg base ["line"] "cleared_line" (defScope s_cleared_line) f cdv A outer s H E) (fun cls d _ H => E cls d H) := takes_of rfl rfl rfl rfl
  have hx : Passes (L2.CX P w) (cxOf (L2.CX P w) P w F mg base ["line"] "cleared_line" (defScope s_cleared_line) f cdv A outer s H E) E := passes_call tk fun _ _ _ _ h => h
  have hp : PassesOwn (model P w) (cxOf (L2.CX P w) P w F mg base ["line"] "cleared_line" (defScope s_cleared_line) f cdv A outer s H E).A (cxOf (L2.CX P w) P w F mg base ["line"] "cleared_line" (defScope s_cleared_line) f cdv A outer s H E).env (cxOf (L2.CX P w) P w F mg base ["line"] "cleared_line" (defScope s_cleared_line) f cdv A outer s H E).xe := passes_of rfl
  have hc : (cxOf (L2.CX P w) P w F mg base ["line"] "cleared_line" (defScope s_cleared_line) f cdv A outer s H E).calm = true := rfl
  have hKF : K.F = (cxOf (L2.CX P w) P w F mg base ["line"] "cleared_line" (defScope s_cleared_line) f cdv A outer s H E).K := T.kf
  exact ⟨_, (pssd_cons (psd_expr (pd_callD (d_need_line T) (hr.mono (by decide)) (by rfl) hx (pad_cons pd_int (pad_cons (pd_var (pv 0)) pad_nil))))
    (pssd_cons (psd_if (ptd_cmp (op_eqX hu) opD_eq (pd_var (pv 0)) (pd_tup pad_nil) (nomark _)) (pssd_one (psd_raise (k := 2) hc tk (pmk_own PySem.F.excBase_ValueError T.x_InvalidWhole T.g_InvalidWhole T.k_InvalidWhole (raises_own T.s_InvalidWhole T.t_InvalidWhole) (by rfl)) (fun _ _ _ h => h))) pssd_nil)
    (pssd_one (psd_ret (pd_callD (d_cleared T) (hr.mono (by decide)) (by rfl) hx (pad_cons (pd_var (pv 0)) pad_nil))))))⟩
theorem sc__law_cup : FnScope ["_law_script", "_law_cell"] ["_law_script"] (defScope s__law_cup) := ⟨rfl, rfl, rfl, by decide +kernel, rfl, by decide +kernel, by decide +kernel⟩
def ga__law_cup : GA := (gaCons (gIfE (gBool (gBin (fB0 fun i j => decide (j ≤ i)) (gVar 1) (gBin (fI powOk fun i j => i ^ j.toNat) (gC (.int 10)) (gC (.int 18))))) (gBin (fI divOk fun i j => i.fdiv j) (gVar 1) (gC (.int 67))) (gC (.int 0))) (gaCons (gBin dAdd (gBin (fI modOk fun i j => i.fmod j) (gCall dToInt (gaCons (gBin dAdd (gBin dMul (gVar 1) (gC (.int 277))) (gC (.int 2609))) gaNil)) (gC (.int 2077503167))) (gC (.int 163))) gaNil))
theorem cell_rs (ns : List Int) (hl : ns.length ≤ 63) (ρ : En) (cu : Cu) : ((((Rs.ok (PyData.list (ns.map .int)) cu).bind fun a cu1 => ((gDisp .list (gaCons (gC (.int 0)) gaNil)) ρ cu1).bind fun b cu2 => Rs.ofO (dAdd a b) cu2).bind fun a cu1 => ((gC (.int 0)) ρ cu1).bind fun b cu2 => Rs.ofO (dIx a b) cu2).bind fun a cu1 => Rs.ofO (dAbs [a]) cu1) = .ok (.int (cell0 ns)) cu := by
  cases ns with
  | nil => rfl
  | cons i r =>
    have h : (PyData.int i :: r.map .int).length + [PyData.int 0].length ≤ 16777216 := by simp only [List.length_cons, List.length_map, List.length_nil] at hl ⊢; omega
    have e : dAdd (PyData.list ((i :: r).map .int)) (PyData.list [PyData.int 0]) = some (.list (PyData.int i :: (r.map .int ++ [.int 0]))) := by
      show (if _ then some _ else none) = _
      rw [if_pos (by exact h)]
      rfl
    show (((Rs.ofO (dAdd (PyData.list ((i :: r).map .int)) (PyData.list [PyData.int 0])) cu).bind fun a cu1 => Rs.ofO (dIx a (.int 0)) cu1).bind fun a cu1 => Rs.ofO (dAbs [a]) cu1) = _
    rw [e, Rs.ofO_some, Rs.bind_ok, dIx_lst, atI0, Rs.ofO_some, Rs.bind_ok]
    rfl
theorem cup_rs (cell : Int) (cu : Cu) : (gfDisp ga__law_cup) [.un, .dat (.int cell)] cu = .ok [.int (cup0 cell).1, .int (cup0 cell).2] cu := by
  unfold cup0
  have h1 : mulOk cell 277 = true := mulOk_r (by decide)
  have h2 : divOk cell 67 = true := divOk_b (p := 64) (by decide) (by decide) (by decide) (by decide)
  have h3 : powOk 10 18 = true := by decide
  have h4 : modOk (cell * 277 + 2609) 2077503167 = true := modOk_b (by decide)
  by_cases h : cell ≥ 10 ^ 18
  · have e : decide ((10 : Int) ^ (18 : Int).toNat ≤ cell) = true := decide_eq_true h
    simp only [gfDisp, ga__law_cup, gaCons, gaNil, gIfE, gBool, gBin, gCall, gC_eq, gVar_un, List.getElem?_cons_zero, List.getElem?_cons_succ, Rs.bind_ok, Rs.ofO_some, dMul_int, dAdd_int, fI_int, fB0_int, dBool_bl, dats_nil, dats_cons, Option.map_some, Option.bind_some, dToInt_int, h1, h2, h3, h4, e, if_true, List.length_cons, List.length_nil]
    rw [if_pos h]
    rfl
  · have e : decide ((10 : Int) ^ (18 : Int).toNat ≤ cell) = false := decide_eq_false h
    simp only [gfDisp, ga__law_cup, gaCons, gaNil, gIfE, gBool, gBin, gCall, gC_eq, gVar_un, List.getElem?_cons_zero, List.getElem?_cons_succ, Rs.bind_ok, Rs.ofO_some, dMul_int, dAdd_int, fI_int, fB0_int, dBool_bl, dats_nil, dats_cons, Option.map_some, Option.bind_some, dToInt_int, h1, h2, h3, h4, e, Bool.false_eq_true, if_false, List.length_cons, List.length_nil]
    rw [if_neg h]
    rfl
theorem ok__law_cup (T : Txt P w F mg base K) : ∃ (f : Addr) (fd : FuncData), FnOk P w F mg base (L2.CX P w) 1 f fd ["_law_script"] (spCup K F) ∧ mg "_law_cup" = some (.ref f) ∧ PySem.W.keepIn F (.ref f) = true ∧ Binds F fd ["_law_script"] [] := by
  obtain ⟨f, fd, Fn, hm, hb⟩ := T.f__law_cup
  refine ⟨f, fd, Fn.okX sc__law_cup (k := 0) (fun vs H Q E h => ?len) (fun cdv A outer s H vs Q E hr h => ?body), hm, Fn.kp, hb⟩
  · obtain ⟨a, ns, rfl, _⟩ := h
    rfl
  obtain ⟨a, ns, rfl, hS, hl, hT, hQ⟩ := h
  have nd := sc__law_cup.nd
  have hu := hr.units
  have tk : Takes (cxOf (L2.CX P w) P w F mg base ["_law_script", "_law_cell"] "_law_cup" (defScope s__law_cup) f cdv A outer s H E) (fun cls d _ H => E cls d H) := takes_of rfl rfl rfl rfl
  have hx : Passes (L2.CX P w) (cxOf (L2.CX P w) P w F mg base ["_law_script", "_law_cell"] "_law_cup" (defScope s__law_cup) f cdv A outer s H E) E := passes_call tk fun _ _ _ _ h => h
  have hp : PassesOwn (model P w) (cxOf (L2.CX P w) P w F mg base ["_law_script", "_law_cell"] "_law_cup" (defScope s__law_cup) f cdv A outer s H E).A (cxOf (L2.CX P w) P w F mg base ["_law_script", "_law_cell"] "_law_cup" (defScope s__law_cup) f cdv A outer s H E).env (cxOf (L2.CX P w) P w F mg base ["_law_script", "_law_cell"] "_law_cup" (defScope s__law_cup) f cdv A outer s H E).xe := passes_of rfl
  have hc : (cxOf (L2.CX P w) P w F mg base ["_law_script", "_law_cell"] "_law_cup" (defScope s__law_cup) f cdv A outer s H E).calm = true := rfl
  have hKF : K.F = (cxOf (L2.CX P w) P w F mg base ["_law_script", "_law_cell"] "_law_cup" (defScope s__law_cup) f cdv A outer s H E).K := T.kf
  obtain ⟨t2, hp2, hs2⟩ : ∃ t2, PSs (cxOf (L2.CX P w) P w F mg base ["_law_script", "_law_cell"] "_law_cup" (defScope s__law_cup) f cdv A outer s H E) [(defBody s__law_cup).getD 1 (.Pass ⟨0, 0, 0, 0⟩)] (tRet t2) ∧ SemF K E t2 (gfDisp ga__law_cup) :=
    ret_own (pf_lst (pad_cons (pd_ifExp (ptd_cmp op_ge opD_ge (pd_var (pv 1)) (pd_op op_pow opD_pow pd_int pd_int) (nomark _)) (pd_op op_divD opD_div (pd_var (pv 1)) pd_int) pd_int) (pad_cons (pd_op op_addD opD_add (pd_op op_modN opD_mod (pd_callTy call_int1 callD_int (by rfl) T.b_int bb_int (pad_cons (pd_op op_addD opD_add (pd_op op_mulD opD_mul (pd_var (pv 1)) pd_int) pd_int) pad_nil)) pd_int) pd_int) pad_nil)))
  refine ⟨_, pss_cons (ps_set (i := 1) nd rfl (by first | exact .inl rfl | exact .inr rfl) (pe_callB call_abs (by rfl) T.b_abs bb_abs (pa_cons (pe_ix ixR_D (pe_op op_addD (pe_callTy call_list_of (by rfl) T.b_list bb_list (pa_cons (pv 0) pa_nil)) (PD.pe (K := K) (E := E) (pd_lst (pad_cons pd_int pad_nil)))) pe_int (fun _ _ => rfl)) pa_nil)))
    hp2, ?_⟩
  have s0 : SRep K none H (fun _ => none) (L2.start ["_law_script", "_law_cell"] [V.ref a]) H (fun _ => none) (List.replicate 2 .un) (0, 0) := srep0 hT rfl
  refine at_seq_set (E := E) (at_call1 callD_abs (at_op s0 opD_ix (at_op s0 opD_add (at_script (i := 0) s0.wd (by rfl) hS) (PD.sem (X := cxOf (L2.CX P w) P w F mg base ["_law_script", "_law_cell"] "_law_cup" (defScope s__law_cup) f cdv A outer s H E) (pd_lst (pos := ⟨0, 0, 0, 0⟩) (pad_cons (pd_int (i := 0) (j := 0) (pos := ⟨0, 0, 0, 0⟩)) pad_nil)))) (sem_c (v := .int 0) fun _ => .int 0))) ?_
  rw [cell_rs ns hl]
  intro H1 G1 x1 w1 v rv
  have s1 := (s0.go x1 w1).set (i := 1) rv
  exact ret_cup hs2 s1 (cup_rs _ _) hQ
theorem sc__law_roll : FnScope ["_law_cup_here", "_law_many", "_law_deep", "_law_found"] ["_law_cup_here", "_law_many"] (defScope s__law_roll) := ⟨rfl, rfl, rfl, by decide +kernel, rfl, by decide +kernel, by decide +kernel⟩
def g__law_roll : GS := (gSeq (gIf (gBool (gBin (fB0 fun i j => decide (j < i)) (gCup 0 false) (gC (.int 0)))) (gSeq (gSet 3 (gBin (fI modOk fun i j => i.fmod j) (gCall dToInt (gaCons (gCup 0 false) gaNil)) (gVar 1)))
    (gSeq (gCupSet 0 false (gBin (fI divOk fun i j => i.fdiv j) (gCup 0 false) (gVar 1)))
    (gRet (gVar 3)))) gSkip)
    (gSeq (gCupSet 0 true (gBin (fI modOk fun i j => i.fmod j) (gCall dToInt (gaCons (gBin dAdd (gBin dMul (gCup 0 true) (gC (.int 31039))) (gC (.int 7973))) gaNil)) (gC (.int 2147483543))))
    (gSeq (gSet 2 (gBin (fI modOk fun i j => i.fmod j) (gCall dToInt (gaCons (gBin dMul (gCup 0 true) (gBin dAdd (gCup 0 true) (gC (.int 229)))) gaNil)) (gC (.int 2147483587))))
    (gRet (gBin (fI modOk fun i j => i.fmod j) (gCall dToInt (gaCons (gBin (fI divOk fun i j => i.fdiv j) (gVar 2) (gC (.int 821))) gaNil)) (gVar 1))))))
def G__law_roll : GF := gFn 4 g__law_roll
theorem d__law_roll (T : Txt P w F mg base K) : DefOk P w F mg base K "_law_roll" 1 2 G__law_roll := by
  obtain ⟨f, fd, Fn, hm, hb⟩ := T.f__law_roll
  refine ⟨f, fd, ["_law_cup_here", "_law_many"], ok_def (N := ["_law_cup_here", "_law_many", "_law_deep", "_law_found"]) (g := g__law_roll) Fn sc__law_roll ?body, hm, Fn.kp, hb⟩
  intro cdv A outer s H E hr
  have nd := sc__law_roll.nd
  have hu := hr.units
  have tk : Takes (cxOf (L2.CX P w) P w F mg base ["_law_cup_here", "_law_many", "_law_deep", "_law_found"] "_law_roll" (defScope s__law_roll) f cdv A outer s H E) (fun cls d _ H => E cls d H) := takes_of rfl rfl rfl rfl
  have hx : Passes (L2.CX P w) (cxOf (L2.CX P w) P w F mg base ["_law_cup_here", "_law_many", "_law_deep", "_law_found"] "_law_roll" (defScope s__law_roll) f cdv A outer s H E) E := passes_call tk fun _ _ _ _ h => h
  have hp : PassesOwn (model P w) (cxOf (L2.CX P w) P w F mg base ["_law_cup_here", "_law_many", "_law_deep", "_law_found"] "_law_roll" (defScope s__law_roll) f cdv A outer s H E).A (cxOf (L2.CX P w) P w F mg base ["_law_cup_here", "_law_many", "_law_deep", "_law_found"] "_law_roll" (defScope s__law_roll) f cdv A outer s H E).env (cxOf (L2.CX P w) P w F mg base ["_law_cup_here", "_law_many", "_law_deep", "_law_found"] "_law_roll" (defScope s__law_roll) f cdv A outer s H E).xe := passes_of rfl
  have hc : (cxOf (L2.CX P w) P w F mg base ["_law_cup_here", "_law_many", "_law_deep", "_law_found"] "_law_roll" (defScope s__law_roll) f cdv A outer s H E).calm = true := rfl
  have hKF : K.F = (cxOf (L2.CX P w) P w F mg base ["_law_cup_here", "_law_many", "_law_deep", "_law_found"] "_law_roll" (defScope s__law_roll) f cdv A outer s H E).K := T.kf
  exact ⟨_, (pssd_cons (psd_if (ptd_cmp op_gt opD_gt (pd_cup (pv 0) false rfl (fun _ _ => rfl)) pd_int (nomark _)) (pssd_cons (psd_set (i := 3) nd rfl (by first | exact .inl rfl | exact .inr rfl) (pd_op op_modN opD_mod (pd_callTy call_int1 callD_int (by rfl) T.b_int bb_int (pad_cons (pd_cup (pv 0) false rfl (fun _ _ => rfl)) pad_nil)) (pd_var (pv 1))))
    (pssd_cons (psd_cupSet (i := 0) false rfl (pv 0) (pd_op op_divD opD_div (pd_cup (pv 0) false rfl (fun _ _ => rfl)) (pd_var (pv 1))))
    (pssd_one (psd_ret (pd_var (pv 3)))))) pssd_nil)
    (pssd_cons (psd_cupSet (i := 0) true rfl (pv 0) (pd_op op_modN opD_mod (pd_callTy call_int1 callD_int (by rfl) T.b_int bb_int (pad_cons (pd_op op_addD opD_add (pd_op op_mulD opD_mul (pd_cup (pv 0) true rfl (fun _ _ => rfl)) pd_int) pd_int) pad_nil)) pd_int))
    (pssd_cons (psd_set (i := 2) nd rfl (by first | exact .inl rfl | exact .inr rfl) (pd_op op_modN opD_mod (pd_callTy call_int1 callD_int (by rfl) T.b_int bb_int (pad_cons (pd_op op_mulD opD_mul (pd_cup (pv 0) true rfl (fun _ _ => rfl)) (pd_op op_addD opD_add (pd_cup (pv 0) true rfl (fun _ _ => rfl)) pd_int)) pad_nil)) pd_int))
    (pssd_one (psd_ret (pd_op op_modN opD_mod (pd_callTy call_int1 callD_int (by rfl) T.b_int bb_int (pad_cons (pd_op op_divD opD_div (pd_var (pv 2)) pd_int) pad_nil)) (pd_var (pv 1))))))))⟩
theorem sc__law_some : FnScope ["_law_cup_here", "_law_things"] ["_law_cup_here", "_law_things"] (defScope s__law_some) := ⟨rfl, rfl, rfl, by decide +kernel, rfl, by decide +kernel, by decide +kernel⟩
def g__law_some : GS := (gRet (gBin dIx (gVar 1) (gApp 2 G__law_roll (gaCup 0 (gaCons (gCall dLen (gaCons (gVar 1) gaNil)) gaNil)))))
def G__law_some : GF := gFn 2 g__law_some
theorem d__law_some (T : Txt P w F mg base K) : DefOk P w F mg base K "_law_some" 2 2 G__law_some := by
  obtain ⟨f, fd, Fn, hm, hb⟩ := T.f__law_some
  refine ⟨f, fd, ["_law_cup_here", "_law_things"], ok_def (N := ["_law_cup_here", "_law_things"]) (g := g__law_some) Fn sc__law_some ?body, hm, Fn.kp, hb⟩
  intro cdv A outer s H E hr
  have nd := sc__law_some.nd
  have hu := hr.units
  have tk : Takes (cxOf (L2.CX P w) P w F mg base ["_law_cup_here", "_law_things"] "_law_some" (defScope s__law_some) f cdv A outer s H E) (fun cls d _ H => E cls d H) := takes_of rfl rfl rfl rfl
  have hx : Passes (L2.CX P w) (cxOf (L2.CX P w) P w F mg base ["_law_cup_here", "_law_things"] "_law_some" (defScope s__law_some) f cdv A outer s H E) E := passes_call tk fun _ _ _ _ h => h
  have hp : PassesOwn (model P w) (cxOf (L2.CX P w) P w F mg base ["_law_cup_here", "_law_things"] "_law_some" (defScope s__law_some) f cdv A outer s H E).A (cxOf (L2.CX P w) P w F mg base ["_law_cup_here", "_law_things"] "_law_some" (defScope s__law_some) f cdv A outer s H E).env (cxOf (L2.CX P w) P w F mg base ["_law_cup_here", "_law_things"] "_law_some" (defScope s__law_some) f cdv A outer s H E).xe := passes_of rfl
  have hc : (cxOf (L2.CX P w) P w F mg base ["_law_cup_here", "_law_things"] "_law_some" (defScope s__law_some) f cdv A outer s H E).calm = true := rfl
  have hKF : K.F = (cxOf (L2.CX P w) P w F mg base ["_law_cup_here", "_law_things"] "_law_some" (defScope s__law_some) f cdv A outer s H E).K := T.kf
  exact ⟨_, (pssd_one (psd_ret (pd_ix ixR_D opD_ix (pd_var (pv 1)) (pd_callD (d__law_roll T) (hr.mono (by decide)) (by rfl) hx (pad_cup (pv 0) (pad_cons (pd_callB call_len_seq callD_len (by rfl) T.b_len bb_len (pad_cons (pd_var (pv 1)) pad_nil)) pad_nil))) (fun _ _ => rfl))))⟩
theorem sc__law_common : FnScope ["_law_one", "_law_other"] ["_law_one", "_law_other"] (defScope s__law_common) := ⟨rfl, rfl, rfl, by decide +kernel, rfl, by decide +kernel, by decide +kernel⟩
def wt__law_common_0 : GT := (gBool (gBin dNe (gVar 1) (gC (.int 0))))
def wb__law_common_0 : GS := (gPar 0 1 (gaCons (gVar 1) (gaCons (gBin (fI modOk fun i j => i.fmod j) (gCall dToInt (gaCons (gVar 0) gaNil)) (gVar 1)) gaNil)))
def g__law_common : GS := (gSeq (gPar 0 1 (gaCons (gCall dAbs (gaCons (gVar 0) gaNil)) (gaCons (gCall dAbs (gaCons (gVar 1) gaNil)) gaNil)))
    (gSeq (gWhile (fun ρ _ => fuelOf ρ 1) wt__law_common_0 wb__law_common_0)
    (gRet (gVar 0))))
def G__law_common : GF := gFn 2 g__law_common
theorem d__law_common (T : Txt P w F mg base K) : DefOk P w F mg base K "_law_common" 1 2 G__law_common := by
  obtain ⟨f, fd, Fn, hm, hb⟩ := T.f__law_common
  refine ⟨f, fd, ["_law_one", "_law_other"], ok_def (N := ["_law_one", "_law_other"]) (g := g__law_common) Fn sc__law_common ?body, hm, Fn.kp, hb⟩
  intro cdv A outer s H E hr
  have nd := sc__law_common.nd
  have hu := hr.units
  have tk : Takes (cxOf (L2.CX P w) P w F mg base ["_law_one", "_law_other"] "_law_common" (defScope s__law_common) f cdv A outer s H E) (fun cls d _ H => E cls d H) := takes_of rfl rfl rfl rfl
  have hx : Passes (L2.CX P w) (cxOf (L2.CX P w) P w F mg base ["_law_one", "_law_other"] "_law_common" (defScope s__law_common) f cdv A outer s H E) E := passes_call tk fun _ _ _ _ h => h
  have hp : PassesOwn (model P w) (cxOf (L2.CX P w) P w F mg base ["_law_one", "_law_other"] "_law_common" (defScope s__law_common) f cdv A outer s H E).A (cxOf (L2.CX P w) P w F mg base ["_law_one", "_law_other"] "_law_common" (defScope s__law_common) f cdv A outer s H E).env (cxOf (L2.CX P w) P w F mg base ["_law_one", "_law_other"] "_law_common" (defScope s__law_common) f cdv A outer s H E).xe := passes_of rfl
  have hc : (cxOf (L2.CX P w) P w F mg base ["_law_one", "_law_other"] "_law_common" (defScope s__law_common) f cdv A outer s H E).calm = true := rfl
  have hKF : K.F = (cxOf (L2.CX P w) P w F mg base ["_law_one", "_law_other"] "_law_common" (defScope s__law_common) f cdv A outer s H E).K := T.kf
  exact ⟨_, (pssd_cons (psd_par (i := 0) (j := 1) hc nd rfl rfl (by decide) rfl rfl (pad_cons (pd_callB call_abs callD_abs (by rfl) T.b_abs bb_abs (pad_cons (pd_var (pv 0)) pad_nil)) (pad_cons (pd_callB call_abs callD_abs (by rfl) T.b_abs bb_abs (pad_cons (pd_var (pv 1)) pad_nil)) pad_nil)))
    (pssd_cons (psd_while (fun ρ _ => fuelOf ρ 1) hp (ptd_cmp (op_neX hu) opD_ne (pd_var (pv 1)) pd_int (nomark _)) (pssd_one (psd_par (i := 0) (j := 1) hc nd rfl rfl (by decide) rfl rfl (pad_cons (pd_var (pv 1)) (pad_cons (pd_op op_modN opD_mod (pd_callTy call_int1 callD_int (by rfl) T.b_int bb_int (pad_cons (pd_var (pv 0)) pad_nil)) (pd_var (pv 1))) pad_nil)))))
    (pssd_one (psd_ret (pd_var (pv 0))))))⟩
theorem sc__law_cut : FnScope ["_law_numbers", "_law_found"] ["_law_numbers"] (defScope s__law_cut) := ⟨rfl, rfl, rfl, by decide +kernel, rfl, by decide +kernel, by decide +kernel⟩
def wt__law_cut_0 : GT := (gAnd (gBool (gBin dNe (gVar 1) (gDisp .list gaNil))) (gBool (gBin dEq (gBin dIx (gVar 1) (gUn dNeg (gC (.int 1)))) (gC (.int 0)))))
def wb__law_cut_0 : GS := (gSet 1 (gSlice (gVar 1) gNoPart (gPart (gUn dNeg (gC (.int 1))))))
def g__law_cut : GS := (gSeq (gSet 1 (gCall dToLst (gaCons (gVar 0) gaNil)))
    (gSeq (gWhile (fun _ _ => 1000) wt__law_cut_0 wb__law_cut_0)
    (gRet (gCall dToTup (gaCons (gVar 1) gaNil)))))
def G__law_cut : GF := gFn 2 g__law_cut
theorem d__law_cut (T : Txt P w F mg base K) : DefOk P w F mg base K "_law_cut" 1 1 G__law_cut := by
  obtain ⟨f, fd, Fn, hm, hb⟩ := T.f__law_cut
  refine ⟨f, fd, ["_law_numbers"], ok_def (N := ["_law_numbers", "_law_found"]) (g := g__law_cut) Fn sc__law_cut ?body, hm, Fn.kp, hb⟩
  intro cdv A outer s H E hr
  have nd := sc__law_cut.nd
  have hu := hr.units
  have tk : Takes (cxOf (L2.CX P w) P w F mg base ["_law_numbers", "_law_found"] "_law_cut" (defScope s__law_cut) f cdv A outer s H E) (fun cls d _ H => E cls d H) := takes_of rfl rfl rfl rfl
  have hx : Passes (L2.CX P w) (cxOf (L2.CX P w) P w F mg base ["_law_numbers", "_law_found"] "_law_cut" (defScope s__law_cut) f cdv A outer s H E) E := passes_call tk fun _ _ _ _ h => h
  have hp : PassesOwn (model P w) (cxOf (L2.CX P w) P w F mg base ["_law_numbers", "_law_found"] "_law_cut" (defScope s__law_cut) f cdv A outer s H E).A (cxOf (L2.CX P w) P w F mg base ["_law_numbers", "_law_found"] "_law_cut" (defScope s__law_cut) f cdv A outer s H E).env (cxOf (L2.CX P w) P w F mg base ["_law_numbers", "_law_found"] "_law_cut" (defScope s__law_cut) f cdv A outer s H E).xe := passes_of rfl
  have hc : (cxOf (L2.CX P w) P w F mg base ["_law_numbers", "_law_found"] "_law_cut" (defScope s__law_cut) f cdv A outer s H E).calm = true := rfl
  have hKF : K.F = (cxOf (L2.CX P w) P w F mg base ["_law_numbers", "_law_found"] "_law_cut" (defScope s__law_cut) f cdv A outer s H E).K := T.kf
  exact ⟨_, (pssd_cons (psd_set (i := 1) nd rfl (by first | exact .inl rfl | exact .inr rfl) (pd_callTy call_list_of callD_list (by rfl) T.b_list bb_list (pad_cons (pd_var (pv 0)) pad_nil)))
    (pssd_cons (psd_while (fun _ _ => 1000) hp (PWD.pt (pwd_and (ptd_cmp (op_neX hu) opD_ne (pd_var (pv 1)) (pd_lst pad_nil) (nomark _)) (pwd_and1 (ptd_cmp (op_eqX hu) opD_eq (pd_ix ixR_D opD_ix (pd_var (pv 1)) (pd_neg pd_int) (fun _ _ => rfl)) pd_int (nomark _))))) (pssd_one (psd_set (i := 1) nd rfl (by first | exact .inl rfl | exact .inr rfl) (pd_slice (pd_var (pv 1)) pod_none (pod_some (pd_neg pd_int))))))
    (pssd_one (psd_ret (pd_callTy call_tuple_of callD_tuple (by rfl) T.b_tuple bb_tuple (pad_cons (pd_var (pv 1)) pad_nil))))))⟩
theorem sc__law_mul : FnScope ["_law_one", "_law_other", "_law_found", "_law_low", "_law_high"] ["_law_one", "_law_other"] (defScope s__law_mul) := ⟨rfl, rfl, rfl, by decide +kernel, rfl, by decide +kernel, by decide +kernel⟩
def fb__law_mul_0 : GS := (gStO 2 (gBin dAdd (gIxO 2 (gBin dAdd (gVar 3) (gVar 4))) (gBin dMul (gBin dIx (gVar 0) (gVar 3)) (gBin dIx (gVar 1) (gVar 4)))) (gBin dAdd (gVar 3) (gVar 4)))
def fb__law_mul_1 : GS := (gFor (giArg dRng1 (gaCons (gCall dLen (gaCons (gVar 1) gaNil)) gaNil)) (ggName 4) fb__law_mul_0)
def ta__law_mul_0 : GS := (gRet (gApp 1 G__law_cut (gaCons (gVar 2) gaNil)))
def g__law_mul : GS := (gSeq (gSetO 2 (gfRep (gDisp .list (gaCons (gC (.int 0)) gaNil)) (gCall dMax2 (gaCons (gC (.int 0)) (gaCons (gBin (fI0 fun i j => i - j) (gBin dAdd (gCall dLen (gaCons (gVar 0) gaNil)) (gCall dLen (gaCons (gVar 1) gaNil))) (gC (.int 1))) gaNil)))))
    (gSeq (gFor (giArg dRng1 (gaCons (gCall dLen (gaCons (gVar 0) gaNil)) gaNil)) (ggName 3) fb__law_mul_1)
    (gFrz 2 ta__law_mul_0)))
def G__law_mul : GF := gFn 5 g__law_mul
theorem d__law_mul (T : Txt P w F mg base K) : DefOk P w F mg base K "_law_mul" 2 2 G__law_mul := by
  obtain ⟨f, fd, Fn, hm, hb⟩ := T.f__law_mul
  refine ⟨f, fd, ["_law_one", "_law_other"], ok_def (N := ["_law_one", "_law_other", "_law_found", "_law_low", "_law_high"]) (g := g__law_mul) Fn sc__law_mul ?body, hm, Fn.kp, hb⟩
  intro cdv A outer s H E hr
  have nd := sc__law_mul.nd
  have hu := hr.units
  have tk : Takes (cxOf (L2.CX P w) P w F mg base ["_law_one", "_law_other", "_law_found", "_law_low", "_law_high"] "_law_mul" (defScope s__law_mul) f cdv A outer s H E) (fun cls d _ H => E cls d H) := takes_of rfl rfl rfl rfl
  have hx : Passes (L2.CX P w) (cxOf (L2.CX P w) P w F mg base ["_law_one", "_law_other", "_law_found", "_law_low", "_law_high"] "_law_mul" (defScope s__law_mul) f cdv A outer s H E) E := passes_call tk fun _ _ _ _ h => h
  have hp : PassesOwn (model P w) (cxOf (L2.CX P w) P w F mg base ["_law_one", "_law_other", "_law_found", "_law_low", "_law_high"] "_law_mul" (defScope s__law_mul) f cdv A outer s H E).A (cxOf (L2.CX P w) P w F mg base ["_law_one", "_law_other", "_law_found", "_law_low", "_law_high"] "_law_mul" (defScope s__law_mul) f cdv A outer s H E).env (cxOf (L2.CX P w) P w F mg base ["_law_one", "_law_other", "_law_found", "_law_low", "_law_high"] "_law_mul" (defScope s__law_mul) f cdv A outer s H E).xe := passes_of rfl
  have hc : (cxOf (L2.CX P w) P w F mg base ["_law_one", "_law_other", "_law_found", "_law_low", "_law_high"] "_law_mul" (defScope s__law_mul) f cdv A outer s H E).calm = true := rfl
  have hKF : K.F = (cxOf (L2.CX P w) P w F mg base ["_law_one", "_law_other", "_law_found", "_law_low", "_law_high"] "_law_mul" (defScope s__law_mul) f cdv A outer s H E).K := T.kf
  exact ⟨_, (pssd_cons (psd_setO (i := 2) nd rfl (by first | exact .inl rfl | exact .inr rfl) (pf_rep (pd_lst (pad_cons pd_int pad_nil)) (pd_callB (call_max2 rfl) callD_max2 (by rfl) T.b_max bb_max (pad_cons pd_int (pad_cons (pd_op op_sub opD_sub (pd_op op_addD opD_add (pd_callB call_len_seq callD_len (by rfl) T.b_len bb_len (pad_cons (pd_var (pv 0)) pad_nil)) (pd_callB call_len_seq callD_len (by rfl) T.b_len bb_len (pad_cons (pd_var (pv 1)) pad_nil))) pd_int) pad_nil)))))
    (pssd_cons (psd_for hp hc (pid_rng1 (by rfl) T.b_range (pad_cons (pd_callB call_len_seq callD_len (by rfl) T.b_len bb_len (pad_cons (pd_var (pv 0)) pad_nil)) pad_nil)) (pgd_name (i := 3) nd rfl (by first | exact .inl rfl | exact .inr rfl)) (pssd_one (psd_for hp hc (pid_rng1 (by rfl) T.b_range (pad_cons (pd_callB call_len_seq callD_len (by rfl) T.b_len bb_len (pad_cons (pd_var (pv 1)) pad_nil)) pad_nil)) (pgd_name (i := 4) nd rfl (by first | exact .inl rfl | exact .inr rfl)) (pssd_one (psd_stO (pv 2) (pd_op op_addD opD_add (pd_ixO (pv 2) (pd_op op_addD opD_add (pd_var (pv 3)) (pd_var (pv 4))) (fun _ _ => rfl)) (pd_op op_mulD opD_mul (pd_ix ixR_D opD_ix (pd_var (pv 0)) (pd_var (pv 3)) (fun _ _ => rfl)) (pd_ix ixR_D opD_ix (pd_var (pv 1)) (pd_var (pv 4)) (fun _ _ => rfl)))) (pd_op op_addD opD_add (pd_var (pv 3)) (pd_var (pv 4))))))))
    (pssd_frz 2 (pssd_one (psd_ret (pd_callD (d__law_cut T) (hr.mono (by decide)) (by rfl) hx (pad_cons (pd_var (pv 2)) pad_nil)))))))⟩
theorem sc__law_add : FnScope ["_law_one", "_law_other", "_law_many", "_law_low", "_law_high"] ["_law_one", "_law_other"] (defScope s__law_add) := ⟨rfl, rfl, rfl, by decide +kernel, rfl, by decide +kernel, by decide +kernel⟩
def le__law_add_0 : GE := (gBin dAdd (gVar 3) (gVar 4))
def g__law_add : GS := (gSeq (gSet 2 (gCall dMax2 (gaCons (gCall dLen (gaCons (gVar 0) gaNil)) (gaCons (gCall dLen (gaCons (gVar 1) gaNil)) gaNil))))
    (gRet (gApp 1 G__law_cut (gaCons (gL (gLc (giArg dZip (gaCons (gBin dAdd (gCall dToLst (gaCons (gVar 0) gaNil)) (gBin dMul (gDisp .list (gaCons (gC (.int 0)) gaNil)) (gBin (fI0 fun i j => i - j) (gVar 2) (gCall dLen (gaCons (gVar 0) gaNil))))) (gaCons (gBin dAdd (gCall dToLst (gaCons (gVar 1) gaNil)) (gBin dMul (gDisp .list (gaCons (gC (.int 0)) gaNil)) (gBin (fI0 fun i j => i - j) (gVar 2) (gCall dLen (gaCons (gVar 1) gaNil))))) gaNil))) [3, 4] (ggTup 2 (ggCons (ggName 3) (ggCons (ggName 4) ggNil))) gYes le__law_add_0)) gaNil))))
def G__law_add : GF := gFn 5 g__law_add
theorem d__law_add (T : Txt P w F mg base K) : DefOk P w F mg base K "_law_add" 2 2 G__law_add := by
  obtain ⟨f, fd, Fn, hm, hb⟩ := T.f__law_add
  refine ⟨f, fd, ["_law_one", "_law_other"], ok_def (N := ["_law_one", "_law_other", "_law_many", "_law_low", "_law_high"]) (g := g__law_add) Fn sc__law_add ?body, hm, Fn.kp, hb⟩
  intro cdv A outer s H E hr
  have nd := sc__law_add.nd
  have hu := hr.units
  have tk : Takes (cxOf (L2.CX P w) P w F mg base ["_law_one", "_law_other", "_law_many", "_law_low", "_law_high"] "_law_add" (defScope s__law_add) f cdv A outer s H E) (fun cls d _ H => E cls d H) := takes_of rfl rfl rfl rfl
  have hx : Passes (L2.CX P w) (cxOf (L2.CX P w) P w F mg base ["_law_one", "_law_other", "_law_many", "_law_low", "_law_high"] "_law_add" (defScope s__law_add) f cdv A outer s H E) E := passes_call tk fun _ _ _ _ h => h
  have hp : PassesOwn (model P w) (cxOf (L2.CX P w) P w F mg base ["_law_one", "_law_other", "_law_many", "_law_low", "_law_high"] "_law_add" (defScope s__law_add) f cdv A outer s H E).A (cxOf (L2.CX P w) P w F mg base ["_law_one", "_law_other", "_law_many", "_law_low", "_law_high"] "_law_add" (defScope s__law_add) f cdv A outer s H E).env (cxOf (L2.CX P w) P w F mg base ["_law_one", "_law_other", "_law_many", "_law_low", "_law_high"] "_law_add" (defScope s__law_add) f cdv A outer s H E).xe := passes_of rfl
  have hc : (cxOf (L2.CX P w) P w F mg base ["_law_one", "_law_other", "_law_many", "_law_low", "_law_high"] "_law_add" (defScope s__law_add) f cdv A outer s H E).calm = true := rfl
  have hKF : K.F = (cxOf (L2.CX P w) P w F mg base ["_law_one", "_law_other", "_law_many", "_law_low", "_law_high"] "_law_add" (defScope s__law_add) f cdv A outer s H E).K := T.kf
  exact ⟨_, (pssd_cons (psd_set (i := 2) nd rfl (by first | exact .inl rfl | exact .inr rfl) (pd_callB (call_max2 rfl) callD_max2 (by rfl) T.b_max bb_max (pad_cons (pd_callB call_len_seq callD_len (by rfl) T.b_len bb_len (pad_cons (pd_var (pv 0)) pad_nil)) (pad_cons (pd_callB call_len_seq callD_len (by rfl) T.b_len bb_len (pad_cons (pd_var (pv 1)) pad_nil)) pad_nil))))
    (pssd_one (psd_ret (pd_callD (d__law_cut T) (hr.mono (by decide)) (by rfl) hx (pad_cons (PFD.toD (pf_lc (own := [("_law_low", 3), ("_law_high", 4)]) (ws := [3, 4]) hc nd (pid_zip (by rfl) T.b_zip (pad_cons (pd_op op_addD opD_add (pd_callTy call_list_of callD_list (by rfl) T.b_list bb_list (pad_cons (pd_var (pv 0)) pad_nil)) (pd_op op_mulD opD_mul (pd_lst (pad_cons pd_int pad_nil)) (pd_op op_sub opD_sub (pd_var (pv 2)) (pd_callB call_len_seq callD_len (by rfl) T.b_len bb_len (pad_cons (pd_var (pv 0)) pad_nil))))) (pad_cons (pd_op op_addD opD_add (pd_callTy call_list_of callD_list (by rfl) T.b_list bb_list (pad_cons (pd_var (pv 1)) pad_nil)) (pd_op op_mulD opD_mul (pd_lst (pad_cons pd_int pad_nil)) (pd_op op_sub opD_sub (pd_var (pv 2)) (pd_callB call_len_seq callD_len (by rfl) T.b_len bb_len (pad_cons (pd_var (pv 1)) pad_nil))))) pad_nil)) (fun h => RZ.pi_zipA (by rfl) T.b_zip h)) (blkOk_by (N := ["_law_one", "_law_other", "_law_many", "_law_low", "_law_high"]) (sc := defScope s__law_add) (by decide +kernel)) (fun _ _ _ _ _ => ⟨_, by exact (pgd_tup rfl (pgsd_cons (pgd_name (i := 3) nd rfl (by first | exact .inl rfl | exact .inr rfl)) (pgsd_cons (pgd_name (i := 4) nd rfl (by first | exact .inl rfl | exact .inr rfl)) pgsd_nil)))⟩) (fun _ _ _ _ _ => ⟨_, by exact ptsd_nil⟩) (fun _ _ _ _ _ => ⟨_, by exact (pd_op op_addD opD_add (pd_var (pv 3)) (pd_var (pv 4)))⟩))) pad_nil)))))⟩
theorem sc__law_power : FnScope ["_law_number", "_law_times", "_law_found", "_law_turn"] ["_law_number", "_law_times"] (defScope s__law_power) := ⟨rfl, rfl, rfl, by decide +kernel, rfl, by decide +kernel, by decide +kernel⟩
def fb__law_power_0 : GS := (gSet 2 (gBin dMul (gVar 2) (gVar 0)))
def g__law_power : GS := (gSeq (gSet 2 (gC (.int 1)))
    (gSeq (gFor (giArg dRng1 (gaCons (gVar 1) gaNil)) (ggName 3) fb__law_power_0)
    (gRet (gVar 2))))
def G__law_power : GF := gFn 4 g__law_power
theorem d__law_power (T : Txt P w F mg base K) : DefOk P w F mg base K "_law_power" 1 2 G__law_power := by
  obtain ⟨f, fd, Fn, hm, hb⟩ := T.f__law_power
  refine ⟨f, fd, ["_law_number", "_law_times"], ok_def (N := ["_law_number", "_law_times", "_law_found", "_law_turn"]) (g := g__law_power) Fn sc__law_power ?body, hm, Fn.kp, hb⟩
  intro cdv A outer s H E hr
  have nd := sc__law_power.nd
  have hu := hr.units
  have tk : Takes (cxOf (L2.CX P w) P w F mg base ["_law_number", "_law_times", "_law_found", "_law_turn"] "_law_power" (defScope s__law_power) f cdv A outer s H E) (fun cls d _ H => E cls d H) := takes_of rfl rfl rfl rfl
  have hx : Passes (L2.CX P w) (cxOf (L2.CX P w) P w F mg base ["_law_number", "_law_times", "_law_found", "_law_turn"] "_law_power" (defScope s__law_power) f cdv A outer s H E) E := passes_call tk fun _ _ _ _ h => h
  have hp : PassesOwn (model P w) (cxOf (L2.CX P w) P w F mg base ["_law_number", "_law_times", "_law_found", "_law_turn"] "_law_power" (defScope s__law_power) f cdv A outer s H E).A (cxOf (L2.CX P w) P w F mg base ["_law_number", "_law_times", "_law_found", "_law_turn"] "_law_power" (defScope s__law_power) f cdv A outer s H E).env (cxOf (L2.CX P w) P w F mg base ["_law_number", "_law_times", "_law_found", "_law_turn"] "_law_power" (defScope s__law_power) f cdv A outer s H E).xe := passes_of rfl
  have hc : (cxOf (L2.CX P w) P w F mg base ["_law_number", "_law_times", "_law_found", "_law_turn"] "_law_power" (defScope s__law_power) f cdv A outer s H E).calm = true := rfl
  have hKF : K.F = (cxOf (L2.CX P w) P w F mg base ["_law_number", "_law_times", "_law_found", "_law_turn"] "_law_power" (defScope s__law_power) f cdv A outer s H E).K := T.kf
  exact ⟨_, (pssd_cons (psd_set (i := 2) nd rfl (by first | exact .inl rfl | exact .inr rfl) pd_int)
    (pssd_cons (psd_for hp hc (pid_rng1 (by rfl) T.b_range (pad_cons (pd_var (pv 1)) pad_nil)) (pgd_name (i := 3) nd rfl (by first | exact .inl rfl | exact .inr rfl)) (pssd_one (psd_set (i := 2) nd rfl (by first | exact .inl rfl | exact .inr rfl) (pd_op op_mulD opD_mul (pd_var (pv 2)) (pd_var (pv 0))))))
    (pssd_one (psd_ret (pd_var (pv 2))))))⟩
theorem sc__law_val : FnScope ["_law_line_here", "_law_number", "_law_at"] ["_law_line_here", "_law_number"] (defScope s__law_val) := ⟨rfl, rfl, rfl, by decide +kernel, rfl, by decide +kernel, by decide +kernel⟩
def le__law_val_0 : GE := (gBin dMul (gBin dIx (gVar 0) (gVar 2)) (gApp 2 G__law_power (gaCons (gVar 1) (gaCons (gVar 2) gaNil))))
def g__law_val : GS := (gRet (gCall dSum (gaCons (gL (gLc (giArg dRng1 (gaCons (gCall dLen (gaCons (gVar 0) gaNil)) gaNil)) [2] (ggName 2) gYes le__law_val_0)) gaNil)))
def G__law_val : GF := gFn 3 g__law_val
theorem d__law_val (T : Txt P w F mg base K) : DefOk P w F mg base K "_law_val" 2 2 G__law_val := by
  obtain ⟨f, fd, Fn, hm, hb⟩ := T.f__law_val
  refine ⟨f, fd, ["_law_line_here", "_law_number"], ok_def (N := ["_law_line_here", "_law_number", "_law_at"]) (g := g__law_val) Fn sc__law_val ?body, hm, Fn.kp, hb⟩
  intro cdv A outer s H E hr
  have nd := sc__law_val.nd
  have hu := hr.units
  have tk : Takes (cxOf (L2.CX P w) P w F mg base ["_law_line_here", "_law_number", "_law_at"] "_law_val" (defScope s__law_val) f cdv A outer s H E) (fun cls d _ H => E cls d H) := takes_of rfl rfl rfl rfl
  have hx : Passes (L2.CX P w) (cxOf (L2.CX P w) P w F mg base ["_law_line_here", "_law_number", "_law_at"] "_law_val" (defScope s__law_val) f cdv A outer s H E) E := passes_call tk fun _ _ _ _ h => h
  have hp : PassesOwn (model P w) (cxOf (L2.CX P w) P w F mg base ["_law_line_here", "_law_number", "_law_at"] "_law_val" (defScope s__law_val) f cdv A outer s H E).A (cxOf (L2.CX P w) P w F mg base ["_law_line_here", "_law_number", "_law_at"] "_law_val" (defScope s__law_val) f cdv A outer s H E).env (cxOf (L2.CX P w) P w F mg base ["_law_line_here", "_law_number", "_law_at"] "_law_val" (defScope s__law_val) f cdv A outer s H E).xe := passes_of rfl
  have hc : (cxOf (L2.CX P w) P w F mg base ["_law_line_here", "_law_number", "_law_at"] "_law_val" (defScope s__law_val) f cdv A outer s H E).calm = true := rfl
  have hKF : K.F = (cxOf (L2.CX P w) P w F mg base ["_law_line_here", "_law_number", "_law_at"] "_law_val" (defScope s__law_val) f cdv A outer s H E).K := T.kf
  exact ⟨_, (pssd_one (psd_ret (pd_callB (cr_sum rfl) callD_sum (by rfl) T.b_sum bb_sum (pad_cons (PFD.toD (pf_lc (own := [("_law_at", 2)]) (ws := [2]) hc nd (pid_rng1 (by rfl) T.b_range (pad_cons (pd_callB call_len_seq callD_len (by rfl) T.b_len bb_len (pad_cons (pd_var (pv 0)) pad_nil)) pad_nil)) (blkOk_by (N := ["_law_line_here", "_law_number", "_law_at"]) (sc := defScope s__law_val) (by decide +kernel)) (fun _ _ _ _ _ => ⟨_, by exact (pgd_name (i := 2) nd rfl (by first | exact .inl rfl | exact .inr rfl))⟩) (fun _ _ _ _ _ => ⟨_, by exact ptsd_nil⟩) (fun _ _ _ _ _ => ⟨_, by exact (pd_op op_mulD opD_mul (pd_ix ixR_D opD_ix (pd_var (pv 0)) (pd_var (pv 2)) (fun _ _ => rfl)) (pd_callD (d__law_power T) (hr.mono (by decide)) (by rfl) passL (pad_cons (pd_var (pv 1)) (pad_cons (pd_var (pv 2)) pad_nil))))⟩))) pad_nil))))⟩
theorem sc__law_cont : FnScope ["_law_line_here", "_law_found", "_law_number"] ["_law_line_here"] (defScope s__law_cont) := ⟨rfl, rfl, rfl, by decide +kernel, rfl, by decide +kernel, by decide +kernel⟩
def fb__law_cont_0 : GS := (gSet 1 (gApp 2 G__law_common (gaCons (gVar 1) (gaCons (gVar 2) gaNil))))
def g__law_cont : GS := (gSeq (gSet 1 (gC (.int 0)))
    (gSeq (gFor (giTup (gVar 0)) (ggName 2) fb__law_cont_0)
    (gRet (gIfE (gAnd (gBool (gBin dNe (gVar 0) (gDisp .tuple gaNil))) (gBool (gBin (fB0 fun i j => decide (i < j)) (gBin dIx (gVar 0) (gUn dNeg (gC (.int 1)))) (gC (.int 0))))) (gBin (fI0 fun i j => i - j) (gC (.int 0)) (gVar 1)) (gVar 1)))))
def G__law_cont : GF := gFn 3 g__law_cont
theorem d__law_cont (T : Txt P w F mg base K) : DefOk P w F mg base K "_law_cont" 2 1 G__law_cont := by
  obtain ⟨f, fd, Fn, hm, hb⟩ := T.f__law_cont
  refine ⟨f, fd, ["_law_line_here"], ok_def (N := ["_law_line_here", "_law_found", "_law_number"]) (g := g__law_cont) Fn sc__law_cont ?body, hm, Fn.kp, hb⟩
  intro cdv A outer s H E hr
  have nd := sc__law_cont.nd
  have hu := hr.units
  have tk : Takes (cxOf (L2.CX P w) P w F mg base ["_law_line_here", "_law_found", "_law_number"] "_law_cont" (defScope s__law_cont) f cdv A outer s H E) (fun cls d _ H => E cls d H) := takes_of rfl rfl rfl rfl
  have hx : Passes (L2.CX P w) (cxOf (L2.CX P w) P w F mg base ["_law_line_here", "_law_found", "_law_number"] "_law_cont" (defScope s__law_cont) f cdv A outer s H E) E := passes_call tk fun _ _ _ _ h => h
  have hp : PassesOwn (model P w) (cxOf (L2.CX P w) P w F mg base ["_law_line_here", "_law_found", "_law_number"] "_law_cont" (defScope s__law_cont) f cdv A outer s H E).A (cxOf (L2.CX P w) P w F mg base ["_law_line_here", "_law_found", "_law_number"] "_law_cont" (defScope s__law_cont) f cdv A outer s H E).env (cxOf (L2.CX P w) P w F mg base ["_law_line_here", "_law_found", "_law_number"] "_law_cont" (defScope s__law_cont) f cdv A outer s H E).xe := passes_of rfl
  have hc : (cxOf (L2.CX P w) P w F mg base ["_law_line_here", "_law_found", "_law_number"] "_law_cont" (defScope s__law_cont) f cdv A outer s H E).calm = true := rfl
  have hKF : K.F = (cxOf (L2.CX P w) P w F mg base ["_law_line_here", "_law_found", "_law_number"] "_law_cont" (defScope s__law_cont) f cdv A outer s H E).K := T.kf
  exact ⟨_, (pssd_cons (psd_set (i := 1) nd rfl (by first | exact .inl rfl | exact .inr rfl) pd_int)
    (pssd_cons (psd_for hp hc (pid_tup (pd_var (pv 0))) (pgd_name (i := 2) nd rfl (by first | exact .inl rfl | exact .inr rfl)) (pssd_one (psd_set (i := 1) nd rfl (by first | exact .inl rfl | exact .inr rfl) (pd_callD (d__law_common T) (hr.mono (by decide)) (by rfl) hx (pad_cons (pd_var (pv 1)) (pad_cons (pd_var (pv 2)) pad_nil))))))
    (pssd_one (psd_ret (pd_ifExp (PWD.pt (pwd_and (ptd_cmp (op_neX hu) opD_ne (pd_var (pv 0)) (pd_tup pad_nil) (nomark _)) (pwd_and1 (ptd_cmp op_lt opD_lt (pd_ix ixR_D opD_ix (pd_var (pv 0)) (pd_neg pd_int) (fun _ _ => rfl)) pd_int (nomark _))))) (pd_op op_sub opD_sub pd_int (pd_var (pv 1))) (pd_var (pv 1)))))))⟩
theorem sc__law_prim : FnScope ["_law_line_here", "_law_number"] ["_law_line_here"] (defScope s__law_prim) := ⟨rfl, rfl, rfl, by decide +kernel, rfl, by decide +kernel, by decide +kernel⟩
def le__law_prim_0 : GE := (gBin (fI divOk fun i j => i.fdiv j) (gVar 1) (gApp 1 G__law_cont (gaCons (gVar 0) gaNil)))
def g__law_prim : GS := (gRet (gCall dToTup (gaCons (gL (gLc (giTup (gVar 0)) [1] (ggName 1) gYes le__law_prim_0)) gaNil)))
def G__law_prim : GF := gFn 2 g__law_prim
theorem d__law_prim (T : Txt P w F mg base K) : DefOk P w F mg base K "_law_prim" 3 1 G__law_prim := by
  obtain ⟨f, fd, Fn, hm, hb⟩ := T.f__law_prim
  refine ⟨f, fd, ["_law_line_here"], ok_def (N := ["_law_line_here", "_law_number"]) (g := g__law_prim) Fn sc__law_prim ?body, hm, Fn.kp, hb⟩
  intro cdv A outer s H E hr
  have nd := sc__law_prim.nd
  have hu := hr.units
  have tk : Takes (cxOf (L2.CX P w) P w F mg base ["_law_line_here", "_law_number"] "_law_prim" (defScope s__law_prim) f cdv A outer s H E) (fun cls d _ H => E cls d H) := takes_of rfl rfl rfl rfl
  have hx : Passes (L2.CX P w) (cxOf (L2.CX P w) P w F mg base ["_law_line_here", "_law_number"] "_law_prim" (defScope s__law_prim) f cdv A outer s H E) E := passes_call tk fun _ _ _ _ h => h
  have hp : PassesOwn (model P w) (cxOf (L2.CX P w) P w F mg base ["_law_line_here", "_law_number"] "_law_prim" (defScope s__law_prim) f cdv A outer s H E).A (cxOf (L2.CX P w) P w F mg base ["_law_line_here", "_law_number"] "_law_prim" (defScope s__law_prim) f cdv A outer s H E).env (cxOf (L2.CX P w) P w F mg base ["_law_line_here", "_law_number"] "_law_prim" (defScope s__law_prim) f cdv A outer s H E).xe := passes_of rfl
  have hc : (cxOf (L2.CX P w) P w F mg base ["_law_line_here", "_law_number"] "_law_prim" (defScope s__law_prim) f cdv A outer s H E).calm = true := rfl
  have hKF : K.F = (cxOf (L2.CX P w) P w F mg base ["_law_line_here", "_law_number"] "_law_prim" (defScope s__law_prim) f cdv A outer s H E).K := T.kf
  exact ⟨_, (pssd_one (psd_ret (pd_callTy call_tuple_of callD_tuple (by rfl) T.b_tuple bb_tuple (pad_cons (PFD.toD (pf_lc (own := [("_law_number", 1)]) (ws := [1]) hc nd (pid_tup (pd_var (pv 0))) (blkOk_by (N := ["_law_line_here", "_law_number"]) (sc := defScope s__law_prim) (by decide +kernel)) (fun _ _ _ _ _ => ⟨_, by exact (pgd_name (i := 1) nd rfl (by first | exact .inl rfl | exact .inr rfl))⟩) (fun _ _ _ _ _ => ⟨_, by exact ptsd_nil⟩) (fun _ _ _ _ _ => ⟨_, by exact (pd_op op_divD opD_div (pd_var (pv 1)) (pd_callD (d__law_cont T) (hr.mono (by decide)) (by rfl) passL (pad_cons (pd_var (pv 0)) pad_nil)))⟩))) pad_nil))))⟩
theorem sc__law_int : FnScope ["_law_cup_here"] ["_law_cup_here"] (defScope s__law_int) := ⟨rfl, rfl, rfl, by decide +kernel, rfl, by decide +kernel, by decide +kernel⟩
def g__law_int : GS := (gRet (gApp 2 G__law_some (gaCup 0 (gaCons (gSlice (gDisp .list (gaCons (gC (.int 0)) (gaCons (gC (.int 1)) (gaCons (gUn dNeg (gC (.int 1))) (gaCons (gC (.int 2)) (gaCons (gUn dNeg (gC (.int 2))) (gaCons (gC (.int 3)) (gaCons (gUn dNeg (gC (.int 3))) (gaCons (gC (.int 5)) (gaCons (gUn dNeg (gC (.int 6))) (gaCons (gC (.int 12)) (gaCons (gC (.int 60)) (gaCons (gUn dNeg (gC (.int 100))) (gaCons (gBin (fI powOk fun i j => i ^ j.toNat) (gC (.int 10)) (gC (.int 6))) (gaCons (gBin (fI0 fun i j => i - j) (gC (.int 7)) (gBin (fI powOk fun i j => i ^ j.toNat) (gC (.int 10)) (gC (.int 20)))) gaNil))))))))))))))) gNoPart (gPart (gApp 2 G__law_some (gaCup 0 (gaCons (gDisp .list (gaCons (gC (.int 8)) (gaCons (gC (.int 11)) (gaCons (gC (.int 14)) gaNil)))) gaNil))))) gaNil))))
def G__law_int : GF := gFn 1 g__law_int
theorem d__law_int (T : Txt P w F mg base K) : DefOk P w F mg base K "_law_int" 3 1 G__law_int := by
  obtain ⟨f, fd, Fn, hm, hb⟩ := T.f__law_int
  refine ⟨f, fd, ["_law_cup_here"], ok_def (N := ["_law_cup_here"]) (g := g__law_int) Fn sc__law_int ?body, hm, Fn.kp, hb⟩
  intro cdv A outer s H E hr
  have nd := sc__law_int.nd
  have hu := hr.units
  have tk : Takes (cxOf (L2.CX P w) P w F mg base ["_law_cup_here"] "_law_int" (defScope s__law_int) f cdv A outer s H E) (fun cls d _ H => E cls d H) := takes_of rfl rfl rfl rfl
  have hx : Passes (L2.CX P w) (cxOf (L2.CX P w) P w F mg base ["_law_cup_here"] "_law_int" (defScope s__law_int) f cdv A outer s H E) E := passes_call tk fun _ _ _ _ h => h
  have hp : PassesOwn (model P w) (cxOf (L2.CX P w) P w F mg base ["_law_cup_here"] "_law_int" (defScope s__law_int) f cdv A outer s H E).A (cxOf (L2.CX P w) P w F mg base ["_law_cup_here"] "_law_int" (defScope s__law_int) f cdv A outer s H E).env (cxOf (L2.CX P w) P w F mg base ["_law_cup_here"] "_law_int" (defScope s__law_int) f cdv A outer s H E).xe := passes_of rfl
  have hc : (cxOf (L2.CX P w) P w F mg base ["_law_cup_here"] "_law_int" (defScope s__law_int) f cdv A outer s H E).calm = true := rfl
  have hKF : K.F = (cxOf (L2.CX P w) P w F mg base ["_law_cup_here"] "_law_int" (defScope s__law_int) f cdv A outer s H E).K := T.kf
  exact ⟨_, (pssd_one (psd_ret (pd_callD (d__law_some T) (hr.mono (by decide)) (by rfl) hx (pad_cup (pv 0) (pad_cons (pd_slice (pd_lst (pad_cons pd_int (pad_cons pd_int (pad_cons (pd_neg pd_int) (pad_cons pd_int (pad_cons (pd_neg pd_int) (pad_cons pd_int (pad_cons (pd_neg pd_int) (pad_cons pd_int (pad_cons (pd_neg pd_int) (pad_cons pd_int (pad_cons pd_int (pad_cons (pd_neg pd_int) (pad_cons (pd_op op_pow opD_pow pd_int pd_int) (pad_cons (pd_op op_sub opD_sub pd_int (pd_op op_pow opD_pow pd_int pd_int)) pad_nil))))))))))))))) pod_none (pod_some (pd_callD (d__law_some T) (hr.mono (by decide)) (by rfl) hx (pad_cup (pv 0) (pad_cons (pd_lst (pad_cons pd_int (pad_cons pd_int (pad_cons pd_int pad_nil)))) pad_nil))))) pad_nil)))))⟩
theorem sc__law_line : FnScope ["_law_cup_here", "_law_degree", "_law_at"] ["_law_cup_here", "_law_degree"] (defScope s__law_line) := ⟨rfl, rfl, rfl, by decide +kernel, rfl, by decide +kernel, by decide +kernel⟩
def le__law_line_0 : GE := (gApp 1 G__law_int (gaCup 0 gaNil))
def g__law_line : GS := (gRet (gApp 1 G__law_cut (gaCons (gL (gLc (giArg dRng1 (gaCons (gBin dAdd (gVar 1) (gC (.int 1))) gaNil)) [2] (ggName 2) gYes le__law_line_0)) gaNil)))
def G__law_line : GF := gFn 3 g__law_line
theorem d__law_line (T : Txt P w F mg base K) : DefOk P w F mg base K "_law_line" 4 2 G__law_line := by
  obtain ⟨f, fd, Fn, hm, hb⟩ := T.f__law_line
  refine ⟨f, fd, ["_law_cup_here", "_law_degree"], ok_def (N := ["_law_cup_here", "_law_degree", "_law_at"]) (g := g__law_line) Fn sc__law_line ?body, hm, Fn.kp, hb⟩
  intro cdv A outer s H E hr
  have nd := sc__law_line.nd
  have hu := hr.units
  have tk : Takes (cxOf (L2.CX P w) P w F mg base ["_law_cup_here", "_law_degree", "_law_at"] "_law_line" (defScope s__law_line) f cdv A outer s H E) (fun cls d _ H => E cls d H) := takes_of rfl rfl rfl rfl
  have hx : Passes (L2.CX P w) (cxOf (L2.CX P w) P w F mg base ["_law_cup_here", "_law_degree", "_law_at"] "_law_line" (defScope s__law_line) f cdv A outer s H E) E := passes_call tk fun _ _ _ _ h => h
  have hp : PassesOwn (model P w) (cxOf (L2.CX P w) P w F mg base ["_law_cup_here", "_law_degree", "_law_at"] "_law_line" (defScope s__law_line) f cdv A outer s H E).A (cxOf (L2.CX P w) P w F mg base ["_law_cup_here", "_law_degree", "_law_at"] "_law_line" (defScope s__law_line) f cdv A outer s H E).env (cxOf (L2.CX P w) P w F mg base ["_law_cup_here", "_law_degree", "_law_at"] "_law_line" (defScope s__law_line) f cdv A outer s H E).xe := passes_of rfl
  have hc : (cxOf (L2.CX P w) P w F mg base ["_law_cup_here", "_law_degree", "_law_at"] "_law_line" (defScope s__law_line) f cdv A outer s H E).calm = true := rfl
  have hKF : K.F = (cxOf (L2.CX P w) P w F mg base ["_law_cup_here", "_law_degree", "_law_at"] "_law_line" (defScope s__law_line) f cdv A outer s H E).K := T.kf
  exact ⟨_, (pssd_one (psd_ret (pd_callD (d__law_cut T) (hr.mono (by decide)) (by rfl) hx (pad_cons (PFD.toD (pf_lc (own := [("_law_at", 2)]) (ws := [2]) hc nd (pid_rng1 (by rfl) T.b_range (pad_cons (pd_op op_addD opD_add (pd_var (pv 1)) pd_int) pad_nil)) (blkOk_by (N := ["_law_cup_here", "_law_degree", "_law_at"]) (sc := defScope s__law_line) (by decide +kernel)) (fun _ _ _ _ _ => ⟨_, by exact (pgd_name (i := 2) nd rfl (by first | exact .inl rfl | exact .inr rfl))⟩) (fun _ _ _ _ _ => ⟨_, by exact ptsd_nil⟩) (fun _ _ _ _ _ => ⟨_, by exact (pd_callD (d__law_int T) (hr.mono (by decide)) (by rfl) passL (pad_cup (pv 0) pad_nil))⟩))) pad_nil))))⟩
theorem sc__law_quotient : FnScope ["_law_line_here", "_law_other", "_law_at", "_law_whole", "_law_rest", "_law_own", "_law_number"] ["_law_line_here", "_law_other"] (defScope s__law_quotient) := ⟨rfl, rfl, rfl, by decide +kernel, rfl, by decide +kernel, by decide +kernel⟩
def le__law_quotient_0 : GE := (gBin (fI0 fun i j => i - j) (gC (.int 0)) (gBin dMul (gIxO 3 (gVar 2)) (gVar 6)))
def fb__law_quotient_0 : GS := (gSeq (gSet 5 (gIfE (gBool (gBin (fB0 fun i j => decide (j ≤ i)) (gCall dLen (gaCons (gVar 4) gaNil)) (gBin dAdd (gVar 2) (gCall dLen (gaCons (gVar 1) gaNil))))) (gBin dIx (gVar 4) (gBin (fI0 fun i j => i - j) (gBin dAdd (gVar 2) (gCall dLen (gaCons (gVar 1) gaNil))) (gC (.int 1)))) (gC (.int 0))))
    (gSeq (gIf (gBool (gBin dNe (gBin (fI modOk fun i j => i.fmod j) (gCall dToInt (gaCons (gVar 5) gaNil)) (gCall dAbs (gaCons (gBin dIx (gVar 1) (gUn dNeg (gC (.int 1)))) gaNil))) (gC (.int 0)))) (gRet (gC .none)) gSkip)
    (gSeq (gStO 3 (gBin (fI divOk fun i j => i.fdiv j) (gVar 5) (gBin dIx (gVar 1) (gUn dNeg (gC (.int 1))))) (gVar 2))
    (gSet 4 (gApp 2 G__law_add (gaCons (gVar 4) (gaCons (gCall dToTup (gaCons (gBin dAdd (gBin dMul (gDisp .list (gaCons (gC (.int 0)) gaNil)) (gVar 2)) (gL (gLc (giTup (gVar 1)) [6] (ggName 6) gYes le__law_quotient_0))) gaNil)) gaNil)))))))
def ta__law_quotient_0 : GS := (gRet (gIfE (gBool (gBin dEq (gVar 4) (gDisp .tuple gaNil))) (gApp 1 G__law_cut (gaCons (gVar 3) gaNil)) (gC .none)))
def g__law_quotient : GS := (gSeq (gParO 3 4 (gfRep (gDisp .list (gaCons (gC (.int 0)) gaNil)) (gCall dMax2 (gaCons (gC (.int 0)) (gaCons (gBin dAdd (gBin (fI0 fun i j => i - j) (gCall dLen (gaCons (gVar 0) gaNil)) (gCall dLen (gaCons (gVar 1) gaNil))) (gC (.int 1))) gaNil)))) (gVar 0))
    (gSeq (gFor (giArg dRng3 (gaCons (gBin (fI0 fun i j => i - j) (gCall dLen (gaCons (gVar 0) gaNil)) (gCall dLen (gaCons (gVar 1) gaNil))) (gaCons (gUn dNeg (gC (.int 1))) (gaCons (gUn dNeg (gC (.int 1))) gaNil)))) (ggName 2) fb__law_quotient_0)
    (gFrz 3 ta__law_quotient_0)))
def G__law_quotient : GF := gFn 7 g__law_quotient
theorem d__law_quotient (T : Txt P w F mg base K) : DefOk P w F mg base K "_law_quotient" 3 2 G__law_quotient := by
  obtain ⟨f, fd, Fn, hm, hb⟩ := T.f__law_quotient
  refine ⟨f, fd, ["_law_line_here", "_law_other"], ok_def (N := ["_law_line_here", "_law_other", "_law_at", "_law_whole", "_law_rest", "_law_own", "_law_number"]) (g := g__law_quotient) Fn sc__law_quotient ?body, hm, Fn.kp, hb⟩
  intro cdv A outer s H E hr
  have nd := sc__law_quotient.nd
  have hu := hr.units
  have tk : Takes (cxOf (L2.CX P w) P w F mg base ["_law_line_here", "_law_other", "_law_at", "_law_whole", "_law_rest", "_law_own", "_law_number"] "_law_quotient" (defScope s__law_quotient) f cdv A outer s H E) (fun cls d _ H => E cls d H) := takes_of rfl rfl rfl rfl
  have hx : Passes (L2.CX P w) (cxOf (L2.CX P w) P w F mg base ["_law_line_here", "_law_other", "_law_at", "_law_whole", "_law_rest", "_law_own", "_law_number"] "_law_quotient" (defScope s__law_quotient) f cdv A outer s H E) E := passes_call tk fun _ _ _ _ h => h
  have hp : PassesOwn (model P w) (cxOf (L2.CX P w) P w F mg base ["_law_line_here", "_law_other", "_law_at", "_law_whole", "_law_rest", "_law_own", "_law_number"] "_law_quotient" (defScope s__law_quotient) f cdv A outer s H E).A (cxOf (L2.CX P w) P w F mg base ["_law_line_here", "_law_other", "_law_at", "_law_whole", "_law_rest", "_law_own", "_law_number"] "_law_quotient" (defScope s__law_quotient) f cdv A outer s H E).env (cxOf (L2.CX P w) P w F mg base ["_law_line_here", "_law_other", "_law_at", "_law_whole", "_law_rest", "_law_own", "_law_number"] "_law_quotient" (defScope s__law_quotient) f cdv A outer s H E).xe := passes_of rfl
  have hc : (cxOf (L2.CX P w) P w F mg base ["_law_line_here", "_law_other", "_law_at", "_law_whole", "_law_rest", "_law_own", "_law_number"] "_law_quotient" (defScope s__law_quotient) f cdv A outer s H E).calm = true := rfl
  have hKF : K.F = (cxOf (L2.CX P w) P w F mg base ["_law_line_here", "_law_other", "_law_at", "_law_whole", "_law_rest", "_law_own", "_law_number"] "_law_quotient" (defScope s__law_quotient) f cdv A outer s H E).K := T.kf
  exact ⟨_, (pssd_cons (psd_asgO (i := 3) (j := 4) hc nd rfl rfl (by decide) (by first | exact .inl rfl | exact .inr rfl) (by first | exact .inl rfl | exact .inr rfl) (pf_rep (pd_lst (pad_cons pd_int pad_nil)) (pd_callB (call_max2 rfl) callD_max2 (by rfl) T.b_max bb_max (pad_cons pd_int (pad_cons (pd_op op_addD opD_add (pd_op op_sub opD_sub (pd_callB call_len_seq callD_len (by rfl) T.b_len bb_len (pad_cons (pd_var (pv 0)) pad_nil)) (pd_callB call_len_seq callD_len (by rfl) T.b_len bb_len (pad_cons (pd_var (pv 1)) pad_nil))) pd_int) pad_nil)))) (pd_var (pv 0)))
    (pssd_cons (psd_for hp hc (pid_rng3 (by rfl) T.b_range (pad_cons (pd_op op_sub opD_sub (pd_callB call_len_seq callD_len (by rfl) T.b_len bb_len (pad_cons (pd_var (pv 0)) pad_nil)) (pd_callB call_len_seq callD_len (by rfl) T.b_len bb_len (pad_cons (pd_var (pv 1)) pad_nil))) (pad_cons (pd_neg pd_int) (pad_cons (pd_neg pd_int) pad_nil)))) (pgd_name (i := 2) nd rfl (by first | exact .inl rfl | exact .inr rfl)) (pssd_cons (psd_set (i := 5) nd rfl (by first | exact .inl rfl | exact .inr rfl) (pd_ifExp (ptd_cmp op_ge opD_ge (pd_callB call_len_seq callD_len (by rfl) T.b_len bb_len (pad_cons (pd_var (pv 4)) pad_nil)) (pd_op op_addD opD_add (pd_var (pv 2)) (pd_callB call_len_seq callD_len (by rfl) T.b_len bb_len (pad_cons (pd_var (pv 1)) pad_nil))) (nomark _)) (pd_ix ixR_D opD_ix (pd_var (pv 4)) (pd_op op_sub opD_sub (pd_op op_addD opD_add (pd_var (pv 2)) (pd_callB call_len_seq callD_len (by rfl) T.b_len bb_len (pad_cons (pd_var (pv 1)) pad_nil))) pd_int) (fun _ _ => rfl)) pd_int))
    (pssd_cons (psd_if (ptd_cmp (op_neX hu) opD_ne (pd_op op_modN opD_mod (pd_callTy call_int1 callD_int (by rfl) T.b_int bb_int (pad_cons (pd_var (pv 5)) pad_nil)) (pd_callB call_abs callD_abs (by rfl) T.b_abs bb_abs (pad_cons (pd_ix ixR_D opD_ix (pd_var (pv 1)) (pd_neg pd_int) (fun _ _ => rfl)) pad_nil))) pd_int (nomark _)) (pssd_one (psd_ret pd_non)) pssd_nil)
    (pssd_cons (psd_stO (pv 3) (pd_op op_divD opD_div (pd_var (pv 5)) (pd_ix ixR_D opD_ix (pd_var (pv 1)) (pd_neg pd_int) (fun _ _ => rfl))) (pd_var (pv 2)))
    (pssd_one (psd_set (i := 4) nd rfl (by first | exact .inl rfl | exact .inr rfl) (pd_callD (d__law_add T) (hr.mono (by decide)) (by rfl) hx (pad_cons (pd_var (pv 4)) (pad_cons (pd_callTy call_tuple_of callD_tuple (by rfl) T.b_tuple bb_tuple (pad_cons (pd_op op_addD opD_add (pd_op op_mulD opD_mul (pd_lst (pad_cons pd_int pad_nil)) (pd_var (pv 2))) (PFD.toD (pf_lc (own := [("_law_number", 6)]) (ws := [6]) hc nd (pid_tup (pd_var (pv 1))) (blkOk_by (N := ["_law_line_here", "_law_other", "_law_at", "_law_whole", "_law_rest", "_law_own", "_law_number"]) (sc := defScope s__law_quotient) (by decide +kernel)) (fun _ _ _ _ _ => ⟨_, by exact (pgd_name (i := 6) nd rfl (by first | exact .inl rfl | exact .inr rfl))⟩) (fun _ _ _ _ _ => ⟨_, by exact ptsd_nil⟩) (fun _ _ _ _ _ => ⟨_, by exact (pd_op op_sub opD_sub pd_int (pd_op op_mulD opD_mul (pd_ixO (pv 3) (pd_var (pv 2)) (fun _ _ => rfl)) (pd_var (pv 6))))⟩)))) pad_nil)) pad_nil)))))))))
    (pssd_frz 3 (pssd_one (psd_ret (pd_ifExp (ptd_cmp (op_eqX hu) opD_eq (pd_var (pv 4)) (pd_tup pad_nil) (nomark _)) (pd_callD (d__law_cut T) (hr.mono (by decide)) (by rfl) hx (pad_cons (pd_var (pv 3)) pad_nil)) pd_non))))))⟩
theorem sc__law_is : FnScope ["_law_value", "_law_one"] ["_law_value"] (defScope s__law_is) := ⟨rfl, rfl, rfl, by decide +kernel, rfl, by decide +kernel, by decide +kernel⟩
def le__law_is_0 : GE := (gC (.int 1))
def lt__law_is_0 : GT := (gOr (gTru (gIsi "bool" (gVar 1))) (gNot (gTru (gIsi "int" (gVar 1)))))
def g__law_is : GS := (gRet (gAndV (gIsi "tuple" (gVar 0)) (gBin dEq (gL (gLc (giTup (gVar 0)) [1] (ggName 1) lt__law_is_0 le__law_is_0)) (gDisp .list gaNil))))
def G__law_is : GF := gFn 2 g__law_is
theorem d__law_is (T : Txt P w F mg base K) : DefOk P w F mg base K "_law_is" 1 1 G__law_is := by
  obtain ⟨f, fd, Fn, hm, hb⟩ := T.f__law_is
  refine ⟨f, fd, ["_law_value"], ok_def (N := ["_law_value", "_law_one"]) (g := g__law_is) Fn sc__law_is ?body, hm, Fn.kp, hb⟩
  intro cdv A outer s H E hr
  have nd := sc__law_is.nd
  have hu := hr.units
  have tk : Takes (cxOf (L2.CX P w) P w F mg base ["_law_value", "_law_one"] "_law_is" (defScope s__law_is) f cdv A outer s H E) (fun cls d _ H => E cls d H) := takes_of rfl rfl rfl rfl
  have hx : Passes (L2.CX P w) (cxOf (L2.CX P w) P w F mg base ["_law_value", "_law_one"] "_law_is" (defScope s__law_is) f cdv A outer s H E) E := passes_call tk fun _ _ _ _ h => h
  have hp : PassesOwn (model P w) (cxOf (L2.CX P w) P w F mg base ["_law_value", "_law_one"] "_law_is" (defScope s__law_is) f cdv A outer s H E).A (cxOf (L2.CX P w) P w F mg base ["_law_value", "_law_one"] "_law_is" (defScope s__law_is) f cdv A outer s H E).env (cxOf (L2.CX P w) P w F mg base ["_law_value", "_law_one"] "_law_is" (defScope s__law_is) f cdv A outer s H E).xe := passes_of rfl
  have hc : (cxOf (L2.CX P w) P w F mg base ["_law_value", "_law_one"] "_law_is" (defScope s__law_is) f cdv A outer s H E).calm = true := rfl
  have hKF : K.F = (cxOf (L2.CX P w) P w F mg base ["_law_value", "_law_one"] "_law_is" (defScope s__law_is) f cdv A outer s H E).K := T.kf
  exact ⟨_, (pssd_one (psd_ret (pd_and (pd_isi (T := "tuple") (pd_var (pv 0)) (by rfl) T.b_isinstance (by rfl) T.b_tuple bb_tuple) (pd_one (pd_cmp (op_eqX hu) opD_eq (PFD.toD (pf_lc (own := [("_law_one", 1)]) (ws := [1]) hc nd (pid_tup (pd_var (pv 0))) (blkOk_by (N := ["_law_value", "_law_one"]) (sc := defScope s__law_is) (by decide +kernel)) (fun _ _ _ _ _ => ⟨_, by exact (pgd_name (i := 1) nd rfl (by first | exact .inl rfl | exact .inr rfl))⟩) (fun _ _ _ _ _ => ⟨_, by exact (ptsd_one (PWD.pt (pwd_or (ptd_truth (pd_isi (T := "bool") (pd_var (pv 1)) (by rfl) T.b_isinstance (by rfl) T.b_bool bb_bool)) (pwd_or1 (ptd_not (ptd_truth (pd_isi (T := "int") (pd_var (pv 1)) (by rfl) T.b_isinstance (by rfl) T.b_int bb_int)))))))⟩) (fun _ _ _ _ _ => ⟨_, by exact pd_int⟩))) (pd_lst pad_nil) (nomark _))))))⟩
theorem sc__law_fraction : FnScope ["_law_over", "_law_under", "_law_by"] ["_law_over", "_law_under"] (defScope s__law_fraction) := ⟨rfl, rfl, rfl, by decide +kernel, rfl, by decide +kernel, by decide +kernel⟩
def g__law_fraction : GS := (gSeq (gSet 2 (gBin dMul (gApp 2 G__law_common (gaCons (gVar 0) (gaCons (gVar 1) gaNil))) (gIfE (gBool (gBin (fB0 fun i j => decide (j < i)) (gVar 1) (gC (.int 0)))) (gC (.int 1)) (gUn dNeg (gC (.int 1))))))
    (gRet (gDisp .tuple (gaCons (gBin (fI divOk fun i j => i.fdiv j) (gVar 0) (gVar 2)) (gaCons (gBin (fI divOk fun i j => i.fdiv j) (gVar 1) (gVar 2)) gaNil)))))
def G__law_fraction : GF := gFn 3 g__law_fraction
theorem d__law_fraction (T : Txt P w F mg base K) : DefOk P w F mg base K "_law_fraction" 2 2 G__law_fraction := by
  obtain ⟨f, fd, Fn, hm, hb⟩ := T.f__law_fraction
  refine ⟨f, fd, ["_law_over", "_law_under"], ok_def (N := ["_law_over", "_law_under", "_law_by"]) (g := g__law_fraction) Fn sc__law_fraction ?body, hm, Fn.kp, hb⟩
  intro cdv A outer s H E hr
  have nd := sc__law_fraction.nd
  have hu := hr.units
  have tk : Takes (cxOf (L2.CX P w) P w F mg base ["_law_over", "_law_under", "_law_by"] "_law_fraction" (defScope s__law_fraction) f cdv A outer s H E) (fun cls d _ H => E cls d H) := takes_of rfl rfl rfl rfl
  have hx : Passes (L2.CX P w) (cxOf (L2.CX P w) P w F mg base ["_law_over", "_law_under", "_law_by"] "_law_fraction" (defScope s__law_fraction) f cdv A outer s H E) E := passes_call tk fun _ _ _ _ h => h
  have hp : PassesOwn (model P w) (cxOf (L2.CX P w) P w F mg base ["_law_over", "_law_under", "_law_by"] "_law_fraction" (defScope s__law_fraction) f cdv A outer s H E).A (cxOf (L2.CX P w) P w F mg base ["_law_over", "_law_under", "_law_by"] "_law_fraction" (defScope s__law_fraction) f cdv A outer s H E).env (cxOf (L2.CX P w) P w F mg base ["_law_over", "_law_under", "_law_by"] "_law_fraction" (defScope s__law_fraction) f cdv A outer s H E).xe := passes_of rfl
  have hc : (cxOf (L2.CX P w) P w F mg base ["_law_over", "_law_under", "_law_by"] "_law_fraction" (defScope s__law_fraction) f cdv A outer s H E).calm = true := rfl
  have hKF : K.F = (cxOf (L2.CX P w) P w F mg base ["_law_over", "_law_under", "_law_by"] "_law_fraction" (defScope s__law_fraction) f cdv A outer s H E).K := T.kf
  exact ⟨_, (pssd_cons (psd_set (i := 2) nd rfl (by first | exact .inl rfl | exact .inr rfl) (pd_op op_mulD opD_mul (pd_callD (d__law_common T) (hr.mono (by decide)) (by rfl) hx (pad_cons (pd_var (pv 0)) (pad_cons (pd_var (pv 1)) pad_nil))) (pd_ifExp (ptd_cmp op_gt opD_gt (pd_var (pv 1)) pd_int (nomark _)) pd_int (pd_neg pd_int))))
    (pssd_one (psd_ret (pd_tup (pad_cons (pd_op op_divD opD_div (pd_var (pv 0)) (pd_var (pv 2))) (pad_cons (pd_op op_divD opD_div (pd_var (pv 1)) (pd_var (pv 2))) pad_nil))))))⟩
theorem sc__law_cleared : FnScope ["_law_line_here", "_law_under", "_law_number", "_law_whole"] ["_law_line_here"] (defScope s__law_cleared) := ⟨rfl, rfl, rfl, by decide +kernel, rfl, by decide +kernel, by decide +kernel⟩
def fb__law_cleared_0 : GS := (gSet 1 (gBin dMul (gVar 1) (gBin dIx (gVar 2) (gC (.int 1)))))
def le__law_cleared_0 : GE := (gBin dMul (gBin dIx (gVar 2) (gC (.int 0))) (gBin (fI divOk fun i j => i.fdiv j) (gVar 1) (gBin dIx (gVar 2) (gC (.int 1)))))
def g__law_cleared : GS := (gSeq (gSet 1 (gC (.int 1)))
    (gSeq (gFor (giTup (gVar 0)) (ggName 2) fb__law_cleared_0)
    (gSeq (gSet 3 (gCall dToTup (gaCons (gL (gLc (giTup (gVar 0)) [2] (ggName 2) gYes le__law_cleared_0)) gaNil)))
    (gRet (gDisp .tuple (gaCons (gApp 2 G__law_fraction (gaCons (gApp 1 G__law_cont (gaCons (gVar 3) gaNil)) (gaCons (gVar 1) gaNil))) (gaCons (gApp 1 G__law_prim (gaCons (gVar 3) gaNil)) gaNil)))))))
def G__law_cleared : GF := gFn 4 g__law_cleared
theorem d__law_cleared (T : Txt P w F mg base K) : DefOk P w F mg base K "_law_cleared" 4 1 G__law_cleared := by
  obtain ⟨f, fd, Fn, hm, hb⟩ := T.f__law_cleared
  refine ⟨f, fd, ["_law_line_here"], ok_def (N := ["_law_line_here", "_law_under", "_law_number", "_law_whole"]) (g := g__law_cleared) Fn sc__law_cleared ?body, hm, Fn.kp, hb⟩
  intro cdv A outer s H E hr
  have nd := sc__law_cleared.nd
  have hu := hr.units
  have tk : Takes (cxOf (L2.CX P w) P w F mg base ["_law_line_here", "_law_under", "_law_number", "_law_whole"] "_law_cleared" (defScope s__law_cleared) f cdv A outer s H E) (fun cls d _ H => E cls d H) := takes_of rfl rfl rfl rfl
  have hx : Passes (L2.CX P w) (cxOf (L2.CX P w) P w F mg base ["_law_line_here", "_law_under", "_law_number", "_law_whole"] "_law_cleared" (defScope s__law_cleared) f cdv A outer s H E) E := passes_call tk fun _ _ _ _ h => h
  have hp : PassesOwn (model P w) (cxOf (L2.CX P w) P w F mg base ["_law_line_here", "_law_under", "_law_number", "_law_whole"] "_law_cleared" (defScope s__law_cleared) f cdv A outer s H E).A (cxOf (L2.CX P w) P w F mg base ["_law_line_here", "_law_under", "_law_number", "_law_whole"] "_law_cleared" (defScope s__law_cleared) f cdv A outer s H E).env (cxOf (L2.CX P w) P w F mg base ["_law_line_here", "_law_under", "_law_number", "_law_whole"] "_law_cleared" (defScope s__law_cleared) f cdv A outer s H E).xe := passes_of rfl
  have hc : (cxOf (L2.CX P w) P w F mg base ["_law_line_here", "_law_under", "_law_number", "_law_whole"] "_law_cleared" (defScope s__law_cleared) f cdv A outer s H E).calm = true := rfl
  have hKF : K.F = (cxOf (L2.CX P w) P w F mg base ["_law_line_here", "_law_under", "_law_number", "_law_whole"] "_law_cleared" (defScope s__law_cleared) f cdv A outer s H E).K := T.kf
  exact ⟨_, (pssd_cons (psd_set (i := 1) nd rfl (by first | exact .inl rfl | exact .inr rfl) pd_int)
    (pssd_cons (psd_for hp hc (pid_tup (pd_var (pv 0))) (pgd_name (i := 2) nd rfl (by first | exact .inl rfl | exact .inr rfl)) (pssd_one (psd_set (i := 1) nd rfl (by first | exact .inl rfl | exact .inr rfl) (pd_op op_mulD opD_mul (pd_var (pv 1)) (pd_ix ixR_D opD_ix (pd_var (pv 2)) pd_int (fun _ _ => rfl))))))
    (pssd_cons (psd_set (i := 3) nd rfl (by first | exact .inl rfl | exact .inr rfl) (pd_callTy call_tuple_of callD_tuple (by rfl) T.b_tuple bb_tuple (pad_cons (PFD.toD (pf_lc (own := [("_law_number", 2)]) (ws := [2]) hc nd (pid_tup (pd_var (pv 0))) (blkOk_by (N := ["_law_line_here", "_law_under", "_law_number", "_law_whole"]) (sc := defScope s__law_cleared) (by decide +kernel)) (fun _ _ _ _ _ => ⟨_, by exact (pgd_name (i := 2) nd rfl (by first | exact .inl rfl | exact .inr rfl))⟩) (fun _ _ _ _ _ => ⟨_, by exact ptsd_nil⟩) (fun _ _ _ _ _ => ⟨_, by exact (pd_op op_mulD opD_mul (pd_ix ixR_D opD_ix (pd_var (pv 2)) pd_int (fun _ _ => rfl)) (pd_op op_divD opD_div (pd_var (pv 1)) (pd_ix ixR_D opD_ix (pd_var (pv 2)) pd_int (fun _ _ => rfl))))⟩))) pad_nil)))
    (pssd_one (psd_ret (pd_tup (pad_cons (pd_callD (d__law_fraction T) (hr.mono (by decide)) (by rfl) hx (pad_cons (pd_callD (d__law_cont T) (hr.mono (by decide)) (by rfl) hx (pad_cons (pd_var (pv 3)) pad_nil)) (pad_cons (pd_var (pv 1)) pad_nil))) (pad_cons (pd_callD (d__law_prim T) (hr.mono (by decide)) (by rfl) hx (pad_cons (pd_var (pv 3)) pad_nil)) pad_nil))))))))⟩
end
end Prog

set_option Elab.async false
set_option linter.all false
set_option maxRecDepth 100000
set_option maxHeartbeats 4000000
set_option autoImplicit false
namespace Prog
open PySem PySem.Spec PyProof.Rows L2 DL
section
variable {P : Program} {w : World} {F : PySem.W.Frag} {mg : Str → Option Value} {base : Heap} {K : Kx}
theorem sc_law : FnScope ["_law_script", "_law_cup_here", "_law_turn", "_law_product", "_law_told", "_law_at", "_law_small", "_law_parts", "_law_left", "_law_right", "_law_one", "_law_other", "_law_near", "_law_line_here", "_law_number"] ["_law_script"] (defScope s_law) := ⟨rfl, rfl, rfl, by decide +kernel, rfl, by decide +kernel, by decide +kernel⟩
def le_law_0 : GE := (gBin (fI0 fun i j => i - j) (gBin (fI modOk fun i j => i.fmod j) (gCall dToInt (gaCons (gBin dAdd (gVar 14) (gC (.int 50))) gaNil)) (gC (.int 101))) (gC (.int 50)))
def le_law_1 : GE := (gBin (fI0 fun i j => i - j) (gBin (fI modOk fun i j => i.fmod j) (gCall dToInt (gaCons (gBin dAdd (gVar 14) (gC (.int 50))) gaNil)) (gC (.int 101))) (gC (.int 50)))
def fb_law_0 : GS := (gIf (gBool (gBin dNe (gApp 2 G_whole_divided_wholelines (gaCons (gVar 13) (gaCons (gVar 6) gaNil))) (gApp 2 G__law_quotient (gaCons (gVar 13) (gaCons (gVar 6) gaNil))))) (gRet (gC (.bool false))) gSkip)
def le_law_2 : GE := (gApp 2 G__law_fraction (gaCons (gIfE (gBool (gBin (fB0 fun i j => decide (i < j)) (gCall dAbs (gaCons (gVar 14) gaNil)) (gBin (fI powOk fun i j => i ^ j.toNat) (gC (.int 10)) (gC (.int 7))))) (gVar 14) (gC (.int 3))) (gaCons (gBin dAdd (gC (.int 1)) (gApp 2 G__law_roll (gaCup 1 (gaCons (gC (.int 6)) gaNil)))) gaNil)))
def fb_law_1 : GS := (gSeq (gPar 10 11 (gaCons (gApp 2 G__law_line (gaCup 1 (gaCons (gApp 2 G__law_roll (gaCup 1 (gaCons (gC (.int 5)) gaNil))) gaNil))) (gaCons (gApp 2 G__law_line (gaCup 1 (gaCons (gApp 2 G__law_roll (gaCup 1 (gaCons (gC (.int 4)) gaNil))) gaNil))) gaNil)))
    (gSeq (gSet 4 (gDisp .list (gaCons (gApp 2 G_whole_plus (gaCons (gVar 10) (gaCons (gVar 11) gaNil))) (gaCons (gApp 2 G_whole_times_wholelines (gaCons (gVar 10) (gaCons (gVar 11) gaNil))) gaNil))))
    (gSeq (gIf (gOr (gBool (gBin dNe (gApp 1 G_content_of (gaCons (gVar 10) gaNil)) (gApp 1 G__law_cont (gaCons (gVar 10) gaNil)))) (gOr (gTru (gIsi "bool" (gApp 1 G_content_of (gaCons (gVar 10) gaNil)))) (gBool (gBin dNe (gVar 4) (gDisp .list (gaCons (gApp 2 G__law_add (gaCons (gVar 10) (gaCons (gVar 11) gaNil))) (gaCons (gApp 2 G__law_mul (gaCons (gVar 10) (gaCons (gVar 11) gaNil))) gaNil))))))) (gRet (gC (.bool false))) gSkip)
    (gSeq (gIf (gOr (gNot (gTru (gApp 1 G__law_is (gaCons (gBin dIx (gVar 4) (gC (.int 0))) gaNil)))) (gOr (gNot (gTru (gApp 1 G__law_is (gaCons (gBin dIx (gVar 4) (gC (.int 1))) gaNil)))) (gAnd (gBool (gBin dNe (gVar 10) (gDisp .tuple gaNil))) (gOr (gBool (gBin dNe (gApp 1 G_primitive_of (gaCons (gVar 10) gaNil)) (gApp 1 G__law_prim (gaCons (gVar 10) gaNil)))) (gNot (gTru (gApp 1 G__law_is (gaCons (gApp 1 G_primitive_of (gaCons (gVar 10) gaNil)) gaNil)))))))) (gRet (gC (.bool false))) gSkip)
    (gSeq (gSet 5 (gApp 2 G__law_some (gaCup 1 (gaCons (gDisp .list (gaCons (gC (.int 0)) (gaCons (gC (.int 1)) (gaCons (gUn dNeg (gC (.int 1))) (gaCons (gC (.int 2)) (gaCons (gUn dNeg (gC (.int 7))) (gaCons (gBin (fI powOk fun i j => i ^ j.toNat) (gC (.int 10)) (gC (.int 20))) gaNil))))))) gaNil))))
    (gSeq (gIf (gBool (gBin dNe (gApp 2 G_whole_at (gaCons (gVar 10) (gaCons (gVar 5) gaNil))) (gApp 2 G__law_val (gaCons (gVar 10) (gaCons (gVar 5) gaNil))))) (gRet (gC (.bool false))) gSkip)
    (gSeq (gSet 6 (gCall dToTup (gaCons (gL (gLc (giTup (gVar 11)) [14] (ggName 14) gYes le_law_0)) gaNil)))
    (gSeq (gIf (gAnd (gBool (gBin dNe (gVar 6) (gDisp .tuple gaNil))) (gBool (gBin dNe (gBin dIx (gVar 6) (gUn dNeg (gC (.int 1)))) (gC (.int 0))))) (gSeq (gSet 3 (gApp 2 G__law_mul (gaCons (gCall dToTup (gaCons (gL (gLc (giTup (gVar 10)) [14] (ggName 14) gYes le_law_1)) gaNil)) (gaCons (gVar 6) gaNil))))
    (gSeq (gSet 12 (gApp 2 G__law_add (gaCons (gVar 3) (gaCons (gDisp .tuple (gaCons (gApp 2 G__law_roll (gaCup 1 (gaCons (gC (.int 3)) gaNil))) gaNil)) gaNil))))
    (gFor (giTup (gDisp .tuple (gaCons (gVar 3) (gaCons (gVar 12) gaNil)))) (ggName 13) fb_law_0))) gSkip)
    (gSeq (gSet 7 (gCall dToTup (gaCons (gL (gLc (giTup (gVar 10)) [14] (ggName 14) gYes le_law_2)) gaNil)))
    (gIf (gAnd (gBool (gBin dNe (gVar 7) (gDisp .tuple gaNil))) (gBool (gBin dNe (gBin dIx (gBin dIx (gVar 7) (gUn dNeg (gC (.int 1)))) (gC (.int 0))) (gC (.int 0))))) (gSeq (gSet 4 (gApp 1 G_cleared_line (gaCons (gVar 7) gaNil)))
    (gIf (gOr (gBool (gBin dNe (gVar 4) (gApp 1 G__law_cleared (gaCons (gVar 7) gaNil)))) (gOr (gNot (gTru (gApp 1 G__law_is (gaCons (gBin dIx (gVar 4) (gC (.int 0))) gaNil)))) (gNot (gTru (gApp 1 G__law_is (gaCons (gBin dIx (gVar 4) (gC (.int 1))) gaNil)))))) (gRet (gC (.bool false))) gSkip)) gSkip))))))))))
def ta_law_0 : GS := (gRet (gBin dEq (gApp 1 G_content_of (gaCons (gApp 2 G_whole_times_wholelines (gaCons (gDisp .tuple (gaCons (gC (.int 5)) (gaCons (gC (.int 1)) gaNil))) (gaCons (gDisp .tuple (gaCons (gC (.int 3)) (gaCons (gC (.int 0)) (gaCons (gC (.int 2)) gaNil)))) gaNil))) gaNil)) (gC (.int 1))))
def ta_law_1 : GS := (gSeq (gIf (gOr (gBool (gBin dNe (gApp 1 G_content_of (gaCons (gVar 3) gaNil)) (gC (.int 1)))) (gOr (gBool (gBin dNe (gApp 2 G_whole_divided_wholelines (gaCons (gVar 3) (gaCons (gVar 9) gaNil))) (gVar 8))) (gNot (gTru (gApp 1 G__law_is (gaCons (gApp 2 G_whole_divided_wholelines (gaCons (gVar 3) (gaCons (gVar 9) gaNil))) gaNil)))))) (gRet (gC (.bool false))) gSkip)
    ta_law_0)
def ta_law_2 : GS := (gSeq (gSet 3 (gApp 2 G_whole_times_wholelines (gaCons (gVar 8) (gaCons (gVar 9) gaNil))))
    ta_law_1)
def ta_law_3 : GS := (gSeq (gPar 8 9 (gaCons (gApp 1 G__law_prim (gaCons (gVar 8) gaNil)) (gaCons (gApp 1 G__law_prim (gaCons (gVar 9) gaNil)) gaNil)))
    ta_law_2)
def ta_law_4 : GS := (gSeq (gIf (gOr (gBool (gBin dEq (gVar 8) (gDisp .tuple gaNil))) (gBool (gBin dEq (gVar 9) (gDisp .tuple gaNil)))) (gRet (gC (.bool true))) gSkip)
    ta_law_3)
def ta_law_5 : GS := (gSeq (gPar 8 9 (gaCons (gApp 2 G__law_line (gaCup 1 (gaCons (gC (.int 3)) gaNil))) (gaCons (gApp 2 G__law_line (gaCup 1 (gaCons (gC (.int 3)) gaNil))) gaNil)))
    ta_law_4)
def ta_law_6 : GS := (gSeq (gIf (gOr (gBool (gBin dNe (gApp 2 G_whole_at (gaCons (gDisp .tuple gaNil) (gaCons (gC (.int 5)) gaNil))) (gC (.int 0)))) (gOr (gBool (gBin dNe (gApp 2 G_whole_at (gaCons (gDisp .tuple (gaCons (gC (.int 1)) (gaCons (gC (.int 2)) (gaCons (gC (.int 3)) gaNil)))) (gaCons (gUn dNeg (gC (.int 2))) gaNil))) (gC (.int 9)))) (gOr (gBool (gBin dNe (gApp 1 G_cleared_line (gaCons (gDisp .tuple (gaCons (gDisp .tuple (gaCons (gC (.int 1)) (gaCons (gC (.int 2)) gaNil))) (gaCons (gDisp .tuple (gaCons (gUn dNeg (gC (.int 1))) (gaCons (gC (.int 3)) gaNil))) gaNil))) gaNil)) (gDisp .tuple (gaCons (gDisp .tuple (gaCons (gUn dNeg (gC (.int 1))) (gaCons (gC (.int 6)) gaNil))) (gaCons (gDisp .tuple (gaCons (gUn dNeg (gC (.int 3))) (gaCons (gC (.int 2)) gaNil))) gaNil))))) (gBool (gBin dNe (gApp 1 G_cleared_line (gaCons (gDisp .tuple (gaCons (gDisp .tuple (gaCons (gC (.int 4)) (gaCons (gC (.int 1)) gaNil))) gaNil)) gaNil)) (gDisp .tuple (gaCons (gDisp .tuple (gaCons (gC (.int 4)) (gaCons (gC (.int 1)) gaNil))) (gaCons (gDisp .tuple (gaCons (gC (.int 1)) gaNil)) gaNil)))))))) (gRet (gC (.bool false))) gSkip)
    ta_law_5)
def ta_law_7 : GS := (gSeq (gIf (gOr (gBool (gBin dNotN (gApp 2 G_whole_divided_wholelines (gaCons (gDisp .tuple (gaCons (gC (.int 3)) (gaCons (gC (.int 3)) gaNil))) (gaCons (gDisp .tuple (gaCons (gC (.int 2)) gaNil)) gaNil))) (gC .none))) (gOr (gBool (gBin dNe (gApp 2 G_whole_divided_wholelines (gaCons (gDisp .tuple (gaCons (gC (.int 4)) (gaCons (gC (.int 6)) gaNil))) (gaCons (gDisp .tuple (gaCons (gUn dNeg (gC (.int 2))) gaNil)) gaNil))) (gDisp .tuple (gaCons (gUn dNeg (gC (.int 2))) (gaCons (gUn dNeg (gC (.int 3))) gaNil))))) (gBool (gBin dNotN (gApp 2 G_whole_divided_wholelines (gaCons (gDisp .tuple (gaCons (gC (.int 1)) (gaCons (gC (.int 1)) gaNil))) (gaCons (gDisp .tuple (gaCons (gC (.int 1)) (gaCons (gC (.int 1)) (gaCons (gC (.int 1)) gaNil)))) gaNil))) (gC .none))))) (gRet (gC (.bool false))) gSkip)
    ta_law_6)
def ta_law_8 : GS := (gSeq (gIf (gOr (gBool (gBin dNe (gApp 2 G_whole_divided_wholelines (gaCons (gDisp .tuple (gaCons (gC (.int 1)) (gaCons (gC (.int 0)) (gaCons (gUn dNeg (gC (.int 1))) gaNil)))) (gaCons (gDisp .tuple (gaCons (gC (.int 1)) (gaCons (gC (.int 1)) gaNil))) gaNil))) (gDisp .tuple (gaCons (gC (.int 1)) (gaCons (gUn dNeg (gC (.int 1))) gaNil))))) (gOr (gBool (gBin dNotN (gApp 2 G_whole_divided_wholelines (gaCons (gDisp .tuple (gaCons (gC (.int 1)) (gaCons (gC (.int 0)) (gaCons (gC (.int 2)) gaNil)))) (gaCons (gDisp .tuple (gaCons (gC (.int 1)) (gaCons (gC (.int 1)) gaNil))) gaNil))) (gC .none))) (gBool (gBin dNe (gApp 2 G_whole_divided_wholelines (gaCons (gDisp .tuple gaNil) (gaCons (gDisp .tuple (gaCons (gC (.int 5)) (gaCons (gC (.int 3)) gaNil))) gaNil))) (gDisp .tuple gaNil))))) (gRet (gC (.bool false))) gSkip)
    ta_law_7)
def ta_law_9 : GS := (gSeq (gIf (gOr (gBool (gBin dNe (gDisp .list (gaCons (gApp 1 G_content_of (gaCons (gDisp .tuple (gaCons (gC (.int 6)) (gaCons (gUn dNeg (gC (.int 4))) gaNil))) gaNil)) (gaCons (gApp 1 G_content_of (gaCons (gDisp .tuple gaNil) gaNil)) (gaCons (gApp 1 G_content_of (gaCons (gDisp .tuple (gaCons (gC (.int 0)) (gaCons (gC (.int 0)) (gaCons (gC (.int 5)) gaNil)))) gaNil)) (gaCons (gApp 1 G_content_of (gaCons (gDisp .tuple (gaCons (gUn dNeg (gC (.int 3))) gaNil)) gaNil)) gaNil))))) (gDisp .list (gaCons (gUn dNeg (gC (.int 2))) (gaCons (gC (.int 0)) (gaCons (gC (.int 5)) (gaCons (gUn dNeg (gC (.int 3))) gaNil))))))) (gBool (gBin dNe (gApp 1 G_primitive_of (gaCons (gDisp .tuple (gaCons (gC (.int 6)) (gaCons (gUn dNeg (gC (.int 4))) gaNil))) gaNil)) (gDisp .tuple (gaCons (gUn dNeg (gC (.int 3))) (gaCons (gC (.int 2)) gaNil)))))) (gRet (gC (.bool false))) gSkip)
    ta_law_8)
def g_law : GS := (gSeq (gFor (giArg dRng1 (gaCons (gC (.int 6)) gaNil)) (ggName 2) fb_law_1)
    ta_law_9)
theorem ok__law (T : Txt P w F mg base K) (hg : ∀ ns : List Int, ns.length ≤ 63 → ∃ cu, g_law (.un :: .cup :: List.replicate 13 .un) (cup0 (cell0 ns)) = .ok (.ret (.bool true)) cu) :
    ∃ (f : Addr) (fd : FuncData), FnOk P w F mg base (L2.CX P w) 25 f fd ["_law_script"] (spLaw K F) ∧ mg "law" = some (.ref f) ∧ Binds F fd ["_law_script"] [] ∧ ∃ (oc : Value) (od : Option Addr) (osl : Array (Option Value)), F.lookup f = some ⟨oc, od, .func fd, osl⟩ := by
  obtain ⟨f, fd, c, Pt, Fn, hm, hb, TB, hmT, hu0⟩ := T.k_law
  obtain ⟨fc, fdc, hcup, hmc, hkc, hbc⟩ := ok__law_cup T
  refine ⟨f, fd, ok_law (N := ["_law_script", "_law_cup_here", "_law_turn", "_law_product", "_law_told", "_law_at", "_law_small", "_law_parts", "_law_left", "_law_right", "_law_one", "_law_other", "_law_near", "_law_line_here", "_law_number"]) (n := 13) Fn sc_law rfl rfl rfl (by first | exact .inl rfl | exact .inr rfl) (by first | exact .inl rfl | exact .inr (.inl rfl)) rfl rfl hcup hmc hkc hbc (by decide) (fun _ => rfl) ?body hg, hm, hb, let ⟨oc, od, _, _, _, _, _, osl, _, lk, _⟩ := Fn.ex; ⟨oc, od, osl, lk⟩⟩
  intro A outer s H E hr
  have nd := sc_law.nd
  have hu := hr.units
  have tk : Takes (cxOf (L2.CX P w) P w F mg base ["_law_script", "_law_cup_here", "_law_turn", "_law_product", "_law_told", "_law_at", "_law_small", "_law_parts", "_law_left", "_law_right", "_law_one", "_law_other", "_law_near", "_law_line_here", "_law_number"] "law" (defScope s_law) f (.ref c) A outer s H E) (fun cls d _ H => E cls d H) := takes_of rfl rfl rfl rfl
  have hx : Passes (L2.CX P w) (cxOf (L2.CX P w) P w F mg base ["_law_script", "_law_cup_here", "_law_turn", "_law_product", "_law_told", "_law_at", "_law_small", "_law_parts", "_law_left", "_law_right", "_law_one", "_law_other", "_law_near", "_law_line_here", "_law_number"] "law" (defScope s_law) f (.ref c) A outer s H E) E := passes_call tk fun _ _ _ _ h => h
  have hp : PassesOwn (model P w) (cxOf (L2.CX P w) P w F mg base ["_law_script", "_law_cup_here", "_law_turn", "_law_product", "_law_told", "_law_at", "_law_small", "_law_parts", "_law_left", "_law_right", "_law_one", "_law_other", "_law_near", "_law_line_here", "_law_number"] "law" (defScope s_law) f (.ref c) A outer s H E).A (cxOf (L2.CX P w) P w F mg base ["_law_script", "_law_cup_here", "_law_turn", "_law_product", "_law_told", "_law_at", "_law_small", "_law_parts", "_law_left", "_law_right", "_law_one", "_law_other", "_law_near", "_law_line_here", "_law_number"] "law" (defScope s_law) f (.ref c) A outer s H E).env (cxOf (L2.CX P w) P w F mg base ["_law_script", "_law_cup_here", "_law_turn", "_law_product", "_law_told", "_law_at", "_law_small", "_law_parts", "_law_left", "_law_right", "_law_one", "_law_other", "_law_near", "_law_line_here", "_law_number"] "law" (defScope s_law) f (.ref c) A outer s H E).xe := passes_of rfl
  have hc : (cxOf (L2.CX P w) P w F mg base ["_law_script", "_law_cup_here", "_law_turn", "_law_product", "_law_told", "_law_at", "_law_small", "_law_parts", "_law_left", "_law_right", "_law_one", "_law_other", "_law_near", "_law_line_here", "_law_number"] "law" (defScope s_law) f (.ref c) A outer s H E).calm = true := rfl
  have hKF : K.F = F := T.kf
  exact ⟨_, (pssd_cons (psd_for hp hc (pid_rng1 (by rfl) T.b_range (pad_cons pd_int pad_nil)) (pgd_name (i := 2) nd rfl (by first | exact .inl rfl | exact .inr rfl)) (pssd_cons (psd_par (i := 10) (j := 11) hc nd rfl rfl (by decide) rfl rfl (pad_cons (pd_callD (d__law_line T) (hr.mono (by decide)) (by rfl) hx (pad_cup (pv 1) (pad_cons (pd_callD (d__law_roll T) (hr.mono (by decide)) (by rfl) hx (pad_cup (pv 1) (pad_cons pd_int pad_nil))) pad_nil))) (pad_cons (pd_callD (d__law_line T) (hr.mono (by decide)) (by rfl) hx (pad_cup (pv 1) (pad_cons (pd_callD (d__law_roll T) (hr.mono (by decide)) (by rfl) hx (pad_cup (pv 1) (pad_cons pd_int pad_nil))) pad_nil))) pad_nil)))
    (pssd_cons (psd_set (i := 4) nd rfl (by first | exact .inl rfl | exact .inr rfl) (pd_lst (pad_cons (pd_callD (d_whole_plus T) (hr.mono (by decide)) (by rfl) hx (pad_cons (pd_var (pv 10)) (pad_cons (pd_var (pv 11)) pad_nil))) (pad_cons (pd_callD (d_whole_times_wholelines T) (hr.mono (by decide)) (by rfl) hx (pad_cons (pd_var (pv 10)) (pad_cons (pd_var (pv 11)) pad_nil))) pad_nil))))
    (pssd_cons (psd_if (PWD.pt (pwd_or (ptd_cmp (op_neX hu) opD_ne (pd_callD (d_content_of T) (hr.mono (by decide)) (by rfl) hx (pad_cons (pd_var (pv 10)) pad_nil)) (pd_callD (d__law_cont T) (hr.mono (by decide)) (by rfl) hx (pad_cons (pd_var (pv 10)) pad_nil)) (nomark _)) (pwd_or (ptd_truth (pd_isi (T := "bool") (pd_callD (d_content_of T) (hr.mono (by decide)) (by rfl) hx (pad_cons (pd_var (pv 10)) pad_nil)) (by rfl) T.b_isinstance (by rfl) T.b_bool bb_bool)) (pwd_or1 (ptd_cmp (op_neX hu) opD_ne (pd_var (pv 4)) (pd_lst (pad_cons (pd_callD (d__law_add T) (hr.mono (by decide)) (by rfl) hx (pad_cons (pd_var (pv 10)) (pad_cons (pd_var (pv 11)) pad_nil))) (pad_cons (pd_callD (d__law_mul T) (hr.mono (by decide)) (by rfl) hx (pad_cons (pd_var (pv 10)) (pad_cons (pd_var (pv 11)) pad_nil))) pad_nil))) (nomark _)))))) (pssd_one (psd_ret pd_bl)) pssd_nil)
    (pssd_cons (psd_if (PWD.pt (pwd_or (ptd_not (ptd_truth (pd_callD (d__law_is T) (hr.mono (by decide)) (by rfl) hx (pad_cons (pd_ix ixR_D opD_ix (pd_var (pv 4)) pd_int (fun _ _ => rfl)) pad_nil)))) (pwd_or (ptd_not (ptd_truth (pd_callD (d__law_is T) (hr.mono (by decide)) (by rfl) hx (pad_cons (pd_ix ixR_D opD_ix (pd_var (pv 4)) pd_int (fun _ _ => rfl)) pad_nil)))) (pwd_or1 (PWD.pt (pwd_and (ptd_cmp (op_neX hu) opD_ne (pd_var (pv 10)) (pd_tup pad_nil) (nomark _)) (pwd_and1 (PWD.pt (pwd_or (ptd_cmp (op_neX hu) opD_ne (pd_callD (d_primitive_of T) (hr.mono (by decide)) (by rfl) hx (pad_cons (pd_var (pv 10)) pad_nil)) (pd_callD (d__law_prim T) (hr.mono (by decide)) (by rfl) hx (pad_cons (pd_var (pv 10)) pad_nil)) (nomark _)) (pwd_or1 (ptd_not (ptd_truth (pd_callD (d__law_is T) (hr.mono (by decide)) (by rfl) hx (pad_cons (pd_callD (d_primitive_of T) (hr.mono (by decide)) (by rfl) hx (pad_cons (pd_var (pv 10)) pad_nil)) pad_nil)))))))))))))) (pssd_one (psd_ret pd_bl)) pssd_nil)
    (pssd_cons (psd_set (i := 5) nd rfl (by first | exact .inl rfl | exact .inr rfl) (pd_callD (d__law_some T) (hr.mono (by decide)) (by rfl) hx (pad_cup (pv 1) (pad_cons (pd_lst (pad_cons pd_int (pad_cons pd_int (pad_cons (pd_neg pd_int) (pad_cons pd_int (pad_cons (pd_neg pd_int) (pad_cons (pd_op op_pow opD_pow pd_int pd_int) pad_nil))))))) pad_nil))))
    (pssd_cons (psd_if (ptd_cmp (op_neX hu) opD_ne (pd_callD (d_whole_at T) (hr.mono (by decide)) (by rfl) hx (pad_cons (pd_var (pv 10)) (pad_cons (pd_var (pv 5)) pad_nil))) (pd_callD (d__law_val T) (hr.mono (by decide)) (by rfl) hx (pad_cons (pd_var (pv 10)) (pad_cons (pd_var (pv 5)) pad_nil))) (nomark _)) (pssd_one (psd_ret pd_bl)) pssd_nil)
    (pssd_cons (psd_set (i := 6) nd rfl (by first | exact .inl rfl | exact .inr rfl) (pd_callTy call_tuple_of callD_tuple (by rfl) T.b_tuple bb_tuple (pad_cons (PFD.toD (pf_lc (own := [("_law_number", 14)]) (ws := [14]) hc nd (pid_tup (pd_var (pv 11))) (blkOk_by (N := ["_law_script", "_law_cup_here", "_law_turn", "_law_product", "_law_told", "_law_at", "_law_small", "_law_parts", "_law_left", "_law_right", "_law_one", "_law_other", "_law_near", "_law_line_here", "_law_number"]) (sc := defScope s_law) (by decide +kernel)) (fun _ _ _ _ _ => ⟨_, by exact (pgd_name (i := 14) nd rfl (by first | exact .inl rfl | exact .inr rfl))⟩) (fun _ _ _ _ _ => ⟨_, by exact ptsd_nil⟩) (fun _ _ _ _ _ => ⟨_, by exact (pd_op op_sub opD_sub (pd_op op_modN opD_mod (pd_callTy call_int1 callD_int (by rfl) T.b_int bb_int (pad_cons (pd_op op_addD opD_add (pd_var (pv 14)) pd_int) pad_nil)) pd_int) pd_int)⟩))) pad_nil)))
    (pssd_cons (psd_if (PWD.pt (pwd_and (ptd_cmp (op_neX hu) opD_ne (pd_var (pv 6)) (pd_tup pad_nil) (nomark _)) (pwd_and1 (ptd_cmp (op_neX hu) opD_ne (pd_ix ixR_D opD_ix (pd_var (pv 6)) (pd_neg pd_int) (fun _ _ => rfl)) pd_int (nomark _))))) (pssd_cons (psd_set (i := 3) nd rfl (by first | exact .inl rfl | exact .inr rfl) (pd_callD (d__law_mul T) (hr.mono (by decide)) (by rfl) hx (pad_cons (pd_callTy call_tuple_of callD_tuple (by rfl) T.b_tuple bb_tuple (pad_cons (PFD.toD (pf_lc (own := [("_law_number", 14)]) (ws := [14]) hc nd (pid_tup (pd_var (pv 10))) (blkOk_by (N := ["_law_script", "_law_cup_here", "_law_turn", "_law_product", "_law_told", "_law_at", "_law_small", "_law_parts", "_law_left", "_law_right", "_law_one", "_law_other", "_law_near", "_law_line_here", "_law_number"]) (sc := defScope s_law) (by decide +kernel)) (fun _ _ _ _ _ => ⟨_, by exact (pgd_name (i := 14) nd rfl (by first | exact .inl rfl | exact .inr rfl))⟩) (fun _ _ _ _ _ => ⟨_, by exact ptsd_nil⟩) (fun _ _ _ _ _ => ⟨_, by exact (pd_op op_sub opD_sub (pd_op op_modN opD_mod (pd_callTy call_int1 callD_int (by rfl) T.b_int bb_int (pad_cons (pd_op op_addD opD_add (pd_var (pv 14)) pd_int) pad_nil)) pd_int) pd_int)⟩))) pad_nil)) (pad_cons (pd_var (pv 6)) pad_nil))))
    (pssd_cons (psd_set (i := 12) nd rfl (by first | exact .inl rfl | exact .inr rfl) (pd_callD (d__law_add T) (hr.mono (by decide)) (by rfl) hx (pad_cons (pd_var (pv 3)) (pad_cons (pd_tup (pad_cons (pd_callD (d__law_roll T) (hr.mono (by decide)) (by rfl) hx (pad_cup (pv 1) (pad_cons pd_int pad_nil))) pad_nil)) pad_nil))))
    (pssd_one (psd_for hp hc (pid_tup (pd_tup (pad_cons (pd_var (pv 3)) (pad_cons (pd_var (pv 12)) pad_nil)))) (pgd_name (i := 13) nd rfl (by first | exact .inl rfl | exact .inr rfl)) (pssd_one (psd_if (ptd_cmp (op_neX hu) opD_ne (pd_callD (d_whole_divided_wholelines T) (hr.mono (by decide)) (by rfl) hx (pad_cons (pd_var (pv 13)) (pad_cons (pd_var (pv 6)) pad_nil))) (pd_callD (d__law_quotient T) (hr.mono (by decide)) (by rfl) hx (pad_cons (pd_var (pv 13)) (pad_cons (pd_var (pv 6)) pad_nil))) (nomark _)) (pssd_one (psd_ret pd_bl)) pssd_nil)))))) pssd_nil)
    (pssd_cons (psd_set (i := 7) nd rfl (by first | exact .inl rfl | exact .inr rfl) (pd_callTy call_tuple_of callD_tuple (by rfl) T.b_tuple bb_tuple (pad_cons (PFD.toD (pf_lc (own := [("_law_number", 14)]) (ws := [14]) hc nd (pid_tup (pd_var (pv 10))) (blkOk_by (N := ["_law_script", "_law_cup_here", "_law_turn", "_law_product", "_law_told", "_law_at", "_law_small", "_law_parts", "_law_left", "_law_right", "_law_one", "_law_other", "_law_near", "_law_line_here", "_law_number"]) (sc := defScope s_law) (by decide +kernel)) (fun _ _ _ _ _ => ⟨_, by exact (pgd_name (i := 14) nd rfl (by first | exact .inl rfl | exact .inr rfl))⟩) (fun _ _ _ _ _ => ⟨_, by exact ptsd_nil⟩) (fun _ _ _ _ _ => ⟨_, by exact (pd_callD (d__law_fraction T) (hr.mono (by decide)) (by rfl) passL (pad_cons (pd_ifExp (ptd_cmp op_lt opD_lt (pd_callB call_abs callD_abs (by rfl) T.b_abs bb_abs (pad_cons (pd_var (pv 14)) pad_nil)) (pd_op op_pow opD_pow pd_int pd_int) (nomark _)) (pd_var (pv 14)) pd_int) (pad_cons (pd_op op_addD opD_add pd_int (pd_callD (d__law_roll T) (hr.mono (by decide)) (by rfl) passL (pad_cup (pv 1) (pad_cons pd_int pad_nil)))) pad_nil)))⟩))) pad_nil)))
    (pssd_one (psd_if (PWD.pt (pwd_and (ptd_cmp (op_neX hu) opD_ne (pd_var (pv 7)) (pd_tup pad_nil) (nomark _)) (pwd_and1 (ptd_cmp (op_neX hu) opD_ne (pd_ix ixR_D opD_ix (pd_ix ixR_D opD_ix (pd_var (pv 7)) (pd_neg pd_int) (fun _ _ => rfl)) pd_int (fun _ _ => rfl)) pd_int (nomark _))))) (pssd_cons (psd_set (i := 4) nd rfl (by first | exact .inl rfl | exact .inr rfl) (pd_callD (d_cleared_line T) (hr.mono (by decide)) (by rfl) hx (pad_cons (pd_var (pv 7)) pad_nil)))
    (pssd_one (psd_if (PWD.pt (pwd_or (ptd_cmp (op_neX hu) opD_ne (pd_var (pv 4)) (pd_callD (d__law_cleared T) (hr.mono (by decide)) (by rfl) hx (pad_cons (pd_var (pv 7)) pad_nil)) (nomark _)) (pwd_or (ptd_not (ptd_truth (pd_callD (d__law_is T) (hr.mono (by decide)) (by rfl) hx (pad_cons (pd_ix ixR_D opD_ix (pd_var (pv 4)) pd_int (fun _ _ => rfl)) pad_nil)))) (pwd_or1 (ptd_not (ptd_truth (pd_callD (d__law_is T) (hr.mono (by decide)) (by rfl) hx (pad_cons (pd_ix ixR_D opD_ix (pd_var (pv 4)) pd_int (fun _ _ => rfl)) pad_nil)))))))) (pssd_one (psd_ret pd_bl)) pssd_nil))) pssd_nil))))))))))))
    (pssd_cons (psd_if (PWD.pt (pwd_or (ptd_cmp (op_neX hu) opD_ne (pd_lst (pad_cons (pd_callD (d_content_of T) (hr.mono (by decide)) (by rfl) hx (pad_cons (pd_tup (pad_cons pd_int (pad_cons (pd_neg pd_int) pad_nil))) pad_nil)) (pad_cons (pd_callD (d_content_of T) (hr.mono (by decide)) (by rfl) hx (pad_cons (pd_tup pad_nil) pad_nil)) (pad_cons (pd_callD (d_content_of T) (hr.mono (by decide)) (by rfl) hx (pad_cons (pd_tup (pad_cons pd_int (pad_cons pd_int (pad_cons pd_int pad_nil)))) pad_nil)) (pad_cons (pd_callD (d_content_of T) (hr.mono (by decide)) (by rfl) hx (pad_cons (pd_tup (pad_cons (pd_neg pd_int) pad_nil)) pad_nil)) pad_nil))))) (pd_lst (pad_cons (pd_neg pd_int) (pad_cons pd_int (pad_cons pd_int (pad_cons (pd_neg pd_int) pad_nil))))) (nomark _)) (pwd_or1 (ptd_cmp (op_neX hu) opD_ne (pd_callD (d_primitive_of T) (hr.mono (by decide)) (by rfl) hx (pad_cons (pd_tup (pad_cons pd_int (pad_cons (pd_neg pd_int) pad_nil))) pad_nil)) (pd_tup (pad_cons (pd_neg pd_int) (pad_cons pd_int pad_nil))) (nomark _))))) (pssd_one (psd_ret pd_bl)) pssd_nil)
    (pssd_cons (psd_if (PWD.pt (pwd_or (ptd_cmp (op_neX hu) opD_ne (pd_callD (d_whole_divided_wholelines T) (hr.mono (by decide)) (by rfl) hx (pad_cons (pd_tup (pad_cons pd_int (pad_cons pd_int (pad_cons (pd_neg pd_int) pad_nil)))) (pad_cons (pd_tup (pad_cons pd_int (pad_cons pd_int pad_nil))) pad_nil))) (pd_tup (pad_cons pd_int (pad_cons (pd_neg pd_int) pad_nil))) (nomark _)) (pwd_or (ptd_cmp op_notN opD_notN (pd_callD (d_whole_divided_wholelines T) (hr.mono (by decide)) (by rfl) hx (pad_cons (pd_tup (pad_cons pd_int (pad_cons pd_int (pad_cons pd_int pad_nil)))) (pad_cons (pd_tup (pad_cons pd_int (pad_cons pd_int pad_nil))) pad_nil))) pd_non (nomark _)) (pwd_or1 (ptd_cmp (op_neX hu) opD_ne (pd_callD (d_whole_divided_wholelines T) (hr.mono (by decide)) (by rfl) hx (pad_cons (pd_tup pad_nil) (pad_cons (pd_tup (pad_cons pd_int (pad_cons pd_int pad_nil))) pad_nil))) (pd_tup pad_nil) (nomark _)))))) (pssd_one (psd_ret pd_bl)) pssd_nil)
    (pssd_cons (psd_if (PWD.pt (pwd_or (ptd_cmp op_notN opD_notN (pd_callD (d_whole_divided_wholelines T) (hr.mono (by decide)) (by rfl) hx (pad_cons (pd_tup (pad_cons pd_int (pad_cons pd_int pad_nil))) (pad_cons (pd_tup (pad_cons pd_int pad_nil)) pad_nil))) pd_non (nomark _)) (pwd_or (ptd_cmp (op_neX hu) opD_ne (pd_callD (d_whole_divided_wholelines T) (hr.mono (by decide)) (by rfl) hx (pad_cons (pd_tup (pad_cons pd_int (pad_cons pd_int pad_nil))) (pad_cons (pd_tup (pad_cons (pd_neg pd_int) pad_nil)) pad_nil))) (pd_tup (pad_cons (pd_neg pd_int) (pad_cons (pd_neg pd_int) pad_nil))) (nomark _)) (pwd_or1 (ptd_cmp op_notN opD_notN (pd_callD (d_whole_divided_wholelines T) (hr.mono (by decide)) (by rfl) hx (pad_cons (pd_tup (pad_cons pd_int (pad_cons pd_int pad_nil))) (pad_cons (pd_tup (pad_cons pd_int (pad_cons pd_int (pad_cons pd_int pad_nil)))) pad_nil))) pd_non (nomark _)))))) (pssd_one (psd_ret pd_bl)) pssd_nil)
    (pssd_cons (psd_if (PWD.pt (pwd_or (ptd_cmp (op_neX hu) opD_ne (pd_callD (d_whole_at T) (hr.mono (by decide)) (by rfl) hx (pad_cons (pd_tup pad_nil) (pad_cons pd_int pad_nil))) pd_int (nomark _)) (pwd_or (ptd_cmp (op_neX hu) opD_ne (pd_callD (d_whole_at T) (hr.mono (by decide)) (by rfl) hx (pad_cons (pd_tup (pad_cons pd_int (pad_cons pd_int (pad_cons pd_int pad_nil)))) (pad_cons (pd_neg pd_int) pad_nil))) pd_int (nomark _)) (pwd_or (ptd_cmp (op_neX hu) opD_ne (pd_callD (d_cleared_line T) (hr.mono (by decide)) (by rfl) hx (pad_cons (pd_tup (pad_cons (pd_tup (pad_cons pd_int (pad_cons pd_int pad_nil))) (pad_cons (pd_tup (pad_cons (pd_neg pd_int) (pad_cons pd_int pad_nil))) pad_nil))) pad_nil)) (pd_tup (pad_cons (pd_tup (pad_cons (pd_neg pd_int) (pad_cons pd_int pad_nil))) (pad_cons (pd_tup (pad_cons (pd_neg pd_int) (pad_cons pd_int pad_nil))) pad_nil))) (nomark _)) (pwd_or1 (ptd_cmp (op_neX hu) opD_ne (pd_callD (d_cleared_line T) (hr.mono (by decide)) (by rfl) hx (pad_cons (pd_tup (pad_cons (pd_tup (pad_cons pd_int (pad_cons pd_int pad_nil))) pad_nil)) pad_nil)) (pd_tup (pad_cons (pd_tup (pad_cons pd_int (pad_cons pd_int pad_nil))) (pad_cons (pd_tup (pad_cons pd_int pad_nil)) pad_nil))) (nomark _))))))) (pssd_one (psd_ret pd_bl)) pssd_nil)
    (pssd_cons (psd_par (i := 8) (j := 9) hc nd rfl rfl (by decide) rfl rfl (pad_cons (pd_callD (d__law_line T) (hr.mono (by decide)) (by rfl) hx (pad_cup (pv 1) (pad_cons pd_int pad_nil))) (pad_cons (pd_callD (d__law_line T) (hr.mono (by decide)) (by rfl) hx (pad_cup (pv 1) (pad_cons pd_int pad_nil))) pad_nil)))
    (pssd_cons (psd_if (PWD.pt (pwd_or (ptd_cmp (op_eqX hu) opD_eq (pd_var (pv 8)) (pd_tup pad_nil) (nomark _)) (pwd_or1 (ptd_cmp (op_eqX hu) opD_eq (pd_var (pv 9)) (pd_tup pad_nil) (nomark _))))) (pssd_one (psd_ret pd_bl)) pssd_nil)
    (pssd_cons (psd_par (i := 8) (j := 9) hc nd rfl rfl (by decide) rfl rfl (pad_cons (pd_callD (d__law_prim T) (hr.mono (by decide)) (by rfl) hx (pad_cons (pd_var (pv 8)) pad_nil)) (pad_cons (pd_callD (d__law_prim T) (hr.mono (by decide)) (by rfl) hx (pad_cons (pd_var (pv 9)) pad_nil)) pad_nil)))
    (pssd_cons (psd_set (i := 3) nd rfl (by first | exact .inl rfl | exact .inr rfl) (pd_callD (d_whole_times_wholelines T) (hr.mono (by decide)) (by rfl) hx (pad_cons (pd_var (pv 8)) (pad_cons (pd_var (pv 9)) pad_nil))))
    (pssd_cons (psd_if (PWD.pt (pwd_or (ptd_cmp (op_neX hu) opD_ne (pd_callD (d_content_of T) (hr.mono (by decide)) (by rfl) hx (pad_cons (pd_var (pv 3)) pad_nil)) pd_int (nomark _)) (pwd_or (ptd_cmp (op_neX hu) opD_ne (pd_callD (d_whole_divided_wholelines T) (hr.mono (by decide)) (by rfl) hx (pad_cons (pd_var (pv 3)) (pad_cons (pd_var (pv 9)) pad_nil))) (pd_var (pv 8)) (nomark _)) (pwd_or1 (ptd_not (ptd_truth (pd_callD (d__law_is T) (hr.mono (by decide)) (by rfl) hx (pad_cons (pd_callD (d_whole_divided_wholelines T) (hr.mono (by decide)) (by rfl) hx (pad_cons (pd_var (pv 3)) (pad_cons (pd_var (pv 9)) pad_nil))) pad_nil)))))))) (pssd_one (psd_ret pd_bl)) pssd_nil)
    (pssd_one (psd_ret (pd_cmp (op_eqX hu) opD_eq (pd_callD (d_content_of T) (hr.mono (by decide)) (by rfl) hx (pad_cons (pd_callD (d_whole_times_wholelines T) (hr.mono (by decide)) (by rfl) hx (pad_cons (pd_tup (pad_cons pd_int (pad_cons pd_int pad_nil))) (pad_cons (pd_tup (pad_cons pd_int (pad_cons pd_int (pad_cons pd_int pad_nil)))) pad_nil))) pad_nil)) pd_int (nomark _))))))))))))))⟩
end
end Prog

set_option Elab.async false
set_option linter.all false
set_option maxRecDepth 100000
set_option maxHeartbeats 4000000
set_option autoImplicit false
set_option exponentiation.threshold 4000
namespace Prog
open PySem PySem.Spec L2 DL
def rollC (cu : Cu) (m : Int) : Cu := if 0 < cu.1 then (cu.1.fdiv m, cu.2) else (cu.1, (cu.2 * 31039 + 7973).fmod 2147483543)
def rollY (cu : Cu) : Int := (cu.2 * 31039 + 7973).fmod 2147483543
def rollV (cu : Cu) (m : Int) : Int := if 0 < cu.1 then cu.1.fmod m else (((rollY cu * (rollY cu + 229)).fmod 2147483587).fdiv 821).fmod m
section
variable {cu : Cu} {m : Int} {zs : List Int}
theorem roll_lo (h : 1 ≤ m) : 0 ≤ rollV cu m := by
  unfold rollV
  split
  · exact fmod_lo (by omega)
  · exact fmod_lo (by omega)
theorem roll_hi (h : 1 ≤ m) : rollV cu m < m := by
  unfold rollV
  split
  · exact fmod_hi (by omega)
  · exact fmod_hi (by omega)
theorem e_roll (h : 1 ≤ m) (hs : Sm m) : G__law_roll [.cup, .dat (.int m)] cu = .ok (.int (rollV cu m)) (rollC cu m) := by
  have o1 : ∀ x : Int, modOk x m = true := fun x => modOk_b (by omega)
  have o2 : ∀ x : Int, divOk x m = true := fun x => divOk_sm (by omega) hs
  have o3 : mulOk cu.2 31039 = true := mulOk_r (by decide)
  have o4 : ∀ x : Int, modOk x 2147483543 = true := fun x => modOk_b (by decide)
  have o5 : ∀ x : Int, modOk x 2147483587 = true := fun x => modOk_b (by decide)
  have o6 : ∀ x : Int, divOk x 821 = true := fun x => divOk_b (p := 64) (by decide) (by decide) (by decide) (by decide)
  have o7 : mulOk (rollY cu) (rollY cu + 229) = true := mulOk_l (by
    have h1 := fmod_lo (a := cu.2 * 31039 + 7973) (m := 2147483543) (by decide)
    have h2 := fmod_hi (a := cu.2 * 31039 + 7973) (m := 2147483543) (by decide)
    unfold rollY
    omega)
  unfold rollY at o7
  by_cases c : 0 < cu.1
  · unfold rollV rollC
    simp only [G__law_roll, g__law_roll, o1, o2, o3, o4, o5, o6, o7, c, gFn, gSeq, gIf, gSet, gSetO, gfCat, gfDisp, gBin, gCall, gApp, gaNil, gaCons, gaCup, gC_eq, gVar_un, gDisp, gSlice, gPart, gNoPart, gTru, gBool, gChain, gAnd, gOr, gNot, gAndV, gOrV, gNotV, gIfE, gUn, gCupF_un, gCupT_un, gCupSet, gRet, gAsg, gPar, gPar3, gDrop, gRaise, gSkip, gIsi, gFor, giTup, giLst, giArg, gLc, gL, gFrz, gApd, gYes, gAll, ggName, ggTup, ggCons, ggNil, wipeE, dLst, dTup, gForL_nil, gForL_cons, gLcL_nil, gLcL_cons, dZip_tup, dZip_lst, zipD_cc, zipD_nil, cutD_1, dCut_tup, dCut_lst, dAbs_ab, dAdd_tup, dAdd_lst, Rs.bind_ok, Rs.bind_exc, Rs.bind_stuck, Rs.ofO_some, Rs.nox_ok, List.getElem?_cons_zero, List.getElem?_cons_succ, List.set_cons_zero, List.set_cons_succ, List.length_cons, List.length_nil, List.length_append, List.length_map, List.replicate_succ, List.replicate_zero, List.cons_append, List.nil_append, List.append_nil, Nat.reduceAdd, Nat.reduceSub, Nat.reduceLT, Nat.reduceLeDiff, Nat.reduceEqDiff, Nat.zero_add, dAdd_int, dMul_int, fI0_int, fB0_int, fI_int, dEq_int, dNe_int, dEq_str, dNe_str, dEq_bl, dBool_bl, dTru_bl, dNeg_int, dToInt_int, dToInt_bl, dLen_tup, dLen_lst, dMin2_int, dMulT_int, dToTup_lst, dToTup_tup, dToLst_lst, dToLst_tup, dats_nil, dats_cons, dIx_tup, dIx_lst, atI0, atI1, atI2, atI3, atI4, atI5, dInt_int, Option.map_some, Option.map_none, Option.bind_some, if_true, if_false, ite_true, ite_false, Bool.false_eq_true, Bool.true_eq_false, reduceIte, Bool.not_true, Bool.not_false, isi_int_int, isi_int_bool, isi_int_str, isi_int_tuple, isi_bool_int, isi_bool_bool, isi_bool_str, isi_bool_tuple, isi_str_int, isi_str_bool, isi_str_str, isi_str_tuple, isi_tup_int, isi_tup_bool, isi_tup_str, isi_tup_tuple, isi_lst_int, isi_lst_bool, isi_lst_str, isi_lst_tuple, isi_none_int, isi_none_bool, isi_none_str, isi_none_tuple, Int.cast_ofNat_Int, decide_true, decide_false, decide_eq_true_eq, not_true_eq_false, not_false_eq_true, Int.reduceEq, Int.reduceNe, Int.reduceLE, Int.reduceLT, Int.reduceAdd, Int.reduceSub, Int.reduceMul, Int.reduceNeg, ite_self, dMax2_int, dInR_int, gInR, gAug, gBits, dBits, giRev, dRevL, gParO, le_nested_plus_0, le_nested_plus_1, fb_whole_product_0, fb_whole_product_1, fb_nested_exact_0, fb_nested_exact_1, fb_nested_exact_2, fb_nested_exact_3, fb_nested_content_0, fb_nested_content_1, fb_common_multiple_0, le_whole_line_0, le_whole_line_1, fb_whole_line_0, le_has_line_form_0, fb_value_of_whole_0, le_is_whole_0, le_is_given_whole_0, ez_shared_line_0, fb__law_mul_0, fb__law_mul_1, le__law_add_0, fb__law_power_0, le__law_val_0, fb__law_cont_0, le__law_prim_0, le__law_line_0, le__law_quotient_0, fb__law_quotient_0, le__law_is_0, lt__law_is_0, fb__law_cleared_0, le__law_cleared_0]
  · unfold rollV rollC rollY
    simp only [G__law_roll, g__law_roll, o1, o2, o3, o4, o5, o6, o7, c, gFn, gSeq, gIf, gSet, gSetO, gfCat, gfDisp, gBin, gCall, gApp, gaNil, gaCons, gaCup, gC_eq, gVar_un, gDisp, gSlice, gPart, gNoPart, gTru, gBool, gChain, gAnd, gOr, gNot, gAndV, gOrV, gNotV, gIfE, gUn, gCupF_un, gCupT_un, gCupSet, gRet, gAsg, gPar, gPar3, gDrop, gRaise, gSkip, gIsi, gFor, giTup, giLst, giArg, gLc, gL, gFrz, gApd, gYes, gAll, ggName, ggTup, ggCons, ggNil, wipeE, dLst, dTup, gForL_nil, gForL_cons, gLcL_nil, gLcL_cons, dZip_tup, dZip_lst, zipD_cc, zipD_nil, cutD_1, dCut_tup, dCut_lst, dAbs_ab, dAdd_tup, dAdd_lst, Rs.bind_ok, Rs.bind_exc, Rs.bind_stuck, Rs.ofO_some, Rs.nox_ok, List.getElem?_cons_zero, List.getElem?_cons_succ, List.set_cons_zero, List.set_cons_succ, List.length_cons, List.length_nil, List.length_append, List.length_map, List.replicate_succ, List.replicate_zero, List.cons_append, List.nil_append, List.append_nil, Nat.reduceAdd, Nat.reduceSub, Nat.reduceLT, Nat.reduceLeDiff, Nat.reduceEqDiff, Nat.zero_add, dAdd_int, dMul_int, fI0_int, fB0_int, fI_int, dEq_int, dNe_int, dEq_str, dNe_str, dEq_bl, dBool_bl, dTru_bl, dNeg_int, dToInt_int, dToInt_bl, dLen_tup, dLen_lst, dMin2_int, dMulT_int, dToTup_lst, dToTup_tup, dToLst_lst, dToLst_tup, dats_nil, dats_cons, dIx_tup, dIx_lst, atI0, atI1, atI2, atI3, atI4, atI5, dInt_int, Option.map_some, Option.map_none, Option.bind_some, if_true, if_false, ite_true, ite_false, Bool.false_eq_true, Bool.true_eq_false, reduceIte, Bool.not_true, Bool.not_false, isi_int_int, isi_int_bool, isi_int_str, isi_int_tuple, isi_bool_int, isi_bool_bool, isi_bool_str, isi_bool_tuple, isi_str_int, isi_str_bool, isi_str_str, isi_str_tuple, isi_tup_int, isi_tup_bool, isi_tup_str, isi_tup_tuple, isi_lst_int, isi_lst_bool, isi_lst_str, isi_lst_tuple, isi_none_int, isi_none_bool, isi_none_str, isi_none_tuple, Int.cast_ofNat_Int, decide_true, decide_false, decide_eq_true_eq, not_true_eq_false, not_false_eq_true, Int.reduceEq, Int.reduceNe, Int.reduceLE, Int.reduceLT, Int.reduceAdd, Int.reduceSub, Int.reduceMul, Int.reduceNeg, ite_self, dMax2_int, dInR_int, gInR, gAug, gBits, dBits, giRev, dRevL, gParO, le_nested_plus_0, le_nested_plus_1, fb_whole_product_0, fb_whole_product_1, fb_nested_exact_0, fb_nested_exact_1, fb_nested_exact_2, fb_nested_exact_3, fb_nested_content_0, fb_nested_content_1, fb_common_multiple_0, le_whole_line_0, le_whole_line_1, fb_whole_line_0, le_has_line_form_0, fb_value_of_whole_0, le_is_whole_0, le_is_given_whole_0, ez_shared_line_0, fb__law_mul_0, fb__law_mul_1, le__law_add_0, fb__law_power_0, le__law_val_0, fb__law_cont_0, le__law_prim_0, le__law_line_0, le__law_quotient_0, fb__law_quotient_0, le__law_is_0, lt__law_is_0, fb__law_cleared_0, le__law_cleared_0]
/-- a roll with what is known of it -/
theorem roll_ex (m : Int) (h : 1 ≤ m) (hs : m.natAbs < 2 ^ 2000) (cu : Cu) : ∃ (v : Int) (c : Cu), 0 ≤ v ∧ v < m ∧ G__law_roll [.cup, .dat (.int m)] cu = .ok (.int v) c := ⟨_, _, roll_lo h, roll_hi h, e_roll h hs⟩
theorem e_some {xs : List PyData} (h0 : 0 < xs.length) (h1 : xs.length ≤ 1000) : ∃ d ∈ xs, G__law_some [.cup, .dat (.list xs)] cu = .ok d (rollC cu xs.length) := by
  have hm : (1 : Int) ≤ xs.length := by omega
  have e := e_roll (cu := cu) hm (Sm.of (B := 1000) (by omega))
  have r0 := roll_lo (cu := cu) hm
  have r1 := roll_hi (cu := cu) hm
  obtain ⟨n, hn⟩ := Int.eq_ofNat_of_zero_le r0
  have hn' : n < xs.length := by omega
  refine ⟨xs[n], List.getElem_mem _, ?_⟩
  have e2 : atI xs (rollV cu xs.length) = some xs[n] := by rw [hn]; exact atI_nat (List.getElem?_eq_getElem hn')
  simp only [G__law_some, g__law_some, e, e2, gFn, gSeq, gIf, gSet, gSetO, gfCat, gfDisp, gBin, gCall, gApp, gaNil, gaCons, gaCup, gC_eq, gVar_un, gDisp, gSlice, gPart, gNoPart, gTru, gBool, gChain, gAnd, gOr, gNot, gAndV, gOrV, gNotV, gIfE, gUn, gCupF_un, gCupT_un, gCupSet, gRet, gAsg, gPar, gPar3, gDrop, gRaise, gSkip, gIsi, gFor, giTup, giLst, giArg, gLc, gL, gFrz, gApd, gYes, gAll, ggName, ggTup, ggCons, ggNil, wipeE, dLst, dTup, gForL_nil, gForL_cons, gLcL_nil, gLcL_cons, dZip_tup, dZip_lst, zipD_cc, zipD_nil, cutD_1, dCut_tup, dCut_lst, dAbs_ab, dAdd_tup, dAdd_lst, Rs.bind_ok, Rs.bind_exc, Rs.bind_stuck, Rs.ofO_some, Rs.nox_ok, List.getElem?_cons_zero, List.getElem?_cons_succ, List.set_cons_zero, List.set_cons_succ, List.length_cons, List.length_nil, List.length_append, List.length_map, List.replicate_succ, List.replicate_zero, List.cons_append, List.nil_append, List.append_nil, Nat.reduceAdd, Nat.reduceSub, Nat.reduceLT, Nat.reduceLeDiff, Nat.reduceEqDiff, Nat.zero_add, dAdd_int, dMul_int, fI0_int, fB0_int, fI_int, dEq_int, dNe_int, dEq_str, dNe_str, dEq_bl, dBool_bl, dTru_bl, dNeg_int, dToInt_int, dToInt_bl, dLen_tup, dLen_lst, dMin2_int, dMulT_int, dToTup_lst, dToTup_tup, dToLst_lst, dToLst_tup, dats_nil, dats_cons, dIx_tup, dIx_lst, atI0, atI1, atI2, atI3, atI4, atI5, dInt_int, Option.map_some, Option.map_none, Option.bind_some, if_true, if_false, ite_true, ite_false, Bool.false_eq_true, Bool.true_eq_false, reduceIte, Bool.not_true, Bool.not_false, isi_int_int, isi_int_bool, isi_int_str, isi_int_tuple, isi_bool_int, isi_bool_bool, isi_bool_str, isi_bool_tuple, isi_str_int, isi_str_bool, isi_str_str, isi_str_tuple, isi_tup_int, isi_tup_bool, isi_tup_str, isi_tup_tuple, isi_lst_int, isi_lst_bool, isi_lst_str, isi_lst_tuple, isi_none_int, isi_none_bool, isi_none_str, isi_none_tuple, Int.cast_ofNat_Int, decide_true, decide_false, decide_eq_true_eq, not_true_eq_false, not_false_eq_true, Int.reduceEq, Int.reduceNe, Int.reduceLE, Int.reduceLT, Int.reduceAdd, Int.reduceSub, Int.reduceMul, Int.reduceNeg, ite_self, dMax2_int, dInR_int, gInR, gAug, gBits, dBits, giRev, dRevL, gParO, le_nested_plus_0, le_nested_plus_1, fb_whole_product_0, fb_whole_product_1, fb_nested_exact_0, fb_nested_exact_1, fb_nested_exact_2, fb_nested_exact_3, fb_nested_content_0, fb_nested_content_1, fb_common_multiple_0, le_whole_line_0, le_whole_line_1, fb_whole_line_0, le_has_line_form_0, fb_value_of_whole_0, le_is_whole_0, le_is_given_whole_0, ez_shared_line_0, fb__law_mul_0, fb__law_mul_1, le__law_add_0, fb__law_power_0, le__law_val_0, fb__law_cont_0, le__law_prim_0, le__law_line_0, le__law_quotient_0, fb__law_quotient_0, le__law_is_0, lt__law_is_0, fb__law_cleared_0, le__law_cleared_0]
/-- a number out of a list of numbers -/
theorem some_ex (zs : List Int) (h0 : 0 < zs.length) (h1 : zs.length ≤ 1000) (cu : Cu) : ∃ z ∈ zs, ∃ c : Cu, G__law_some [.cup, .dat (lstI zs)] cu = .ok (.int z) c := by
  obtain ⟨d, hd, e⟩ := e_some (cu := cu) (xs := zs.map .int) (by rw [List.length_map]; exact h0) (by rw [List.length_map]; exact h1)
  obtain ⟨z, hz, rfl⟩ := List.mem_map.mp hd
  exact ⟨z, hz, _, e⟩
end
end Prog

set_option Elab.async false
set_option linter.all false
set_option maxRecDepth 100000
set_option maxHeartbeats 4000000
set_option autoImplicit false
set_option exponentiation.threshold 4000
namespace Prog
open PySem PySem.Spec L2 DL ZP
section
variable {cu cu1 : Cu} {x : Int} {l : List Int} {ρ : En} {ds : List PyData} {ga : GE}
theorem rng_ok {n : Nat} (hn : n < 1000) : dRng1 [.int (n : Int)] = some (rngD 0 n) := by
  have h := dRng1_ok (a := (n : Int)) ⟨Int.le_trans (by decide) (Int.natCast_nonneg n), Int.lt_of_lt_of_le (Int.ofNat_lt.mpr hn) (by decide)⟩
  rw [Int.toNat_natCast] at h
  exact h
theorem iRevT (ha : ga ρ cu = .ok (.tuple ds) cu1) : giRevT ga ρ cu = .ok ds.reverse cu1 := by unfold giRevT; rw [ha, Rs.bind_ok]; rfl
theorem sm20 {z : Int} (h : z.natAbs ≤ 10 ^ 20) : Sm z := Nat.lt_of_le_of_lt h (by decide)
theorem smP {z : Int} {n : Nat} (h : z.natAbs < 2 ^ (68 * n)) (hn : n ≤ 20) : Sm z := Nat.lt_of_lt_of_le h (Nat.pow_le_pow_right (by decide) (by omega))
theorem grow {f x c : Int} {n : Nat} (hf : f.natAbs < 2 ^ (68 * n)) (hx : x.natAbs ≤ 10 ^ 20) (hc : c.natAbs ≤ 10 ^ 20) : (f * x + c).natAbs < 2 ^ (68 * (n + 1)) := by
  have h1 : (f * x + c).natAbs ≤ f.natAbs * x.natAbs + c.natAbs := by rw [← Int.natAbs_mul]; exact Int.natAbs_add_le _ _
  have h2 : f.natAbs * x.natAbs ≤ (2 ^ (68 * n) - 1) * 10 ^ 20 := Nat.mul_le_mul (by omega) hx
  have h3 : (2 ^ (68 * n) - 1) * 10 ^ 20 + 10 ^ 20 = 2 ^ (68 * n) * 10 ^ 20 := by
    have : 1 ≤ 2 ^ (68 * n) := Nat.one_le_two_pow
    obtain ⟨m, hm⟩ : ∃ m, 2 ^ (68 * n) = m + 1 := ⟨2 ^ (68 * n) - 1, by omega⟩
    rw [hm]
    simp only [Nat.add_sub_cancel, Nat.add_mul, Nat.one_mul]
  have h4 : 2 ^ (68 * n) * 10 ^ 20 < 2 ^ (68 * n) * 2 ^ 68 := Nat.mul_lt_mul_of_pos_left (by decide) (Nat.two_pow_pos _)
  rw [Nat.mul_add, Nat.pow_add]
  omega
theorem e_vloop (hx : x.natAbs ≤ 10 ^ 20) (d0 : Sl) : ∀ (q : List Int) (f : Int) (n : Nat) (s3 : Sl), (∀ c ∈ q, c.natAbs ≤ 10 ^ 20) → f.natAbs < 2 ^ (68 * n) → n + q.length ≤ 20 → ∃ s3', gForL (ggName 3) fb_value_of_whole_0 (q.map .int) [d0, .dat (.int x), .dat (.int f), s3] cu = .ok (.nx [d0, .dat (.int x), .dat (.int (q.foldl (fun f c => f * x + c) f)), s3']) cu
  | [], f, n, s3, _, _, _ => ⟨s3, rfl⟩
  | c :: q, f, n, s3, hq, hf, hn => by
    rw [List.length_cons] at hn
    obtain ⟨s, h⟩ := e_vloop hx d0 q (f * x + c) (n + 1) (.dat (.int c)) (fun z hz => hq z (List.mem_cons_of_mem _ hz)) (grow hf hx (hq c (List.mem_cons_self ..))) (by omega)
    exact ⟨s, rForC rfl (rSet (kBin (kBin (kVar rfl) (kVar rfl) (dMul_int (mulOk_sm (smP hf (by omega)) (sm20 hx)))) (kVar rfl) dAdd_int)) h⟩
theorem ev_foldl : ∀ l : List Int, l.reverse.foldl (fun f c => f * x + c) 0 = ev x l
  | [] => rfl
  | c :: r => by
    rw [List.reverse_cons, List.foldl_append, ev_foldl r, ev]
    simp only [List.foldl_cons, List.foldl_nil]
    grind
theorem e_val (hx : x.natAbs ≤ 10 ^ 20) (hl : ∀ c ∈ l, c.natAbs ≤ 10 ^ 20) (hn : l.length ≤ 20) : G_value_of_whole [.dat (tupI l), .dat (.int x)] cu = .ok (.int (ev x l)) cu := by
  obtain ⟨s, h⟩ := e_vloop (cu := cu) hx (.dat (tupI l)) l.reverse 0 0 .un (fun c hc => hl c (List.mem_reverse.mp hc)) (by decide) (by rw [List.length_reverse]; omega)
  rw [ev_foldl, List.map_reverse] at h
  exact kFn (rSeq (rSet kC) (rSeq (rFor (iRevT (kVar rfl)) h) (rRet (kVar rfl))))
/-- powers -/
theorem e_ploop (hx : x.natAbs ≤ 10 ^ 20) (d1 : Sl) : ∀ (q : List PyData) (f : Int) (n : Nat) (s3 : Sl), f.natAbs < 2 ^ (68 * n) → n + q.length ≤ 20 → ∃ s3', gForL (ggName 3) fb__law_power_0 q [.dat (.int x), d1, .dat (.int f), s3] cu = .ok (.nx [.dat (.int x), d1, .dat (.int (f * x ^ q.length)), s3']) cu
  | [], f, n, s3, _, _ => ⟨s3, by rw [List.length_nil, Int.pow_zero, Int.mul_one]; rfl⟩
  | c :: q, f, n, s3, hf, hn => by
    rw [List.length_cons] at hn
    have g := grow (c := 0) hf hx (by decide)
    rw [Int.add_zero] at g
    obtain ⟨s, h⟩ := e_ploop hx d1 q (f * x) (n + 1) (.dat c) g (by omega)
    have e : f * x * x ^ q.length = f * x ^ (c :: q).length := by rw [List.length_cons, Int.pow_succ]; grind
    rw [e] at h
    exact ⟨s, rForC rfl (rSet (kBin (kVar rfl) (kVar rfl) (dMul_int (mulOk_sm (smP hf (by omega)) (sm20 hx))))) h⟩
theorem e_pow (hx : x.natAbs ≤ 10 ^ 20) {n : Nat} (hn : n ≤ 15) : G__law_power [.dat (.int x), .dat (.int n)] cu = .ok (.int (x ^ n)) cu := by
  obtain ⟨s, h⟩ := e_ploop (cu := cu) hx (.dat (.int n)) (rngD 0 n) 1 1 .un (by decide) (by rw [DL.rng_len]; omega)
  rw [DL.rng_len, Int.one_mul] at h
  exact kFn (rSeq (rSet kC) (rSeq (rFor (iArg (aC (kVar rfl) aN) (rng_ok (by omega))) h) (rRet (kVar rfl))))
theorem e_le {i : Nat} (hx : x.natAbs ≤ 10 ^ 20) (hc : ∀ c ∈ l, c.natAbs ≤ 10 ^ 20) (hl : l.length ≤ 13) (hi : i < l.length) : le__law_val_0 [.dat (tupI l), .dat (.int x), .dat (.int i)] cu = .ok (.int (l[i] * x ^ i)) cu := by
  have hp : Sm (x ^ i) := by
    show (x ^ i).natAbs < _
    rw [Int.natAbs_pow]
    have h1 : x.natAbs ^ i ≤ (10 ^ 20) ^ i := Nat.pow_le_pow_left hx i
    have h2 : (10 ^ 20) ^ i ≤ (10 ^ 20) ^ 13 := Nat.pow_le_pow_right (by decide) (by omega)
    have h3 : ((10 : Nat) ^ 20) ^ 13 < 2 ^ 2000 := by decide
    omega
  exact kBin (kBin (kVar rfl) (kVar rfl) (dIxT hi)) (kApp (aC (kVar rfl) (aC (kVar rfl) aN)) (e_pow hx (by omega))) (dMul_int (mulOk_sm (sm20 (hc _ (List.getElem_mem hi))) hp))
theorem e_lc (hx : x.natAbs ≤ 10 ^ 20) (hc : ∀ c ∈ l, c.natAbs ≤ 10 ^ 20) (hl : l.length ≤ 13) : gLcL (ggName 2) gYes le__law_val_0 (rngD 0 l.length) [.dat (tupI l), .dat (.int x), .un] cu = .ok (((List.range l.length).map fun i => l.getD i 0 * x ^ i).map .int) cu := by
  have h := gLcL_pure (gg := ggName 2) (gt := gYes) (ge := le__law_val_0) (ρ := [.dat (tupI l), .dat (.int x), .un]) (cu := cu) (fun _ => true) (fun d => match d with | .int i => .int (l.getD i.toNat 0 * x ^ i.toNat) | _ => .none) (ds := rngD 0 l.length) fun d hd => by
    obtain ⟨i, hi, rfl⟩ := rng_mem.mp hd
    refine ⟨_, rfl, rfl, fun _ => ?_⟩
    rw [Int.zero_add]
    show le__law_val_0 [.dat (tupI l), .dat (.int x), .dat (.int (i : Int))] cu = .ok (.int (l.getD i 0 * x ^ i)) cu
    rw [e_le hx hc hl hi, show l.getD i 0 = l[i] by simp [List.getD, hi]]
  rw [h, List.filter_eq_self.mpr (fun _ _ => rfl), rngD, List.map_map, List.map_map]
  congr 1
  refine List.map_congr_left fun i _ => ?_
  simp
theorem e_lval (hx : x.natAbs ≤ 10 ^ 20) (hc : ∀ c ∈ l, c.natAbs ≤ 10 ^ 20) (hl : l.length ≤ 13) : G__law_val [.dat (tupI l), .dat (.int x)] cu = .ok (.int (ev x l)) cu := by
  have hs := dSum_ints (zs := (List.range l.length).map fun i => l.getD i 0 * x ^ i)
  rw [sum_ev] at hs
  have hd : dLen [tupI l] = some (.int (l.length : Int)) := by rw [dLen_tup, List.length_map]
  exact kFn (rRet (kCall (aC (kLst (kLc (iArg (aC (kCall (aC (kVar rfl) aN) hd) aN) (rng_ok (by omega))) (by rw [DL.rng_len]; omega) (e_lc hx hc hl))) aN) hs))
end
end Prog

set_option Elab.async false
set_option linter.all false
set_option maxRecDepth 100000
set_option maxHeartbeats 800000
set_option autoImplicit false
set_option exponentiation.threshold 4000
namespace Prog
open PySem PySem.Spec L2 DL ZP
abbrev Trm (l : List Int) : Prop := ZP.Tr l
abbrev ownI (f : List Int) : Sl := .own (f.map .int)
section
variable {cu : Cu} {l : List Int}
theorem cut_last {l : List Int} {c : Int} : cutD ((l ++ [c]).map PyData.int) none (some (-1)) = l.map .int := by
  unfold cutD HT.sIx
  have e : (-1 + ((l.length : Int) + 1)).toNat = l.length := by omega
  simp [e]
theorem ix_last {l : List Int} {c : Int} : dIx (lstI (l ++ [c])) (.int (-1)) = some (.int c) := by
  rw [dIx_lst]
  unfold atI ixN
  have e : (-1 + ((l.length : Int) + 1)).toNat = l.length := by omega
  have e1 : (1 : Int) ≤ (l.length : Int) + 1 := by omega
  simp [e, e1]
theorem ne_nil {l : List Int} {c : Int} : dNe (lstI (l ++ [c])) (.list []) = some (.bool true) := by
  rw [dNe_nil (fun d hd => by obtain ⟨i, _, rfl⟩ := List.mem_map.mp hd; exact ⟨i, rfl⟩)]
  simp
theorem shaped_tupI {zs : List Int} : SeqAt.shaped (tupI zs) = true := by
  obtain ⟨h1, h2⟩ := lay_ints (ds := zs.map .int) fun d hd => by obtain ⟨i, _, rfl⟩ := List.mem_map.mp hd; exact ⟨i, rfl⟩
  unfold SeqAt.shaped
  simp [PyData.canLay0, PyData.depth, h1, h2]
theorem eqv_zs : ∀ a b : List Int, PyData.eqvAll (a.map .int) (b.map .int) = decide (a = b)
  | [], [] => by simp [PyData.eqvAll]
  | [], y :: ys => by simp [PyData.eqvAll]
  | x :: xs, [] => by simp [PyData.eqvAll]
  | x :: xs, y :: ys => by
    simp only [List.map_cons, PyData.eqvAll, PyData.eqv, eqv_zs xs ys]
    by_cases h1 : x = y <;> by_cases h2 : xs = ys <;> simp [h1, h2]
theorem dEqT {a b : List Int} : dEq (tupI a) (tupI b) = some (.bool (decide (a = b))) := by
  simp [dEq, eqD, shaped_tupI, PyData.eqv, eqv_zs]
theorem dNeT {a b : List Int} : dNe (tupI a) (tupI b) = some (.bool (!decide (a = b))) := by
  simp [dNe, eqD, shaped_tupI, PyData.eqv, eqv_zs]
theorem dEqL {a b : List Int} : dEq (lstI a) (lstI b) = some (.bool (decide (a = b))) := by
  have s1 := shaped_lst (ds := a.map .int) fun d hd => by obtain ⟨i, _, rfl⟩ := List.mem_map.mp hd; exact ⟨i, rfl⟩
  have s2 := shaped_lst (ds := b.map .int) fun d hd => by obtain ⟨i, _, rfl⟩ := List.mem_map.mp hd; exact ⟨i, rfl⟩
  simp [dEq, eqD, s1, s2, PyData.eqv, eqv_zs]
theorem cut_loop (d0 : Sl) : ∀ (n : Nat) (l : List Int), l.length < n → ∃ zs : List Int, (∀ cu, gWhileF wt__law_cut_0 wb__law_cut_0 n [d0, .dat (lstI l)] cu = .ok (.nx [d0, .dat (lstI zs)]) cu) ∧ (∀ t, ev t zs = ev t l) ∧ Trm zs ∧ zs.length ≤ l.length ∧ (∀ c ∈ zs, c ∈ l) ∧ (Trm l → zs = l)
  | 0, _, h => absurd h (Nat.not_lt_zero _)
  | n + 1, l, h => by
    rcases List.eq_nil_or_concat l with rfl | ⟨l', c, rfl⟩
    · exact ⟨[], fun cu => rWhileF (tAndF (tBool (kBin (kVar rfl) (kDisp (ds := []) aN) rfl))), fun _ => rfl, fun c hc => (by simp at hc), Nat.le_refl _, fun c hc => hc, fun _ => rfl⟩
    · rw [List.concat_eq_append] at h ⊢
      have ht : ∀ cu, wt__law_cut_0 [d0, .dat (lstI (l' ++ [c]))] cu = .ok (decide (c = 0)) cu := fun cu =>
        tAndT (tBool (kBin (kVar rfl) (kDisp (ds := []) aN) ne_nil)) (tBool (kBin (kBin (kVar rfl) (kUn kC dNeg_int) ix_last) kC dEq_int))
      by_cases hc : c = 0
      · subst hc
        obtain ⟨zs, h1, h2, h3, h4, h5, h6⟩ := cut_loop d0 n l' (by simp at h; omega)
        refine ⟨zs, fun cu => rWhileT (by rw [ht]; rfl) (rSet (kSlice (kVar rfl) oN (oI (kUn kC dNeg_int)) (by rw [dCut_lst]; exact congrArg (fun z => some (PyData.list z)) cut_last))) (h1 cu), fun t => ?_, h3, by simp; omega, fun c hc => List.mem_append_left _ (h5 c hc), fun T => absurd rfl (T 0 (by simp))⟩
        rw [h2, ev_app]
        simp [ev]
      · exact ⟨l' ++ [c], fun cu => rWhileF (by rw [ht, decide_eq_false hc]), fun _ => rfl, fun x hx => by simp at hx; rw [← hx]; exact hc, Nat.le_refl _, fun c hc => hc, fun _ => rfl⟩
theorem e_cut {l : List Int} (h : l.length < 100) : ∃ zs : List Int, (∀ cu, G__law_cut [.dat (lstI l)] cu = .ok (tupI zs) cu) ∧ (∀ t, ev t zs = ev t l) ∧ Trm zs ∧ zs.length ≤ l.length ∧ (∀ c ∈ zs, c ∈ l) ∧ (Trm l → zs = l) := by
  obtain ⟨zs, h1, h2⟩ := cut_loop (.dat (lstI l)) 1000 l (by omega)
  exact ⟨zs, fun cu => kFn (rSeq (rSet (kCall (aC (kVar rfl) aN) dToLst_lst)) (rSeq (h1 cu) (rRet (kCall (aC (kVar rfl) aN) dToTup_lst)))), h2⟩
end

section
variable {cu : Cu} {f xs : List Int}
abbrev Bg : Int := 10 ^ 50 * 10 ^ 50
theorem ab_abs (z : Int) : ab z = (z.natAbs : Int) := by unfold ab; split <;> omega
/-- a whole line as it can be handed in -/
structure Wok (f : List Int) : Prop where
  len : f.length ≤ 13
  trm : Trm f
  sm : ∀ c ∈ f, ab c ≤ Bg
theorem allL_true {gg : GG} {gt : GT} {ge : GE} {ρ : En} : ∀ {l : List PyData}, (∀ d ∈ l, ∃ ρ1, gg d ρ = some ρ1 ∧ gt ρ1 cu = .ok true cu ∧ ge ρ1 cu = .ok (.bool true) cu) → gAllL gg gt ge l ρ cu = .ok true cu
  | [], _ => rfl
  | d :: r, h => by
    obtain ⟨ρ1, h1, h2, h3⟩ := h d (List.mem_cons_self ..)
    have ih := allL_true (gg := gg) (gt := gt) (ge := ge) (ρ := ρ) (l := r) fun d hd => h d (List.mem_cons_of_mem _ hd)
    have ey : dYes (.bool true) = some true := rfl
    have st : gAllL gg gt ge (d :: r) ρ cu = (Rs.ofO (gg d ρ) cu).bind fun ρ1 cu1 => (gt ρ1 cu1).nox.bind fun b cu2 => if b = true then (ge ρ1 cu2).nox.bind fun y cu3 => (Rs.ofO (dYes y) cu3).bind fun t cu4 => if t = true then gAllL gg gt ge r ρ cu4 else .ok false cu4 else gAllL gg gt ge r ρ cu2 := rfl
    rw [st, h1, Rs.ofO_some, Rs.bind_ok, h2, Rs.nox_ok, Rs.bind_ok, if_pos rfl, h3, Rs.nox_ok, Rs.bind_ok, ey, Rs.ofO_some, Rs.bind_ok, if_pos rfl, ih]
theorem kAllN {gi : GI} {vs : List Nat} {gg : GG} {gt : GT} {ge : GE} {ρ : En} {items : List PyData} (hi : gi ρ cu = .ok items cu) (h : ∀ d ∈ items, ∃ ρ1, gg d (wipeE ρ vs) = some ρ1 ∧ gt ρ1 cu = .ok true cu ∧ ge ρ1 cu = .ok (.bool true) cu) : gAllN gi vs gg gt ge ρ cu = .ok (.bool true) cu := by
  unfold gAllN gAllE
  rw [hi, Rs.bind_ok, allL_true h, Rs.bind_ok, Rs.nox_ok]
theorem e_isint {i : Int} : G_is_integer [.dat (.int i)] cu = .ok (.bool true) cu :=
  kFn (rRet (kAndT (kIsi (kVar rfl) rfl) (kNotV (kIsi (kVar rfl) (k := false) rfl))))
theorem ixT_last {l : List Int} {c : Int} : dIx (tupI (l ++ [c])) (.int (-1)) = some (.int c) := ix_last
theorem e_whole (F : Wok f) : G_is_whole [.dat (tupI f)] cu = .ok (.bool true) cu := by
  have hall : ∀ s, gOr (gNot (gTru (gIsi "tuple" (gVar 0)))) (gNot (gTru (gAllN (giTup (gVar 0)) [1] (ggName 1) gYes le_is_whole_0))) [.dat (tupI f), s] cu = .ok false cu := fun s =>
    tOrF (tNot (k := true) (tTru (kIsi (kVar rfl) (k := true) rfl) rfl)) (tNot (k := true) (tTru (kAllN (iTup (kVar rfl)) fun d hd => by
      obtain ⟨i, _, rfl⟩ := List.mem_map.mp hd
      exact ⟨_, rfl, rfl, kApp (aC (kVar rfl) aN) e_isint⟩) rfl))
  rcases List.eq_nil_or_concat f with e | ⟨l, c, e⟩
  · refine kFn (rSeq (rIfF (hall .un) rSkip) (rRet (kOrT (kBin (kVar rfl) (kDisp (ds := []) aN) ?_))))
    have := dEqT (a := f) (b := [])
    rw [decide_eq_true e] at this
    exact this
  · rw [List.concat_eq_append] at e
    have hc : c ≠ 0 := F.trm c (by rw [e]; simp)
    have hl : dIx (tupI f) (.int (-1)) = some (.int c) := by rw [e]; exact ixT_last
    have he : dEq (tupI f) (.tuple []) = some (.bool false) := by
      have := dEqT (a := f) (b := [])
      rw [decide_eq_false (by rw [e]; simp)] at this
      exact this
    exact kFn (rSeq (rIfF (hall .un) rSkip) (rRet (kOrF (kBin (kVar rfl) (kDisp (ds := []) aN) he) (kBin (kBin (kVar rfl) (kUn kC dNeg_int) hl) kC (by rw [dNe_int, decide_eq_false hc]; rfl)))))
theorem e_given (F : Wok f) : G_is_given_whole [.dat (tupI f)] cu = .ok (.bool true) cu := by
  have hl : dLen [tupI f] = some (.int (f.length : Int)) := by rw [dLen_tup, List.length_map]
  have hlen := F.len
  refine kFn (rRet (kAndT (kApp (aC (kVar rfl) aN) (e_whole F)) (kAndT (kBin (kCall (aC (kVar rfl) aN) hl) kC (by rw [fB0_int, decide_eq_true (by omega)])) (kAllN (iTup (kVar rfl)) fun d hd => ?_))))
  obtain ⟨i, hi, rfl⟩ := List.mem_map.mp hd
  refine ⟨_, rfl, rfl, kBin (kCall (aC (kVar rfl) aN) dAbs_ab) kC ?_⟩
  rw [fB0_int]
  exact congrArg (fun b => some (PyData.bool b)) (decide_eq_true (F.sm i hi))
theorem e_need (F : Wok f) : G_need_whole [.dat (tupI f)] cu = .ok .none cu := kFnN (rIfF (tNot (k := true) (tTru (kApp (aC (kVar rfl) aN) (e_given F)) rfl)) rSkip)
theorem e_needf (F : Wok f) (n : f ≠ []) : G_need_filled_whole [.dat (tupI f)] cu = .ok .none cu := by
  have he : dEq (tupI f) (.tuple []) = some (.bool false) := by
    have := dEqT (a := f) (b := [])
    rw [decide_eq_false n] at this
    exact this
  exact kFnN (rSeq (rDrop (kApp (aC (kVar rfl) aN) (e_need F))) (rIfF (tBool (kBin (kVar rfl) (kDisp (ds := []) aN) he)) rSkip))
theorem wok_small (ht : Trm f) (hs : ∀ z ∈ f, z.natAbs ≤ 10 ^ 20) (hl : f.length ≤ 13) : Wok f :=
  ⟨hl, ht, fun c hc => by
    have h := hs c hc
    rw [ab_abs]
    have e : ((10 ^ 20 : Nat) : Int) ≤ Bg := by decide
    omega⟩
theorem e_lis (l : List Int) (hl : l.length < 1000) : G__law_is [.dat (tupI l)] cu = .ok (.bool true) cu := by
  have hc : gLcL (ggName 1) lt__law_is_0 le__law_is_0 (l.map .int) [.dat (tupI l), .un] cu = .ok [] cu := by
    have h := gLcL_pure (gg := ggName 1) (gt := lt__law_is_0) (ge := le__law_is_0) (ρ := [.dat (tupI l), .un]) (cu := cu) (fun _ => false) id (ds := l.map .int) fun d hd => by
      obtain ⟨i, _, rfl⟩ := List.mem_map.mp hd
      exact ⟨_, rfl, tOrF (tTru (kIsi (kVar rfl) (k := false) rfl) rfl) (tNot (tTru (kIsi (kVar rfl) (k := true) rfl) rfl)), fun z => nomatch z⟩
    rw [h, List.filter_eq_nil_iff.mpr (fun a _ => Bool.false_ne_true)]
    rfl
  exact kFn (rRet (kAndT (kIsi (kVar rfl) rfl) (kBin (kLst (kLc (iTup (kVar rfl)) (by rw [List.length_map]; omega) hc)) (kDisp (ds := []) aN) eqL_nil2)))
end
section
variable {cu : Cu} {f xs : List Int}
abbrev L14 : List Int := [0, 1, -1, 2, -2, 3, -3, 5, -6, 12, 60, -100, 1000000, 7 - 100000000000000000000]
theorem e_lint (cu : Cu) : ∃ z c, z.natAbs ≤ 10 ^ 20 ∧ G__law_int [.cup] cu = .ok (.int z) c := by
  obtain ⟨k, hk, c1, e1⟩ := some_ex [8, 11, 14] (by decide) (by decide) cu
  have hk3 : k = 8 ∨ k = 11 ∨ k = 14 := by
    simp only [List.mem_cons, List.not_mem_nil, or_false] at hk
    exact hk
  have hkn : ∃ n : Nat, k = (n : Int) ∧ 0 < n ∧ n ≤ 14 := by
    rcases hk3 with rfl | rfl | rfl
    · exact ⟨8, rfl, by decide, by decide⟩
    · exact ⟨11, rfl, by decide, by decide⟩
    · exact ⟨14, rfl, by decide, by decide⟩
  obtain ⟨n, rfl, n0, n1⟩ := hkn
  have c2 : dCut (lstI L14) none (some (n : Int)) = some (lstI (L14.take n)) := by
    rw [dCut_lst, cutD_take (by rw [List.length_map]; exact n1), ← List.map_take]
  have hl : (L14.take n).length = n := by rw [List.length_take]; exact Nat.min_eq_left n1
  obtain ⟨z, hz, c3, e2⟩ := some_ex (L14.take n) (by omega) (by omega) c1
  refine ⟨z, c3, ?_, kFn (rRet (kApp (aCup rfl (aC (kSlice (a := lstI L14) (cu1 := cu) (by kernel_rfl) oN (oI (kApp (aCup rfl (aC (a := lstI [8, 11, 14]) (cu1 := cu) (by kernel_rfl) aN)) e1)) c2) aN)) e2))⟩
  have hz' := List.mem_of_mem_take hz
  have hall : ∀ z ∈ L14, z.natAbs ≤ 10 ^ 20 := by decide
  exact hall z hz'
theorem ln_comp (d1 : Sl) : ∀ (items : List PyData) (cu : Cu), ∃ (zs : List Int) (c : Cu), zs.length = items.length ∧ (∀ z ∈ zs, z.natAbs ≤ 10 ^ 20) ∧ gLcL (ggName 2) gYes le__law_line_0 items [.cup, d1, .un] cu = .ok (zs.map .int) c
  | [], cu => ⟨[], cu, rfl, by simp, rfl⟩
  | d :: items, cu => by
    obtain ⟨z, c1, hz, e1⟩ := e_lint cu
    obtain ⟨zs, c2, h1, h2, e2⟩ := ln_comp d1 items c1
    refine ⟨z :: zs, c2, by rw [List.length_cons, List.length_cons, h1], fun y hy => ?_, ?_⟩
    · rcases List.mem_cons.mp hy with e | e
      · rw [e]; exact hz
      · exact h2 y e
    · have hb : le__law_line_0 [.cup, d1, .dat d] cu = .ok (.int z) c1 := kApp (aCup rfl aN) e1
      rw [gLcL_cons]
      show ((Rs.ok [.cup, d1, .dat d] cu).bind _) = _
      rw [Rs.bind_ok]
      show ((Rs.ok true cu).nox.bind _) = _
      rw [Rs.nox_ok, Rs.bind_ok, if_pos rfl, hb, Rs.nox_ok, Rs.bind_ok, e2, Rs.bind_ok]
      rfl
theorem e_line (n : Nat) (hn : n < 50) (cu : Cu) : ∃ (zs : List Int) (c : Cu), Trm zs ∧ zs.length ≤ n + 1 ∧ (∀ z ∈ zs, z.natAbs ≤ 10 ^ 20) ∧ G__law_line [.cup, .dat (.int (n : Int))] cu = .ok (tupI zs) c := by
  obtain ⟨ys, c1, h1, h2, e1⟩ := ln_comp (.dat (.int (n : Int))) (rngD 0 (n + 1)) cu
  obtain ⟨zs, k1, k2, k3, k4, k5, k6⟩ := e_cut (l := ys) (by rw [h1, DL.rng_len]; omega)
  have ha : dAdd (.int (n : Int)) (.int 1) = some (.int ((n + 1 : Nat) : Int)) := rfl
  exact ⟨zs, c1, k3, by rw [h1, DL.rng_len] at k4; exact k4, fun z hz => h2 z (k5 z hz), kFn (rRet (kApp (aC (kLst (kLc (iArg (aC (kBin (kVar rfl) kC ha) aN) (rng_ok (by omega))) (by rw [DL.rng_len]; omega) e1)) aN) (k1 c1)))⟩
theorem Trm.last {l : List Int} (h : Trm l) (n : l ≠ []) : ∃ c, l.getLast? = some c ∧ c ≠ 0 := by
  cases e : l.getLast? with
  | none => exact absurd (List.getLast?_eq_none_iff.mp e) n
  | some c => exact ⟨c, rfl, h c e⟩
end
end Prog

set_option Elab.async false
set_option linter.all false
set_option maxRecDepth 100000
set_option maxHeartbeats 800000
set_option autoImplicit false
set_option exponentiation.threshold 4000
namespace Prog
open PySem PySem.Spec L2 DL ZP
section
variable {cu : Cu} {one other : List Int}
theorem rngD_succ (j m : Nat) : rngD (j : Int) (m + 1) = .int (j : Int) :: rngD ((j + 1 : Nat) : Int) m := by
  unfold rngD
  rw [List.range_succ_eq_map, List.map_cons, List.map_map]
  congr 1
  · simp
    intro a _
    omega
theorem add_nat {i j : Nat} : dAdd (.int (i : Int)) (.int (j : Int)) = some (.int ((i + j : Nat) : Int)) := by
  rw [dAdd_int]
  congr 2
theorem rep0 {n : Nat} (h : n ≤ 1000) : repL (.list [.int 0]) (.int (n : Int)) = some ((List.replicate n (0 : Int)).map .int) := by
  show (if _ then some _ else none) = _
  rw [if_pos ⟨by omega, by omega, by simp⟩, Int.toNat_natCast]
  congr 1
  induction n with
  | zero => rfl
  | succ n ih => rw [List.replicate_succ, List.flatten_cons, ih (by omega), List.replicate_succ]; rfl
theorem ev_rep (t : Int) (n : Nat) : ev t (List.replicate n 0) = 0 := ev_zero t _ fun c hc => (List.mem_replicate.mp hc).2
/-! the law's product -/
theorem lm_in (hM : ∀ a ∈ one, ∀ b ∈ other, mulOk a b = true) {N i : Nat} (hi : i < one.length) (hN : one.length + other.length = N + 1) : ∀ (m j : Nat) (S : List Int), j + m = other.length → S.length = N →
    ∃ S' : List Int, S'.length = N ∧ (∀ t, ev t S' = ev t S + one[i] * t ^ i * (t ^ j * ev t (other.drop j))) ∧ ∀ cu s4, ∃ s4', gForL (ggName 4) fb__law_mul_0 (rngD (j : Int) m) [.dat (tupI one), .dat (tupI other), ownI S, .dat (.int i), s4] cu = .ok (.nx [.dat (tupI one), .dat (tupI other), ownI S', .dat (.int i), s4']) cu
  | 0, j, S, hj, hS => ⟨S, hS, fun t => by rw [List.drop_of_length_le (by omega)]; simp [ev], fun cu s4 => ⟨s4, rfl⟩⟩
  | m + 1, j, S, hj, hS => by
    have hj' : j < other.length := by omega
    have hk : i + j < S.length := by omega
    obtain ⟨S', h1, h2, h3⟩ := lm_in hM hi hN m (j + 1) (S.set (i + j) (S[i + j] + one[i] * other[j])) (by omega) (by rw [List.length_set]; exact hS)
    refine ⟨S', h1, fun t => ?_, fun cu s4 => ?_⟩
    · rw [h2, ev_set _ _ _ _ hk, List.drop_eq_getElem_cons hj', ev, Int.pow_succ, Int.pow_add]
      grind
    · obtain ⟨s4', h⟩ := h3 cu (.dat (.int j))
      refine ⟨s4', ?_⟩
      rw [rngD_succ]
      have m := hM _ (List.getElem_mem hi) _ (List.getElem_mem hj')
      exact rForC rfl (rStO rfl (kBin (kIxO rfl (kBin (kVar rfl) (kVar rfl) add_nat) (dIxL hk)) (kBin (kBin (kVar rfl) (kVar rfl) (dIxT hi)) (kBin (kVar rfl) (kVar rfl) (dIxT hj')) (dMul_int m)) dAdd_int) (kBin (kVar rfl) (kVar rfl) add_nat) (ixO_int hk)) h
theorem lm_out (hM : ∀ a ∈ one, ∀ b ∈ other, mulOk a b = true) {N : Nat} (hN : one.length + other.length = N + 1) (hb : other.length < 1000) : ∀ (m i : Nat) (S : List Int), i + m = one.length → S.length = N →
    ∃ S' : List Int, S'.length = N ∧ (∀ t, ev t S' = ev t S + t ^ i * ev t (one.drop i) * ev t other) ∧ ∀ cu s3 s4, ∃ s3' s4', gForL (ggName 3) fb__law_mul_1 (rngD (i : Int) m) [.dat (tupI one), .dat (tupI other), ownI S, s3, s4] cu = .ok (.nx [.dat (tupI one), .dat (tupI other), ownI S', s3', s4']) cu
  | 0, i, S, hi, hS => ⟨S, hS, fun t => by rw [List.drop_of_length_le (by omega)]; simp [ev], fun cu s3 s4 => ⟨s3, s4, rfl⟩⟩
  | m + 1, i, S, hi, hS => by
    have hi' : i < one.length := by omega
    obtain ⟨S1, a1, a2, a3⟩ := lm_in hM hi' hN other.length 0 S (by omega) hS
    obtain ⟨S', h1, h2, h3⟩ := lm_out hM hN hb m (i + 1) S1 (by omega) a1
    refine ⟨S', h1, fun t => ?_, fun cu s3 s4 => ?_⟩
    · rw [h2, a2, List.drop_zero, List.drop_eq_getElem_cons hi', ev, Int.pow_succ, Int.pow_zero]
      grind
    · obtain ⟨s4', h⟩ := a3 cu s4
      obtain ⟨s3', s4'', h'⟩ := h3 cu (.dat (.int i)) s4'
      refine ⟨s3', s4'', ?_⟩
      rw [rngD_succ]
      have hd : dLen [tupI other] = some (.int (other.length : Int)) := by rw [dLen_tup, List.length_map]
      exact rForC rfl (rFor (iArg (aC (kCall (aC (kVar rfl) aN) hd) aN) (rng_ok hb)) h) h'
theorem e_mul (hM : ∀ a ∈ one, ∀ b ∈ other, mulOk a b = true) (h1 : one.length < 40) (h2 : other.length < 40) (hp : 0 < one.length + other.length) :
    ∃ S zs : List Int, S.length + 1 = one.length + other.length ∧ (∀ t, ev t S = ev t one * ev t other) ∧ (∀ cu, G__law_mul [.dat (tupI one), .dat (tupI other)] cu = .ok (tupI zs) cu) ∧ (∀ t, ev t zs = ev t S) ∧ Trm zs ∧ zs.length ≤ S.length ∧ (Trm S → zs = S) := by
  obtain ⟨N, hN⟩ : ∃ N, one.length + other.length = N + 1 := ⟨one.length + other.length - 1, by omega⟩
  obtain ⟨S, a1, a2, a3⟩ := lm_out hM hN (by omega) one.length 0 (List.replicate N 0) (by omega) (by simp)
  obtain ⟨zs, c1, c2, c3, c4, c5, c6⟩ := e_cut (l := S) (by omega)
  refine ⟨S, zs, by omega, fun t => ?_, fun cu => ?_, c2, c3, c4, c6⟩
  · rw [a2, ev_rep, List.drop_zero, Int.pow_zero]; grind
  · obtain ⟨s3, s4, h⟩ := a3 cu .un .un
    have e1 : dLen [tupI one] = some (.int (one.length : Int)) := by rw [dLen_tup, List.length_map]
    have e2 : dLen [tupI other] = some (.int (other.length : Int)) := by rw [dLen_tup, List.length_map]
    have e3 : dMax2 [.int 0, .int ((one.length + other.length : Nat) - 1 : Int)] = some (.int (N : Int)) := by
      rw [dMax2_int, hN]
      congr 2
      split <;> omega
    exact kFn (rSeq (rSetO (iRep (kDisp (ds := [.int 0]) (aC kC aN)) (kCall (aC kC (aC (kBin (kBin (kCall (aC (kVar rfl) aN) e1) (kCall (aC (kVar rfl) aN) e2) add_nat) kC fI0_int) aN)) e3) (rep0 (by omega)))) (rSeq (rFor (iArg (aC (kCall (aC (kVar rfl) aN) e1) aN) (rng_ok (by omega))) h) (rFrz rfl (rRet (kApp (aC (kVar rfl) aN) (c1 cu))))))
end
section
variable {cu : Cu} {one other : List Int}
theorem wp_in {N : Nat} (d0 d1 : Sl) (i : Nat) (a : Int) : ∀ (r : List Int) (j : Nat) (S : List Int), (∀ b ∈ r, mulOk a b = true) → i + j + r.length ≤ N → S.length = N →
    ∃ S' : List Int, S'.length = N ∧ (∀ t, ev t S' = ev t S + a * t ^ i * (t ^ j * ev t r)) ∧ ∀ cu s5 s6, ∃ s5' s6', gForL (ggTup 2 (ggCons (ggName 5) (ggCons (ggName 6) ggNil))) fb_whole_product_0 (enumF j (r.map .int)) [d0, d1, ownI S, .dat (.int i), .dat (.int a), s5, s6] cu = .ok (.nx [d0, d1, ownI S', .dat (.int i), .dat (.int a), s5', s6']) cu
  | [], j, S, _, hj, hS => ⟨S, hS, fun t => by simp [ev], fun cu s5 s6 => ⟨s5, s6, rfl⟩⟩
  | b :: r, j, S, hM, hj, hS => by
    rw [List.length_cons] at hj
    have hk : i + j < S.length := by omega
    obtain ⟨S', h1, h2, h3⟩ := wp_in (N := N) d0 d1 i a r (j + 1) (S.set (i + j) (S[i + j] + a * b)) (fun c hc => hM c (List.mem_cons_of_mem _ hc)) (by omega) (by rw [List.length_set]; exact hS)
    refine ⟨S', h1, fun t => ?_, fun cu s5 s6 => ?_⟩
    · rw [h2, ev_set _ _ _ _ hk, ev, Int.pow_succ, Int.pow_add]
      grind
    · obtain ⟨s5', s6', h⟩ := h3 cu (.dat (.int j)) (.dat (.int b))
      refine ⟨s5', s6', ?_⟩
      have m := hM b (List.mem_cons_self ..)
      exact rForC rfl (rAugO rfl (kBin (kVar rfl) (kVar rfl) add_nat) (dIxL hk) (kBin (kVar rfl) (kVar rfl) (dMul_int m)) fI0_int (ixO_int hk)) h
theorem wp_out {N : Nat} (d0 : Sl) (hN : one.length + other.length = N + 1) : ∀ (r : List Int) (i : Nat) (S : List Int), (∀ a ∈ r, ∀ b ∈ other, mulOk a b = true) → i + r.length = one.length → S.length = N →
    ∃ S' : List Int, S'.length = N ∧ (∀ t, ev t S' = ev t S + t ^ i * ev t r * ev t other) ∧ ∀ cu s3 s4 s5 s6, ∃ s3' s4' s5' s6', gForL (ggTup 2 (ggCons (ggName 3) (ggCons (ggName 4) ggNil))) fb_whole_product_1 (enumF i (r.map .int)) [d0, .dat (tupI other), ownI S, s3, s4, s5, s6] cu = .ok (.nx [d0, .dat (tupI other), ownI S', s3', s4', s5', s6']) cu
  | [], i, S, _, _, hS => ⟨S, hS, fun t => by simp [ev], fun cu s3 s4 s5 s6 => ⟨s3, s4, s5, s6, rfl⟩⟩
  | a :: r, i, S, hM, hi, hS => by
    rw [List.length_cons] at hi
    by_cases h0 : a = 0
    · subst h0
      obtain ⟨S', h1, h2, h3⟩ := wp_out d0 hN r (i + 1) S (fun c hc => hM c (List.mem_cons_of_mem _ hc)) (by omega) hS
      refine ⟨S', h1, fun t => ?_, fun cu s3 s4 s5 s6 => ?_⟩
      · rw [h2, ev, Int.pow_succ]; grind
      · obtain ⟨s3', s4', s5', s6', h⟩ := h3 cu (.dat (.int i)) (.dat (.int 0)) s5 s6
        exact ⟨s3', s4', s5', s6', rForC rfl (rIfF (tTru (kVar rfl) rfl) rSkip) h⟩
    · obtain ⟨S1, a1, a2, a3⟩ := wp_in (N := N) d0 (.dat (tupI other)) i a other 0 S (hM a (List.mem_cons_self ..)) (by omega) hS
      obtain ⟨S', h1, h2, h3⟩ := wp_out d0 hN r (i + 1) S1 (fun c hc => hM c (List.mem_cons_of_mem _ hc)) (by omega) a1
      refine ⟨S', h1, fun t => ?_, fun cu s3 s4 s5 s6 => ?_⟩
      · rw [h2, a2, ev, Int.pow_succ, Int.pow_zero]; grind
      · obtain ⟨t5, t6, h⟩ := a3 cu s5 s6
        obtain ⟨s3', s4', s5', s6', h'⟩ := h3 cu (.dat (.int i)) (.dat (.int a)) t5 t6
        refine ⟨s3', s4', s5', s6', rForC rfl (rIfT (tTru (kVar rfl) ?_) (rFor (iArg (aC (kVar rfl) aN) rfl) h)) h'⟩
        show some (a != 0) = _
        rw [bne_iff_ne.mpr h0]
theorem e_wp (hM : ∀ a ∈ one, ∀ b ∈ other, mulOk a b = true) (hp : 0 < one.length + other.length) (hl : one.length + other.length ≤ 1000) : ∃ S : List Int, S.length + 1 = one.length + other.length ∧ (∀ t, ev t S = ev t one * ev t other) ∧ ∀ cu, G_whole_product [.dat (tupI one), .dat (tupI other)] cu = .ok (tupI S) cu := by
  obtain ⟨N, hN⟩ : ∃ N, one.length + other.length = N + 1 := ⟨one.length + other.length - 1, by omega⟩
  obtain ⟨S, a1, a2, a3⟩ := wp_out (.dat (tupI one)) hN one 0 (List.replicate N 0) hM (by omega) (by simp)
  refine ⟨S, by omega, fun t => ?_, fun cu => ?_⟩
  · rw [a2, ev_rep, Int.pow_zero]; grind
  · obtain ⟨s3, s4, s5, s6, h⟩ := a3 cu .un .un .un .un
    have e1 : dLen [tupI one] = some (.int (one.length : Int)) := by rw [dLen_tup, List.length_map]
    have e2 : dLen [tupI other] = some (.int (other.length : Int)) := by rw [dLen_tup, List.length_map]
    have e3 : fI0 (fun i j => i - j) (.int ((one.length + other.length : Nat) : Int)) (.int 1) = some (.int (N : Int)) := by
      rw [fI0_int, hN]
      congr 2
      omega
    exact kFn (rSeq (rSetO (iRep (kDisp (ds := [.int 0]) (aC kC aN)) (kBin (kBin (kCall (aC (kVar rfl) aN) e1) (kCall (aC (kVar rfl) aN) e2) add_nat) kC e3) (rep0 (by omega)))) (rSeq (rFor (iArg (aC (kVar rfl) aN) rfl) h) (rFrz rfl (rRet (kCall (aC (kVar rfl) aN) dToTup_lst)))))
abbrev WH : PyData := .tuple [.str (PySem.Str.ofString "quot"), .int 0]
theorem tru_t {l : List Int} (h : l ≠ []) : dTru (tupI l) = some true := by
  cases l with
  | nil => exact absurd rfl h
  | cons a r => rfl
theorem e_nt {S : List Int} (h1 : one ≠ []) (h2 : other ≠ []) (h : ∀ cu, G_whole_product [.dat (tupI one), .dat (tupI other)] cu = .ok (tupI S) cu) : G_nested_times [.dat WH, .dat (tupI one), .dat (tupI other)] cu = .ok (tupI S) cu :=
  kFn (rSeq (rIfF (tTru (kIsi (kVar rfl) (k := false) rfl) rfl) rSkip) (rSeq (rIfF (tOrF (tNot (tTru (kVar rfl) (tru_t h1))) (tNot (tTru (kVar rfl) (tru_t h2)))) rSkip)
    (rSeqR (rIfT (tTru (kIsi (kBin (kVar rfl) kC (z := .int 0) rfl) (k := true) rfl) rfl) (rRet (kIfF (tTru (kBin (kVar rfl) kC (z := .int 0) rfl) rfl) (kApp (aC (kVar rfl) (aC (kVar rfl) aN)) (h cu))))))))
end

section
variable {cu : Cu} {one other : List Int}
theorem last_ex {l : List Int} (h : Trm l) (n : l ≠ []) : ∃ c, l.getLast? = some c ∧ c ≠ 0 := by
  cases e : l.getLast? with
  | none => exact absurd (List.getLast?_eq_none_iff.mp e) n
  | some c => exact ⟨c, rfl, h c e⟩
theorem cv_trm (t1 : Trm one) (t2 : Trm other) (n1 : one ≠ []) (n2 : other ≠ []) : Trm (cv one other) := by
  obtain ⟨p, hp, p0⟩ := last_ex t1 n1
  obtain ⟨q, hq, q0⟩ := last_ex t2 n2
  intro c hc
  rw [cv_last one other p q hp hq] at hc
  rw [← Option.some.inj hc]
  exact Int.mul_ne_zero p0 q0
theorem fls_t : dTru (tupI []) = some false := rfl
/-- the product, or nought -/
def cp (one other : List Int) : List Int := if one = [] ∨ other = [] then [] else cv one other
theorem ev_cp (t : Int) : ev t (cp one other) = ev t one * ev t other := by
  unfold cp
  split
  · rename_i h
    rcases h with h | h <;> simp [h, ev]
  · exact ev_cv t one other
theorem cp_trm (t1 : Trm one) (t2 : Trm other) : Trm (cp one other) := by
  unfold cp
  split
  · intro c hc; simp at hc
  · rename_i h
    exact cv_trm t1 t2 (fun e => h (.inl e)) (fun e => h (.inr e))
theorem cp_len (h1 : one ≠ []) (h2 : other ≠ []) : (cp one other).length + 1 = one.length + other.length := by
  unfold cp
  rw [if_neg (fun h => h.elim h1 h2)]
  exact cv_len one other h1 h2
theorem e_mul0 : G__law_mul [.dat (tupI []), .dat (tupI [])] cu = .ok (tupI []) cu := by kernel_rfl
theorem e_lmul (hM : ∀ a ∈ one, ∀ b ∈ other, mulOk a b = true) (t1 : Trm one) (t2 : Trm other) (h1 : one.length < 40) (h2 : other.length < 40) : G__law_mul [.dat (tupI one), .dat (tupI other)] cu = .ok (tupI (cp one other)) cu := by
  by_cases hp : 0 < one.length + other.length
  · obtain ⟨S, zs, a1, a2, a3, a4, a5, a6, a7⟩ := e_mul hM h1 h2 hp
    rw [a3, tr_inj a5 (cp_trm t1 t2) fun t => by rw [a4, a2, ev_cp]]
  · have e1 : one = [] := List.length_eq_zero_iff.mp (by omega)
    have e2 : other = [] := List.length_eq_zero_iff.mp (by omega)
    subst e1 e2
    exact e_mul0
theorem e_ntimes (hM : ∀ a ∈ one, ∀ b ∈ other, mulOk a b = true) (h1 : one.length < 40) (h2 : other.length < 40) : G_nested_times [.dat WH, .dat (tupI one), .dat (tupI other)] cu = .ok (tupI (cp one other)) cu := by
  unfold cp
  by_cases e1 : one = []
  · rw [if_pos (.inl e1)]
    subst e1
    exact kFn (rSeq (rIfF (tTru (kIsi (kVar rfl) (k := false) rfl) rfl) rSkip) (rSeqR (rIfT (tOrT (tNot (k := false) (tTru (kVar rfl) fls_t))) (rRet (kDisp (ds := []) aN)))))
  · by_cases e2 : other = []
    · rw [if_pos (.inr e2)]
      subst e2
      exact kFn (rSeq (rIfF (tTru (kIsi (kVar rfl) (k := false) rfl) rfl) rSkip) (rSeqR (rIfT (tOrF (tNot (k := true) (tTru (kVar rfl) (tru_t e1))) (tNot (k := false) (tTru (kVar rfl) fls_t))) (rRet (kDisp (ds := []) aN)))))
    · rw [if_neg (fun h => h.elim e1 e2)]
      have p1 := List.length_pos_iff.mpr e1
      obtain ⟨S, a1, a2, a3⟩ := e_wp hM (by omega) (by omega)
      have e : S = cv one other := ev_inj (by have := cv_len one other e1 e2; omega) fun t => by rw [a2, ev_cv]
      rw [e] at a3
      exact e_nt e1 e2 a3
theorem e_times (w1 : Wok one) (w2 : Wok other) (hM : ∀ a ∈ one, ∀ b ∈ other, mulOk a b = true) : G_whole_times_wholelines [.dat (tupI one), .dat (tupI other)] cu = .ok (tupI (cp one other)) cu :=
  kFn (rSeq (rDrop (kApp (aC (kVar rfl) aN) (e_need w1))) (rSeq (rDrop (kApp (aC (kVar rfl) aN) (e_need w2))) (rRet (kApp (aC kC (aC (kVar rfl) (aC (kVar rfl) aN))) (e_ntimes hM (by have := w1.len; omega) (by have := w2.len; omega))))))
end
end Prog

set_option Elab.async false
set_option linter.all false
set_option maxRecDepth 100000
set_option maxHeartbeats 800000
set_option autoImplicit false
set_option exponentiation.threshold 4000
namespace Prog
open PySem PySem.Spec L2 DL ZP
section
variable {cu cu1 cu2 : Cu} {l one other : List Int} {ρ : En} {ds es : List PyData} {d : PyData} {i j : Nat} {g : GE} {b : Bool} {ga : GA}
theorem Trm_nil : Trm [] := fun c h => by cases h
theorem tru_n {x : Int} : dTru (.int x) = some (decide (x ≠ 0)) := by
  show some (x != 0) = _
  by_cases h : x = 0 <;> simp [h]
theorem sub_one {n : Nat} : fI0 (fun i j => i - j) (.int ((n + 1 : Nat) : Int)) (.int 1) = some (.int (n : Int)) := by
  rw [fI0_int]
  congr 2
  omega
theorem tr_loop : ∀ (n m : Nat) (l : List Int), m ≤ l.length → m < n → ∃ k : Nat, k ≤ m ∧ (∀ cu, gWhileF wt_trimmed_0 wb_trimmed_0 n [.dat (lstI l), .dat (.int (m : Int))] cu = .ok (.nx [.dat (lstI l), .dat (.int (k : Int))]) cu) ∧ (∀ t, ev t (l.take k) = ev t (l.take m)) ∧ Trm (l.take k)
  | 0, m, l, _, h => absurd h (Nat.not_lt_zero _)
  | n + 1, 0, l, _, _ => ⟨0, Nat.le_refl _, fun cu => rWhileF (tAndF (tTru (kVar rfl) rfl)), fun _ => rfl, by rw [List.take_zero]; exact Trm_nil⟩
  | n + 1, m + 1, l, hm, h => by
    have e : l.take (m + 1) = l.take m ++ [l[m]] := by rw [List.take_succ, List.getElem?_eq_getElem (by omega)]; rfl
    have ht : ∀ cu, wt_trimmed_0 [.dat (lstI l), .dat (.int ((m + 1 : Nat) : Int))] cu = .ok (decide (l[m] = 0)) cu := fun cu => by
      have h1 : wt_trimmed_0 [.dat (lstI l), .dat (.int ((m + 1 : Nat) : Int))] cu = .ok (!(decide (l[m] ≠ 0))) cu := tAndT (tTru (kVar rfl) (by rw [tru_n, decide_eq_true (by omega)])) (tNot (tTru (kBin (kVar rfl) (kBin (kVar rfl) kC sub_one) (dIxL (i := m) (l := l) (by omega))) tru_n))
      refine h1.trans ?_
      congr 1
      by_cases hz : l[m] = 0 <;> simp [hz]
    by_cases hc : l[m] = 0
    · obtain ⟨k, h1, h2, h3, h4⟩ := tr_loop n m l (by omega) (by omega)
      refine ⟨k, by omega, fun cu => rWhileT (by rw [ht, decide_eq_true hc]) (rAug rfl kC sub_one) (h2 cu), fun t => ?_, h4⟩
      rw [h3, e, ev_app, hc]
      simp [ev]
    · refine ⟨m + 1, Nat.le_refl _, fun cu => rWhileF (by rw [ht, decide_eq_false hc]), fun _ => rfl, fun x hx => ?_⟩
      rw [e, List.getLast?_concat] at hx
      cases hx; exact hc
theorem e_trimmed (h : l.length < 1000) : ∃ zs : List Int, (∀ cu, G_trimmed [.dat (lstI l)] cu = .ok (tupI zs) cu) ∧ (∀ t, ev t zs = ev t l) ∧ Trm zs ∧ zs.length ≤ l.length ∧ ∀ c ∈ zs, c ∈ l := by
  obtain ⟨k, h1, h2, h3, h4⟩ := tr_loop 1000 l.length l (Nat.le_refl _) (by omega)
  rw [List.take_length] at h3
  have e1 : dLen [lstI l] = some (.int (l.length : Int)) := by rw [dLen_lst, List.length_map]
  have e2 : dCut (lstI l) none (some (k : Int)) = some (lstI (l.take k)) := by
    rw [dCut_lst]
    congr 2
    show List.take ((if (k : Int) < 0 then ((k : Int) + ((l.map PyData.int).length : Int)).toNat else min (k : Int).toNat (l.map PyData.int).length) - 0) (List.drop 0 (l.map PyData.int)) = (l.take k).map PyData.int
    rw [if_neg (by omega), List.drop_zero, List.length_map, Int.toNat_natCast, Nat.sub_zero, Nat.min_eq_left h1, List.map_take]
  refine ⟨l.take k, fun cu => kFn (rSeq (rSet (kCall (aC (kVar rfl) aN) e1)) (rSeq (h2 cu) (rRet (kCall (aC (kSlice (kVar rfl) oN (oI (kVar rfl)) e2) aN) dToTup_lst)))), h3, h4, by rw [List.length_take]; omega, fun c hc => List.mem_of_mem_take hc⟩
theorem rPop (hv : ρ[i]? = some (.own (ds ++ [d]))) : gPop j i ρ cu = .ok (.nx ((ρ.set i (.own ds)).set j (.dat d))) cu := by
  unfold gPop; rw [hv]; dsimp only; rw [List.getLast?_concat, Rs.ofO_some, Rs.bind_ok, List.dropLast_concat]
theorem rExt (hv : ρ[i]? = some (.own ds)) (hg : g ρ cu = .ok d cu1) (hd : dItems d = some es) (hl : ds.length + es.length ≤ 16777216) : gExt i g ρ cu = .ok (.nx (ρ.set i (.own (ds ++ es)))) cu1 := by
  unfold gExt; rw [hv]; dsimp only; rw [hg, Rs.bind_ok, hd, Rs.ofO_some, Rs.bind_ok, if_pos hl]
theorem tTruO (hv : ρ[i]? = some (.own ds)) (hk : (!ds.isEmpty) = b := by rfl) : gTruO i ρ cu = .ok b cu := by unfold gTruO; rw [hv, ← hk]
theorem rep0d {n : Nat} (h : n ≤ 1000) : dMul (.list [.int 0]) (.int (n : Int)) = some (lstI (List.replicate n (0 : Int))) := by
  have e : (if (n : Int) ≤ 1000 ∧ -1000 ≤ (n : Int) ∧ [PyData.int 0].length ≤ 1000 then some (List.replicate (n : Int).toNat [PyData.int 0]).flatten else none) = _ := rep0 h
  have h' : (n : Int) ≤ 1000 ∧ -1000 ≤ (n : Int) ∧ [PyData.int 0].length ≤ 1000 := ⟨by omega, by omega, by simp⟩
  rw [if_pos h'] at e
  show (if _ then some _ else none) = _
  rw [if_pos h']
  exact congrArg (Option.map PyData.list) e
theorem iTo (ha : ga ρ cu = .ok [.dat (tupI l)] cu1) : gfTo ga ρ cu = .ok (l.map .int) cu1 := by unfold gfTo; rw [ha, Rs.bind_ok]; rfl
theorem dropT {k : Nat} (h : k ≤ l.length) : dCut (tupI l) (some (k : Int)) none = some (tupI (l.drop k)) := by
  rw [dCut_tup, cutD_drop (by rw [List.length_map]; exact h), ← List.map_drop]
theorem np_comp (d0 d1 d2 d3 : Sl) : ∀ (x y : List Int) (cu : Cu) (s4 s5 : Sl), gLcL (ggTup 2 (ggCons (ggName 4) (ggCons (ggName 5) ggNil))) gYes le_nested_plus_0 (zipD (x.map .int) (y.map .int)) [d0, d1, d2, d3, s4, s5] cu = .ok ((List.zipWith (· + ·) x y).map .int) cu
  | [], y, cu, s4, s5 => by simp [zipD]; rfl
  | a :: x, [], cu, s4, s5 => by simp [zipD]; rfl
  | a :: x, b :: y, cu, s4, s5 => by
    have e : le_nested_plus_0 [d0, d1, d2, d3, .dat (.int a), .dat (.int b)] cu = .ok (.int (a + b)) cu := kBin (kVar rfl) (kVar rfl) dAdd_int
    rw [List.map_cons, List.map_cons, zipD_cc, gLcL_cons]
    show ((Rs.ok [d0, d1, d2, d3, .dat (.int a), .dat (.int b)] cu).bind _) = _
    rw [Rs.bind_ok]
    show ((Rs.ok true cu).nox.bind _) = _
    rw [Rs.nox_ok, Rs.bind_ok, if_pos rfl, e, Rs.nox_ok, Rs.bind_ok, np_comp d0 d1 d2 d3 x y, Rs.bind_ok]
    rfl
theorem la_comp (d0 d1 d2 : Sl) : ∀ (x y : List Int) (cu : Cu) (s4 s5 : Sl), gLcL (ggTup 2 (ggCons (ggName 3) (ggCons (ggName 4) ggNil))) gYes le__law_add_0 (zipD (x.map .int) (y.map .int)) [d0, d1, d2, s4, s5] cu = .ok ((List.zipWith (· + ·) x y).map .int) cu
  | [], y, cu, s4, s5 => by simp [zipD]; rfl
  | a :: x, [], cu, s4, s5 => by simp [zipD]; rfl
  | a :: x, b :: y, cu, s4, s5 => by
    have e : le__law_add_0 [d0, d1, d2, .dat (.int a), .dat (.int b)] cu = .ok (.int (a + b)) cu := kBin (kVar rfl) (kVar rfl) dAdd_int
    rw [List.map_cons, List.map_cons, zipD_cc, gLcL_cons]
    show ((Rs.ok [d0, d1, d2, .dat (.int a), .dat (.int b)] cu).bind _) = _
    rw [Rs.bind_ok]
    show ((Rs.ok true cu).nox.bind _) = _
    rw [Rs.nox_ok, Rs.bind_ok, if_pos rfl, e, Rs.nox_ok, Rs.bind_ok, la_comp d0 d1 d2 x y, Rs.bind_ok]
    rfl
theorem len_d {l : List Int} : dLen [tupI l] = some (.int (l.length : Int)) := by rw [dLen_tup, List.length_map]
theorem np_of {a b : List Int} (hl : b.length ≤ a.length) (h5 : a.length < 500)
    (hB : (gIf (gBool (gBin (fB0 fun i j => decide (i < j)) (gCall dLen (gaCons (gVar 1) gaNil)) (gCall dLen (gaCons (gVar 2) gaNil)))) (gPar 1 2 (gaCons (gVar 2) (gaCons (gVar 1) gaNil))) gSkip) [.dat WH, .dat (tupI one), .dat (tupI other), .un, .un, .un] cu = .ok (.nx [.dat WH, .dat (tupI a), .dat (tupI b), .un, .un, .un]) cu)
    {zs : List Int} (hz : G_trimmed [.dat (lstI (addP a b))] cu = .ok (tupI zs) cu) : G_nested_plus [.dat WH, .dat (tupI one), .dat (tupI other)] cu = .ok (tupI zs) cu := by
  have e3 : (List.zipWith (· + ·) a b).map PyData.int ++ (a.drop b.length).map PyData.int = (addP a b).map .int := by rw [← List.map_append, addP_zip a b hl]
  have hlen : (zipD (a.map PyData.int) (b.map .int)).length < 16777216 := by rw [zipD_length, List.length_map, List.length_map]; omega
  refine kFn (rSeq (rIfF (tTru (kIsi (kVar rfl) (k := false) rfl) rfl) rSkip) (rSeq hB (rSeq (rIfT (tBool (kBin (kBin (kVar rfl) kC (z := .int 0) rfl) kC (z := .bool true) rfl)) (rSetO (kLc (iArg (aC (kVar rfl) (aC (kVar rfl) aN)) rfl) hlen (np_comp _ _ _ _ a b cu .un .un)))) (rSeq (rExt rfl (kSlice (kVar rfl) (oI (kCall (aC (kVar rfl) aN) len_d)) oN (dropT hl)) (es := (a.drop b.length).map .int) rfl ?_) (rFrz (ds := (addP a b).map .int) ?_ (rRet (kApp (aC (kVar rfl) aN) hz)))))))
  · rw [List.length_map, List.length_map, List.length_zipWith, List.length_drop]; omega
  · rw [e3]; rfl
theorem e_nplus (h1 : one.length < 500) (h2 : other.length < 500) : ∃ zs : List Int, Trm zs ∧ (∀ t, ev t zs = ev t one + ev t other) ∧ ∀ cu, G_nested_plus [.dat WH, .dat (tupI one), .dat (tupI other)] cu = .ok (tupI zs) cu := by
  by_cases h : one.length < other.length
  · obtain ⟨zs, z1, z2, z3, _⟩ := e_trimmed (l := addP other one) (by rw [addP_len]; omega)
    refine ⟨zs, z3, fun t => by rw [z2, ev_addP]; omega, fun cu => np_of (a := other) (b := one) (by omega) h2 ?_ (z1 cu)⟩
    exact rIfT (tBool (kBin (kCall (aC (kVar rfl) aN) len_d) (kCall (aC (kVar rfl) aN) len_d) (by rw [fB0_int, decide_eq_true (by omega)]))) (rPar (aC (kVar rfl) (aC (kVar rfl) aN)))
  · obtain ⟨zs, z1, z2, z3, _⟩ := e_trimmed (l := addP one other) (by rw [addP_len]; omega)
    refine ⟨zs, z3, fun t => by rw [z2, ev_addP], fun cu => np_of (a := one) (b := other) (by omega) h1 ?_ (z1 cu)⟩
    exact rIfF (tBool (kBin (kCall (aC (kVar rfl) aN) len_d) (kCall (aC (kVar rfl) aN) len_d) (by rw [fB0_int, decide_eq_false (by omega)]))) rSkip
theorem padL {m : Nat} (h : l.length ≤ m) (hm : m < 100) : dAdd (lstI l) (lstI (List.replicate (m - l.length) 0)) = some (lstI (l ++ List.replicate (m - l.length) 0)) := by
  unfold lstI
  rw [List.map_append, dAdd_lst]
  rw [List.length_map, List.length_map, List.length_replicate]
  omega
theorem sub_nat {m n : Nat} (h : n ≤ m) : fI0 (fun i j => i - j) (.int (m : Int)) (.int (n : Int)) = some (.int ((m - n : Nat) : Int)) := by
  rw [fI0_int]
  congr 2
  omega
/-- the law's sum -/
theorem e_ladd (h1 : one.length < 50) (h2 : other.length < 50) : ∃ zs : List Int, Trm zs ∧ (∀ t, ev t zs = ev t one + ev t other) ∧ ∀ cu, G__law_add [.dat (tupI one), .dat (tupI other)] cu = .ok (tupI zs) cu := by
  have hm1 : one.length ≤ max one.length other.length := Nat.le_max_left ..
  have hm2 : other.length ≤ max one.length other.length := Nat.le_max_right ..
  have hm3 : max one.length other.length < 50 := by omega
  obtain ⟨m, hm⟩ : ∃ m, m = max one.length other.length := ⟨_, rfl⟩
  rw [← hm] at hm1 hm2 hm3
  have e0 : dMax2 [.int (one.length : Int), .int (other.length : Int)] = some (.int (m : Int)) := by
    rw [dMax2_int, hm]
    congr 2
    split <;> omega
  obtain ⟨zs, z1, z2, z3, _⟩ := e_cut (l := List.zipWith (· + ·) (one ++ List.replicate (m - one.length) 0) (other ++ List.replicate (m - other.length) 0)) (by rw [List.length_zipWith, List.length_append, List.length_append, List.length_replicate, List.length_replicate]; omega)
  refine ⟨zs, z3, fun t => ?_, fun cu => ?_⟩
  · rw [z2, ev_addz _ _ _ (by simp; omega), ev_app_zero, ev_app_zero]
  · have hlen : (zipD ((one ++ List.replicate (m - one.length) 0).map PyData.int) ((other ++ List.replicate (m - other.length) 0).map .int)).length < 16777216 := by
      rw [zipD_length, List.length_map, List.length_map, List.length_append, List.length_append, List.length_replicate, List.length_replicate]; omega
    exact kFn (rSeq (rSet (kCall (aC (kCall (aC (kVar rfl) aN) len_d) (aC (kCall (aC (kVar rfl) aN) len_d) aN)) e0)) (rRet (kApp (aC (kLst (kLc (iArg (aC (kBin (kCall (aC (kVar rfl) aN) dToLst_tup) (kBin (kDisp (ds := [.int 0]) (aC kC aN)) (kBin (kVar rfl) (kCall (aC (kVar rfl) aN) len_d) (sub_nat hm1)) (rep0d (by omega))) (padL hm1 (by omega)))
      (aC (kBin (kCall (aC (kVar rfl) aN) dToLst_tup) (kBin (kDisp (ds := [.int 0]) (aC kC aN)) (kBin (kVar rfl) (kCall (aC (kVar rfl) aN) len_d) (sub_nat hm2)) (rep0d (by omega))) (padL hm2 (by omega))) aN)) rfl) hlen (la_comp _ _ _ _ _ cu .un .un))) aN) (z1 cu))))
/-- both sums are one -/
theorem e_plus (w1 : Wok one) (w2 : Wok other) : ∃ zs : List Int, Trm zs ∧ (∀ t, ev t zs = ev t one + ev t other) ∧ (∀ cu, G_whole_plus [.dat (tupI one), .dat (tupI other)] cu = .ok (tupI zs) cu) ∧ ∀ cu, G__law_add [.dat (tupI one), .dat (tupI other)] cu = .ok (tupI zs) cu := by
  have l1 := w1.len
  have l2 := w2.len
  obtain ⟨zs, a1, a2, a3⟩ := e_nplus (one := one) (other := other) (by omega) (by omega)
  obtain ⟨ys, b1, b2, b3⟩ := e_ladd (one := one) (other := other) (by omega) (by omega)
  have e : ys = zs := tr_inj b1 a1 fun t => by rw [a2, b2]
  rw [e] at b3
  exact ⟨zs, a1, a2, fun cu => kFn (rSeq (rDrop (kApp (aC (kVar rfl) aN) (e_need w1))) (rSeq (rDrop (kApp (aC (kVar rfl) aN) (e_need w2))) (rRet (kApp (aC kC (aC (kVar rfl) (aC (kVar rfl) aN))) (a3 cu))))), b3⟩
end
end Prog

set_option Elab.async false
set_option linter.all false
set_option maxRecDepth 100000
set_option maxHeartbeats 800000
set_option autoImplicit false
set_option exponentiation.threshold 4000
namespace Prog
open PySem PySem.Spec L2 DL ZP
section
variable {cu cu1 cu2 : Cu} {l : List Int} {ρ ρ1 ρ2 : En} {gg : GG} {s : GS} {d : PyData} {items : List PyData} {c : Int}
theorem cm_loop : ∀ (n a b : Nat), b < n → ∀ cu, gWhileF wt__law_common_0 wb__law_common_0 n [.dat (.int (a : Int)), .dat (.int (b : Int))] cu = .ok (.nx [.dat (.int ((Nat.gcd a b : Nat) : Int)), .dat (.int 0)]) cu
  | 0, _, _, h, _ => absurd h (Nat.not_lt_zero _)
  | n + 1, a, 0, h, cu => by
    rw [Nat.gcd_zero_right]
    exact rWhileF (tBool (kBin (kVar rfl) kC rfl))
  | n + 1, a, b + 1, h, cu => by
    have e : Nat.gcd a (b + 1) = Nat.gcd (b + 1) (a % (b + 1)) := by rw [Nat.gcd_comm a, Nat.gcd_rec, Nat.gcd_comm]
    have hm : a % (b + 1) < b + 1 := Nat.mod_lt a (Nat.succ_pos b)
    rw [e]
    refine rWhileT (tBool (kBin (kVar rfl) kC (z := .bool true) ?_)) (rPar (aC (kVar rfl) (aC (kBin (kCall (aC (kVar rfl) aN) dToInt_int) (kVar rfl) (z := .int ((a % (b + 1) : Nat) : Int)) ?_) aN))) (cm_loop n (b + 1) (a % (b + 1)) (by omega) cu)
    · rw [dNe_int, decide_eq_false (by omega)]; rfl
    · rw [fI_int (modOk_b (by omega))]
      congr 2
      rw [Int.fmod_eq_emod_of_nonneg _ (by omega)]
      rfl
theorem e_common (x y : Int) : G__law_common [.dat (.int x), .dat (.int y)] cu = .ok (.int ((Nat.gcd x.natAbs y.natAbs : Nat) : Int)) cu := by
  have h := cm_loop (y.natAbs + 2) x.natAbs y.natAbs (by omega) cu
  refine kFn (rSeq (rPar (aC (kCall (aC (kVar rfl) aN) dAbs_ab) (aC (kCall (aC (kVar rfl) aN) dAbs_ab) aN))) (rSeq (ρ1 := [.dat (.int ((Nat.gcd x.natAbs y.natAbs : Nat) : Int)), .dat (.int 0)]) ?_ (rRet (kVar rfl))))
  rw [ab_abs, ab_abs]
  exact h
/-- a loop that is left -/
theorem rForB (hg : gg d ρ = some ρ1) (hb : s ρ1 cu = .ok (.brk ρ2) cu1) : gForL gg s (d :: items) ρ cu = .ok (.nx ρ2) cu1 := by
  rw [gForL_cons, hg, Rs.ofO_some, Rs.bind_ok, hb, Rs.bind_ok]
theorem lc_loop (d0 : Sl) : ∀ (l : List Int) (c : Nat) (s2 : Sl), ∃ s2', ∀ cu, gForL (ggName 2) fb__law_cont_0 (l.map .int) [d0, .dat (.int (c : Int)), s2] cu = .ok (.nx [d0, .dat (.int ((cg c l : Nat) : Int)), s2']) cu
  | [], c, s2 => ⟨s2, fun cu => rfl⟩
  | x :: l, c, s2 => by
    obtain ⟨s, h⟩ := lc_loop d0 l (Nat.gcd c x.natAbs) (.dat (.int x))
    refine ⟨s, fun cu => ?_⟩
    have e := e_common (cu := cu) (c : Int) x
    rw [Int.natAbs_natCast] at e
    exact rForC rfl (rSet (kApp (aC (kVar rfl) (aC (kVar rfl) aN)) e)) (h cu)
theorem lead_lt : (l = [] ∧ l.getLast?.getD 0 = 0) ∨ ∃ c, l ≠ [] ∧ l.getLast?.getD 0 = c ∧ dIx (tupI l) (.int (-1)) = some (.int c) := by
  rcases List.eq_nil_or_concat l with e | ⟨l', c, e⟩
  · exact .inl ⟨e, by rw [e]; rfl⟩
  · rw [List.concat_eq_append] at e
    exact .inr ⟨c, by rw [e]; simp, by rw [e]; simp, by rw [e]; exact ixT_last⟩
theorem e_lcont : G__law_cont [.dat (tupI l)] cu = .ok (.int (cs l)) cu := by
  obtain ⟨s2, h⟩ := lc_loop (.dat (tupI l)) l 0 .un
  refine kFn (rSeq (rSet kC) (rSeq (rFor (iTup (kVar rfl)) (h cu)) (rRet ?_)))
  unfold cs
  rcases lead_lt (l := l) with ⟨e, e0⟩ | ⟨c, n, e0, e1⟩
  · rw [e0, if_neg (by omega)]
    exact kIfF (tAndF (tBool (kBin (kVar rfl) (kDisp (ds := []) aN) (by have := dNeT (a := l) (b := []); rw [decide_eq_true e] at this; exact this)))) (kVar rfl)
  · rw [e0]
    have hn : dNe (tupI l) (.tuple []) = some (.bool true) := by have := dNeT (a := l) (b := []); rw [decide_eq_false n] at this; exact this
    by_cases hc : c < 0
    · rw [if_pos hc]
      refine kIfT (tAndT (tBool (kBin (kVar rfl) (kDisp (ds := []) aN) hn)) (tBool (kBin (kBin (kVar rfl) (kUn kC dNeg_int) e1) kC (by rw [fB0_int, decide_eq_true hc])))) (kBin kC (kVar rfl) ?_)
      rw [fI0_int, Int.zero_sub]
    · rw [if_neg hc]
      exact kIfF (tAndT (tBool (kBin (kVar rfl) (kDisp (ds := []) aN) hn)) (tBool (kBin (kBin (kVar rfl) (kUn kC dNeg_int) e1) kC (by rw [fB0_int, decide_eq_false hc])))) (kVar rfl)
theorem e_nci (x : Int) : G_nested_content_i [.dat (.int 0), .dat (.int x)] cu = .ok (.int (ab x)) cu :=
  kFn (rSeqR (rIfT (tTru (kIsi (kVar rfl) (k := true) rfl) rfl) (rRet (kCall (aC (kVar rfl) aN) dAbs_ab))))
theorem gcd_ab (c : Nat) (x : Int) : dGcd [.int (c : Int), .int (ab x)] = some (.int ((Nat.gcd c x.natAbs : Nat) : Int)) := by
  rw [ab_abs]; rfl
theorem nc_loop (d1 : Sl) : ∀ (l : List Int) (c : Nat) (s3 : Sl), ∃ s3', ∀ cu, gForL (ggName 3) fb_nested_content_1 (l.map .int) [.dat WH, d1, .dat (.int (c : Int)), s3] cu = .ok (.nx [.dat WH, d1, .dat (.int ((cg c l : Nat) : Int)), s3']) cu
  | [], c, s3 => ⟨s3, fun cu => rfl⟩
  | x :: l, c, s3 => by
    have st : ∀ cu, (gSet 2 (gCall dGcd (gaCons (gVar 2) (gaCons (gApp 2 G_nested_content_i (gaCons (gBin dIx (gVar 0) (gC (.int 1))) (gaCons (gVar 3) gaNil))) gaNil)))) [.dat WH, d1, .dat (.int (c : Int)), .dat (.int x)] cu = .ok (.nx [.dat WH, d1, .dat (.int ((Nat.gcd c x.natAbs : Nat) : Int)), .dat (.int x)]) cu := fun cu =>
      rSet (kCall (aC (kVar rfl) (aC (kApp (aC (kBin (kVar rfl) kC (z := .int 0) rfl) (aC (kVar rfl) aN)) (e_nci x)) aN)) (gcd_ab c x))
    by_cases h1 : Nat.gcd c x.natAbs = 1
    · refine ⟨.dat (.int x), fun cu => ?_⟩
      have e : cg c (x :: l) = 1 := by rw [cg, h1, cg_one]
      rw [e]
      have st' := st cu
      rw [h1] at st'
      exact rForB rfl (rSeq st' (rIfT (tBool (kBin (kVar rfl) kC (z := .bool true) rfl)) rfl))
    · obtain ⟨s, h⟩ := nc_loop d1 l (Nat.gcd c x.natAbs) (.dat (.int x))
      exact ⟨s, fun cu => rForC rfl (rSeq (st cu) (rIfF (tBool (kBin (kVar rfl) kC (by rw [dEq_int, decide_eq_false (by omega)]))) rSkip)) (h cu)⟩
theorem e_nc : G_nested_content [.dat WH, .dat (tupI l)] cu = .ok (.int ((cg 0 l : Nat) : Int)) cu := by
  obtain ⟨s3, h⟩ := nc_loop (.dat (tupI l)) l 0 .un
  exact kFn (rSeq (rIfF (tTru (kIsi (kVar rfl) (k := false) rfl) rfl) rSkip) (rSeq (rSet kC) (rSeq (rFor (iTup (kVar rfl)) (h cu)) (rRet (kVar rfl)))))
theorem e_wc : G_whole_content [.dat (tupI l)] cu = .ok (.int (cs l)) cu := by
  refine kFn (rSeq (rSet (kApp (aC kC (aC (kVar rfl) aN)) e_nc)) (rRet ?_))
  unfold cs
  rcases lead_lt (l := l) with ⟨e, e0⟩ | ⟨c, n, e0, e1⟩
  · rw [e0, if_neg (by omega)]
    subst e
    exact kIfF (tAndF (tTru (kVar rfl) rfl)) (kVar rfl)
  · rw [e0]
    by_cases hc : c < 0
    · rw [if_pos hc]
      exact kIfT (tAndT (tTru (kVar rfl) (tru_t n)) (tBool (kBin (kBin (kVar rfl) (kUn kC dNeg_int) e1) kC (by rw [fB0_int, decide_eq_true hc])))) (kUn (kVar rfl) dNeg_int)
    · rw [if_neg hc]
      exact kIfF (tAndT (tTru (kVar rfl) (tru_t n)) (tBool (kBin (kBin (kVar rfl) (kUn kC dNeg_int) e1) kC (by rw [fB0_int, decide_eq_false hc])))) (kVar rfl)
theorem e_content (w : Wok l) : G_content_of [.dat (tupI l)] cu = .ok (.int (cs l)) cu := kFn (rSeq (rDrop (kApp (aC (kVar rfl) aN) (e_need w))) (rRet (kApp (aC (kVar rfl) aN) e_wc)))
theorem sh_map {d0 : Sl} {f : Int → Int} : ∀ l : List Int, (∀ x ∈ l, ez_shared_line_0 [d0, .dat (.int c)] (.int x) = some (f x)) → mapO (ez_shared_line_0 [d0, .dat (.int c)]) (l.map .int) = some (l.map f)
  | [], _ => rfl
  | x :: l, h => by
    have ih := sh_map (d0 := d0) (f := f) l fun y hy => h y (List.mem_cons_of_mem _ hy)
    rw [List.map_cons, mapO, h x (List.mem_cons_self ..), ih]
    rfl
theorem e_shared (h0 : c ≠ 0) (hs : Sm c) (hl : l.length < 1000) : G_shared_line [.dat (tupI l), .dat (.int c)] cu = .ok (tupI (l.map fun x => x.fdiv c)) cu := by
  have hm := sh_map (c := c) (d0 := .dat (tupI l)) (f := fun x => x.fdiv c) l fun x _ => by
    show (if divOk x c = true then some (x.fdiv c) else none) = _
    rw [if_pos (divOk_sm h0 hs)]
  refine kFn (rRet ?_)
  show ((Rs.ok (tupI l) cu).bind _) = _
  rw [Rs.bind_ok]
  show Rs.ofO ((mapO (ez_shared_line_0 [.dat (tupI l), .dat (.int c)]) (l.map .int)).bind _) cu = _
  rw [hm, Option.bind_some, if_pos (by rw [List.length_map]; omega), Rs.ofO_some]
theorem e_prim (w : Wok l) (n : l ≠ []) (h0 : cs l ≠ 0) (hs : Sm (cs l)) : G_primitive_of [.dat (tupI l)] cu = .ok (tupI (pm l)) cu :=
  kFn (rSeq (rDrop (kApp (aC (kVar rfl) aN) (e_needf w n))) (rRet (kApp (aC (kVar rfl) aN) (kFn (rRet (kApp (aC (kVar rfl) (aC (kApp (aC (kVar rfl) aN) e_wc) aN)) (e_shared h0 hs (by have := w.len; omega))))))))
theorem e_lprim (h0 : cs l ≠ 0) (hs : Sm (cs l)) (hl : l.length < 1000) : G__law_prim [.dat (tupI l)] cu = .ok (tupI (pm l)) cu := by
  have h := gLcL_map (gg := ggName 1) (ge := le__law_prim_0) (ρ := [.dat (tupI l), .un]) (cu := cu) (fun d => match d with | .int x => .int (x.fdiv (cs l)) | _ => .none) (ds := l.map .int) fun d hd => by
    obtain ⟨x, _, rfl⟩ := List.mem_map.mp hd
    exact ⟨_, rfl, kBin (kVar rfl) (kApp (aC (kVar rfl) aN) e_lcont) (fI_int (divOk_sm h0 hs))⟩
  rw [List.map_map] at h
  have h' : gLcL (ggName 1) gYes le__law_prim_0 (l.map .int) [.dat (tupI l), .un] cu = .ok ((pm l).map .int) cu := by
    rw [h, pm, List.map_map]; rfl
  exact kFn (rRet (kCall (aC (kLst (kLc (iTup (kVar rfl)) (by rw [List.length_map]; omega) h')) aN) dToTup_lst))
end
end Prog

set_option Elab.async false
set_option linter.all false
set_option maxRecDepth 100000
set_option maxHeartbeats 800000
set_option autoImplicit false
set_option exponentiation.threshold 4000
namespace Prog
open PySem PySem.Spec L2 DL ZP
abbrev outD : Option (List Int) → PyData
  | some Q => tupI Q
  | none => .none
section
variable {cu : Cu} {ini : List Int} {lead : Int}
theorem e_nm0 {x y : Int} : G_nested_minus [.dat (.int 0), .dat (.int x), .dat (.int y)] cu = .ok (.int (x - y)) cu :=
  kFn (rSeqR (rIfT (tBool (kBin (kVar rfl) kC (z := .bool true) rfl)) (rRet (kBin (kVar rfl) (kVar rfl) fI0_int))))
theorem e_nt0 {x y : Int} (m : mulOk x y = true) : G_nested_times [.dat (.int 0), .dat (.int x), .dat (.int y)] cu = .ok (.int (x * y)) cu :=
  kFn (rSeqR (rIfT (tTru (kIsi (kVar rfl) (k := true) rfl) rfl) (rRet (kIfF (tTru (kVar rfl) rfl) (kBin (kVar rfl) (kVar rfl) (dMul_int m))))))
theorem e_ie {x y : Int} (h0 : y ≠ 0) (hs : Sm y) : G_integer_exact [.dat (.int 0), .dat (.int x), .dat (.int y)] cu = .ok (if x.fmod y = 0 then .int (x.fdiv y) else .none) cu := by
  have d : dDm [.int x, .int y] = some (.tuple [.int (x.fdiv y), .int (x.fmod y)]) := dDm_int (divOk_sm h0 hs)
  refine kFn (rSeq (rIfF (tTru (kVar rfl) rfl) rSkip) (rSeq (rAsg (kCall (aC (kVar rfl) (aC (kVar rfl) aN)) d) rfl) (rRet ?_)))
  by_cases h : x.fmod y = 0
  · rw [if_pos h]
    exact kIfF (tTru (kVar rfl) (by rw [tru_n, decide_eq_false (fun z => z h)])) (kVar rfl)
  · rw [if_neg h]
    exact kIfT (tTru (kVar rfl) (by rw [tru_n, decide_eq_true h])) kC
theorem e_nei {x y : Int} (h0 : y ≠ 0) (hs : Sm y) : G_nested_exact_i [.dat (.int 0), .dat (.int x), .dat (.int y)] cu = .ok (if x.fmod y = 0 then .int (x.fdiv y) else .none) cu :=
  kFn (rSeqR (rIfT (tTru (kIsi (kVar rfl) (k := true) rfl) rfl) (rRet (kApp (aC (kVar rfl) (aC (kVar rfl) (aC (kVar rfl) aN))) (e_ie h0 hs)))))
theorem dIxC {S : List Int} {i : Nat} (hi : i < S.length) : dIx (lstI S) (.int (i : Int)) = some (.int (co S i)) := by rw [dIxL hi, co_lt hi]
theorem ne_in {k : Nat} {q : Int} (s0 s1 s2 s3 s6 s8 : Sl) : ∀ (bs : List Int) (j : Nat) (R : List Int) (cu : Cu) (s10 s11 : Sl), (∀ b ∈ bs, mulOk q b = true) → k + j + bs.length ≤ R.length →
    ∃ s10' s11', gForL (ggTup 2 (ggCons (ggName 10) (ggCons (ggName 11) ggNil))) fb_nested_exact_2 (enumF j (bs.map .int)) [s0, s1, s2, s3, .dat (.int 0), ownI R, s6, .dat (.int (k : Int)), s8, .dat (.int q), s10, s11] cu = .ok (.nx [s0, s1, s2, s3, .dat (.int 0), ownI (sq q (k + j) bs R), s6, .dat (.int (k : Int)), s8, .dat (.int q), s10', s11']) cu
  | [], j, R, cu, s10, s11, _, _ => ⟨s10, s11, rfl⟩
  | b :: bs, j, R, cu, s10, s11, hm, h => by
    rw [List.length_cons] at h
    have hk : k + j < R.length := by omega
    obtain ⟨t10, t11, g⟩ := ne_in (k := k) (q := q) s0 s1 s2 s3 s6 s8 bs (j + 1) (R.set (k + j) (co R (k + j) - q * b)) cu (.dat (.int j)) (.dat (.int b)) (fun c hc => hm c (List.mem_cons_of_mem _ hc)) (by rw [List.length_set]; omega)
    exact ⟨t10, t11, rForC rfl (rStO rfl (kApp (aC (kVar rfl) (aC (kIxO rfl (kBin (kVar rfl) (kVar rfl) add_nat) (dIxC hk)) (aC (kApp (aC (kVar rfl) (aC (kVar rfl) (aC (kVar rfl) aN))) (e_nt0 (hm b (List.mem_cons_self ..)))) aN))) e_nm0) (kBin (kVar rfl) (kVar rfl) add_nat) (ixO_int hk)) g⟩
theorem rngR_succ (m : Nat) : rngR (m + 1) = .int (m : Int) :: rngR m := by
  unfold rngR
  rw [List.range_succ_eq_map, List.map_cons, List.map_map]
  congr 1
  · congr 1
    simp
  · apply List.map_congr_left
    intro i _
    simp only [Function.comp]
    congr 1
    omega
theorem rep_cons (m : Nat) (T : List Int) : List.replicate (m + 1) (0 : Int) ++ T = List.replicate m 0 ++ 0 :: T := by
  rw [List.replicate_succ', List.append_assoc]; rfl
theorem rep_set (m : Nat) (q : Int) (T : List Int) : (List.replicate m (0 : Int) ++ 0 :: T).set m q = List.replicate m 0 ++ q :: T := by
  rw [List.set_append_right _ _ (by simp)]
  simp
/-- how a run of the program's loop ends -/
def NeEnd (m : Nat) (R T ini : List Int) (lead : Int) (s0 s1 s2 s3 : Sl) (o : Ou) : Prop :=
  (qd ini lead m R = none ∧ o = .ret .none) ∨ ∃ (R' W' : List Int) (s7 s8 s9 s10 s11 : Sl), o = .nx [s0, s1, s2, s3, .dat (.int 0), ownI R', ownI W', s7, s8, s9, s10, s11] ∧
    ((R'.any (· != 0) = true ∧ qd ini lead m R = none) ∨ (R'.any (· != 0) = false ∧ ∃ Q, qd ini lead m R = some Q ∧ W' = Q ++ T))
theorem ne_out (h0 : lead ≠ 0) (hs : Sm lead) (hb : ∀ b ∈ ini, b.natAbs < 2 ^ 67) (s0 s1 s3 : Sl) : ∀ (m : Nat) (R T : List Int) (B : Nat) (cu : Cu) (s7 s8 s9 s10 s11 : Sl), R.length = m + ini.length → R.length < 900 → m + T.length < 900 → Bq B R → B + 68 * m ≤ 1900 →
    ∃ o, gForL (ggName 7) fb_nested_exact_3 (rngR m) [s0, s1, .dat (tupI (ini ++ [lead])), s3, .dat (.int 0), ownI R, ownI (List.replicate m 0 ++ T), s7, s8, s9, s10, s11] cu = .ok o cu ∧ NeEnd m R T ini lead s0 s1 (.dat (tupI (ini ++ [lead]))) s3 o
  | 0, R, T, B, cu, s7, s8, s9, s10, s11, hR, _, _, _, _ => by
    refine ⟨_, rfl, .inr ⟨R, _, s7, s8, s9, s10, s11, rfl, ?_⟩⟩
    unfold qd
    by_cases h : R.any (· != 0) = true
    · exact .inl ⟨h, by rw [if_pos h]⟩
    · exact .inr ⟨eq_false_of_ne_true h, [], by rw [if_neg h], rfl⟩
  | m + 1, R, T, B, cu, s7, s8, s9, s10, s11, hR, hR9, hT, hB, hBm => by
    rcases List.eq_nil_or_concat R with rfl | ⟨R', r, rfl⟩
    · rw [List.length_nil] at hR; omega
    rw [List.concat_eq_append] at hR hR9 hB ⊢
    rw [List.length_append, List.length_singleton] at hR hR9
    have hR' : R'.length = m + ini.length := by omega
    obtain ⟨hB', hr⟩ := hB.init
    have g1 : ((R' ++ [r]).getLast?.getD 0) = r := by simp
    have g4 : (R' ++ [r]).dropLast = R' := by simp
    have hpop : ∀ (W : Sl), gPop 8 5 [s0, s1, .dat (tupI (ini ++ [lead])), s3, .dat (.int 0), ownI (R' ++ [r]), W, .dat (.int (m : Int)), s8, s9, s10, s11] cu = .ok (.nx [s0, s1, .dat (tupI (ini ++ [lead])), s3, .dat (.int 0), ownI R', W, .dat (.int (m : Int)), .dat (.int r), s9, s10, s11]) cu := fun W => by
      have := rPop (ρ := [s0, s1, .dat (tupI (ini ++ [lead])), s3, .dat (.int 0), ownI (R' ++ [r]), W, .dat (.int (m : Int)), s8, s9, s10, s11]) (i := 5) (j := 8) (ds := R'.map .int) (d := .int r) (cu := cu) (by simp [ownI])
      exact this
    have ilead : dIx (tupI (ini ++ [lead])) (.int (-1)) = some (.int lead) := ixT_last
    have cutI : dCut (tupI (ini ++ [lead])) none (some (-1)) = some (tupI ini) := by rw [dCut_tup]; exact congrArg (fun z => some (PyData.tuple z)) cut_last
    rw [rngR_succ]
    by_cases hr0 : r = 0
    · -- nothing to take off
      subst hr0
      have e0 : (0 : Int).fmod lead = 0 := Int.zero_fmod lead
      have e1 : (0 : Int).fdiv lead = 0 := Int.zero_fdiv lead
      obtain ⟨o, ho, hE⟩ := ne_out h0 hs hb s0 s1 s3 m R' (0 :: T) B cu (.dat (.int (m : Int))) (.dat (.int 0)) s9 s10 s11 hR' (by omega) (by rw [List.length_cons]; omega) hB' (by omega)
      refine ⟨o, ?_, ?_⟩
      · rw [rep_cons]
        exact rForC rfl (rSeq (hpop _) (rIfF (tTru (kVar rfl) rfl) rSkip)) ho
      · have eq : qd ini lead (m + 1) (R' ++ [0]) = (qd ini lead m R').map (· ++ [0]) := by
          rw [qd, g1, if_pos e0, e1, g4, sq_zero _ _ _ (by omega)]
        unfold NeEnd at hE ⊢
        rw [eq]
        rcases hE with ⟨h1, h2⟩ | ⟨R2, W2, t7, t8, t9, t10, t11, h1, h2 | ⟨h2, Q, h3, h4⟩⟩
        · exact .inl ⟨by rw [h1]; rfl, h2⟩
        · exact .inr ⟨R2, W2, t7, t8, t9, t10, t11, h1, .inl ⟨h2.1, by rw [h2.2]; rfl⟩⟩
        · exact .inr ⟨R2, W2, t7, t8, t9, t10, t11, h1, .inr ⟨h2, Q ++ [0], by rw [h3]; rfl, by rw [h4, List.append_assoc]; rfl⟩⟩
    · have tr : dTru (.int r) = some true := by rw [tru_n, decide_eq_true hr0]
      have call : ∀ (W : Sl) cu, gApp 3 G_nested_exact_i (gaCons (gVar 4) (gaCons (gVar 8) (gaCons (gBin dIx (gVar 2) (gUn dNeg (gC (.int 1)))) gaNil))) [s0, s1, .dat (tupI (ini ++ [lead])), s3, .dat (.int 0), ownI R', W, .dat (.int (m : Int)), .dat (.int r), s9, s10, s11] cu = .ok (if r.fmod lead = 0 then .int (r.fdiv lead) else .none) cu := fun W cu =>
        kApp (aC (kVar rfl) (aC (kVar rfl) (aC (kBin (kVar rfl) (kUn kC dNeg_int) ilead) aN))) (e_nei h0 hs)
      by_cases hd : r.fmod lead = 0
      · have hq : (r.fdiv lead).natAbs < 2 ^ B := Nat.lt_of_le_of_lt (fdiv_abs h0 hd) hr
        have hq2 : Sm (r.fdiv lead) := Nat.lt_of_lt_of_le hq (Nat.pow_le_pow_right (by decide) (by omega))
        have hm : ∀ b ∈ ini, mulOk (r.fdiv lead) b = true := fun b hbb => mulOk_sm hq2 (Nat.lt_of_lt_of_le (hb b hbb) (Nat.pow_le_pow_right (by decide) (by decide)))
        obtain ⟨u10, u11, gi⟩ := ne_in (k := m) (q := r.fdiv lead) s0 s1 (.dat (tupI (ini ++ [lead]))) s3 (ownI (List.replicate m 0 ++ r.fdiv lead :: T)) (.dat (.int r)) ini 0 R' cu s10 s11 hm (by omega)
        rw [Nat.add_zero] at gi
        obtain ⟨o, ho, hE⟩ := ne_out h0 hs hb s0 s1 s3 m (sq (r.fdiv lead) m ini R') (r.fdiv lead :: T) (B + 68) cu (.dat (.int (m : Int))) (.dat (.int r)) (.dat (.int (r.fdiv lead))) u10 u11 (by rw [sq_len]; exact hR') (by rw [sq_len]; omega) (by rw [List.length_cons]; omega) (hB'.sq hq hb (by omega)) (by omega)
        have call' := fun W cu => (call W cu).trans (by rw [if_pos hd])
        refine ⟨o, ?_, ?_⟩
        · rw [rep_cons]
          have st : ixO ((List.replicate m 0 ++ 0 :: T).map .int) (.int (m : Int)) (.int (r.fdiv lead)) = some ((List.replicate m 0 ++ r.fdiv lead :: T).map .int) := by
            rw [ixO_int (by simp), rep_set]
          exact rForC rfl (rSeq (hpop _) (rIfT (tTru (kVar rfl) tr) (rSeq (rSet (call' _ cu)) (rSeq (rIfF (tBool (kBin (kVar rfl) kC (z := .bool false) rfl)) rSkip) (rSeq (rStO rfl (kVar rfl) (kVar rfl) st) (rFor (iArg (aC (kSlice (kVar rfl) oN (oI (kUn kC dNeg_int)) cutI) aN) rfl) gi)))))) ho
        · have eq : qd ini lead (m + 1) (R' ++ [r]) = (qd ini lead m (sq (r.fdiv lead) m ini R')).map (· ++ [r.fdiv lead]) := by
            rw [qd, g1, if_pos hd, g4]
          unfold NeEnd at hE ⊢
          rw [eq]
          rcases hE with ⟨h1, h2⟩ | ⟨R2, W2, t7, t8, t9, t10, t11, h1, h2 | ⟨h2, Q, h3, h4⟩⟩
          · exact .inl ⟨by rw [h1]; rfl, h2⟩
          · exact .inr ⟨R2, W2, t7, t8, t9, t10, t11, h1, .inl ⟨h2.1, by rw [h2.2]; rfl⟩⟩
          · exact .inr ⟨R2, W2, t7, t8, t9, t10, t11, h1, .inr ⟨h2, Q ++ [r.fdiv lead], by rw [h3]; rfl, by rw [h4, List.append_assoc]; rfl⟩⟩
      · have call' := fun W cu => (call W cu).trans (by rw [if_neg hd])
        refine ⟨.ret .none, ?_, .inl ⟨by rw [qd, g1, if_neg hd], rfl⟩⟩
        have hb : fb_nested_exact_3 [s0, s1, .dat (tupI (ini ++ [lead])), s3, .dat (.int 0), ownI (R' ++ [r]), ownI (List.replicate (m + 1) 0 ++ T), .dat (.int (m : Int)), s8, s9, s10, s11] cu = .ok (.ret .none) cu :=
          rSeq (hpop _) (rIfT (tTru (kVar rfl) tr) (rSeq (rSet (call' _ cu)) (rSeqR (rIfT (tBool (kBin (kVar rfl) kC (z := .bool true) rfl)) (rRet kC)))))
        rw [gForL_cons]
        show ((Rs.ok _ cu).bind _) = _
        rw [Rs.bind_ok]
        show ((fb_nested_exact_3 [s0, s1, .dat (tupI (ini ++ [lead])), s3, .dat (.int 0), ownI (R' ++ [r]), ownI (List.replicate (m + 1) 0 ++ T), .dat (.int (m : Int)), s8, s9, s10, s11] cu).bind _) = _
        rw [hb, Rs.bind_ok]
theorem any_ints {l : List Int} : dAnyI [lstI l] = some (.bool (l.any (· != 0))) := by
  show ((intsD (l.map .int)).map _) = _
  rw [intsD_map]; rfl
theorem iRngR {ga : GE} {ρ : En} {cu1 : Cu} {m : Nat} (ha : ga ρ cu = .ok (.int (m : Int)) cu1) (hm : m < 1000) : giRngR ga ρ cu = .ok (rngR m) cu1 := by
  unfold giRngR
  rw [ha, Rs.bind_ok]
  have h : -(2 ^ 62) ≤ (m : Int) ∧ (m : Int) < 2 ^ 62 := ⟨Int.le_trans (by decide) (Int.natCast_nonneg m), Int.lt_of_lt_of_le (Int.ofNat_lt.mpr hm) (by decide)⟩
  have e : dRngR (.int (m : Int)) = some (rngR m) := by
    unfold dRngR
    dsimp only
    rw [if_pos h, Int.toNat_natCast]
  rw [e, Rs.ofO_some]
theorem e_exact {l : List Int} (h0 : lead ≠ 0) (hs : Sm lead) (hb : ∀ b ∈ ini, b.natAbs < 2 ^ 67) (hl : l.length < 20) (hB : Bq 200 l) (hi : ini.length < 20) : G_nested_exact [.dat WH, .dat (tupI l), .dat (tupI (ini ++ [lead]))] cu = .ok (outD (exQ l ini lead)) cu := by
  have lo : dLen [tupI (ini ++ [lead])] = some (.int ((ini.length + 1 : Nat) : Int)) := by rw [len_d, List.length_append]; rfl
  unfold exQ
  by_cases hc : l.length ≤ ini.length
  · rw [if_pos hc]
    have hr : (gIfE (gTru (gVar 1)) (gC .none) (gDisp .tuple gaNil)) [.dat WH, .dat (tupI l), .dat (tupI (ini ++ [lead])), .dat (.int ((l.length : Int) - ((ini.length + 1 : Nat) : Int) + 1)), .un, .un, .un, .un, .un, .un, .un, .un] cu = .ok (outD (if l = [] then some [] else none)) cu := by
      by_cases e : l = []
      · subst e
        rw [if_pos rfl]
        exact kIfF (tTru (kVar rfl) rfl) (kDisp (ds := []) aN)
      · rw [if_neg e]
        exact kIfT (tTru (kVar rfl) (tru_t e)) kC
    exact kFn (rSeq (rIfF (tTru (kIsi (kVar rfl) (k := false) rfl) rfl) rSkip) (rSeq (rSet (kBin (kBin (kCall (aC (kVar rfl) aN) len_d) (kCall (aC (kVar rfl) aN) lo) fI0_int) kC dAdd_int)) (rSeqR (rIfT (tBool (kBin (kVar rfl) kC (by rw [fB0_int, decide_eq_true (by omega)]))) (rRet hr)))))
  · rw [if_neg hc]
    obtain ⟨m, hm⟩ : ∃ m, m = l.length - ini.length := ⟨_, rfl⟩
    rw [← hm]
    have e3 : dAdd (.int ((l.length : Int) - ((ini.length + 1 : Nat) : Int))) (.int 1) = some (.int (m : Int)) := by
      rw [dAdd_int]
      congr 2
      omega
    obtain ⟨o, ho, hE⟩ := ne_out h0 hs hb (.dat WH) (.dat (tupI l)) (.dat (.int (m : Int))) m l [] 200 cu .un .un .un .un .un (by omega) (by omega) (by simp; omega) hB (by omega)
    rw [List.append_nil] at ho
    have ini0 : gfRep (gDisp .list (gaCons (gApp 2 G_nested_constant (gaCons (gVar 4) (gaCons (gC (.int 0)) gaNil))) gaNil)) (gVar 3) [.dat WH, .dat (tupI l), .dat (tupI (ini ++ [lead])), .dat (.int (m : Int)), .dat (.int 0), ownI l, .un, .un, .un, .un, .un, .un] cu = .ok ((List.replicate m 0).map .int) cu :=
      iRep (kDisp (ds := [.int 0]) (aC (kApp (aC (kVar rfl) (aC kC aN)) (kFn (rSeqR (rIfT (tTru (kIsi (kVar rfl) (k := true) rfl) rfl) (rRet (kVar rfl)))))) aN)) (kVar rfl) (rep0 (by omega))
    unfold NeEnd at hE
    rcases hE with ⟨h1, h2⟩ | ⟨R2, W2, t7, t8, t9, t10, t11, h1, h2⟩
    · rw [h1]
      rw [h2] at ho
      exact kFn (rSeq (rIfF (tTru (kIsi (kVar rfl) (k := false) rfl) rfl) rSkip) (rSeq (rSet (kBin (kBin (kCall (aC (kVar rfl) aN) len_d) (kCall (aC (kVar rfl) aN) lo) fI0_int) kC e3)) (rSeq (rIfF (tBool (kBin (kVar rfl) kC (by rw [fB0_int, decide_eq_false (by omega)]))) rSkip)
        (rSeq (rSet (kBin (kVar rfl) kC (z := .int 0) rfl)) (rSeq (rSetO (iTo (aC (kVar rfl) aN))) (rSeq (rSetO ini0) (rSeqR (rFor (iRngR (kVar rfl) (by omega)) ho))))))))
    · rw [h1] at ho
      have fin : (gIfE (gTru (gCall dAnyI (gaCons (gVar 5) gaNil))) (gC .none) (gCall dToTup (gaCons (gVar 6) gaNil))) [.dat WH, .dat (tupI l), .dat (tupI (ini ++ [lead])), .dat (.int (m : Int)), .dat (.int 0), .dat (lstI R2), .dat (lstI W2), t7, t8, t9, t10, t11] cu = .ok (outD (qd ini lead m l)) cu := by
        rcases h2 with ⟨a1, a2⟩ | ⟨a1, Q, a2, a3⟩
        · rw [a2]
          exact kIfT (tTru (kCall (aC (kVar rfl) aN) any_ints) (by rw [a1]; rfl)) kC
        · rw [a2, a3, List.append_nil]
          exact kIfF (tTru (kCall (aC (kVar rfl) aN) any_ints) (by rw [a1]; rfl)) (kCall (aC (kVar rfl) aN) dToTup_lst)
      exact kFn (rSeq (rIfF (tTru (kIsi (kVar rfl) (k := false) rfl) rfl) rSkip) (rSeq (rSet (kBin (kBin (kCall (aC (kVar rfl) aN) len_d) (kCall (aC (kVar rfl) aN) lo) fI0_int) kC e3)) (rSeq (rIfF (tBool (kBin (kVar rfl) kC (by rw [fB0_int, decide_eq_false (by omega)]))) rSkip)
        (rSeq (rSet (kBin (kVar rfl) kC (z := .int 0) rfl)) (rSeq (rSetO (iTo (aC (kVar rfl) aN))) (rSeq (rSetO ini0) (rSeq (rFor (iRngR (kVar rfl) (by omega)) ho) (rFrz rfl (rFrz rfl (rRet fin))))))))))
theorem e_wdiv {l : List Int} (w : Wok l) (w2 : Wok (ini ++ [lead])) (h0 : lead ≠ 0) (hs : Sm lead) (hb : ∀ b ∈ ini, b.natAbs < 2 ^ 67) (hB : Bq 200 l) : G_whole_divided_wholelines [.dat (tupI l), .dat (tupI (ini ++ [lead]))] cu = .ok (outD (exQ l ini lead)) cu :=
  kFn (rSeq (rDrop (kApp (aC (kVar rfl) aN) (e_need w))) (rSeq (rDrop (kApp (aC (kVar rfl) aN) (e_needf w2 (by simp)))) (rRet (kApp (aC kC (aC (kVar rfl) (aC (kVar rfl) aN))) (e_exact h0 hs hb (by have := w.len; omega) hB (by have := w2.len; simp at this; omega))))))
end
end Prog

set_option Elab.async false
set_option linter.all false
set_option maxRecDepth 100000
set_option maxHeartbeats 800000
set_option autoImplicit false
set_option exponentiation.threshold 4000
namespace Prog
open PySem PySem.Spec L2 DL ZP
section
variable {cu : Cu} {ini : List Int} {lead : Int}
theorem appL {a b : List Int} (h : a.length + b.length < 1000) : dAdd (lstI a) (lstI b) = some (lstI (a ++ b)) := by
  unfold lstI
  rw [List.map_append, dAdd_lst]
  rw [List.length_map, List.length_map]
  omega
theorem co_end {R : List Int} {r : Int} {n : Nat} (h : R.length = n) : co (R ++ [r]) n = r := by subst h; simp [co]
theorem co_mid {m : Nat} {q : Int} {T : List Int} : co (List.replicate m 0 ++ q :: T) m = q := by
  unfold co
  rw [List.getD_eq_getElem?_getD, List.getElem?_append_right (by simp)]
  simp
theorem rGParO {i j : Nat} {g1 : GI} {g2 : GE} {ρ : En} {ds : List PyData} {d : PyData} {cu1 cu2 : Cu} (h1 : g1 ρ cu = .ok ds cu1) (h2 : g2 ρ cu1 = .ok d cu2) : gParO i j g1 g2 ρ cu = .ok (.nx ((ρ.set i (.own ds)).set j (.dat d))) cu2 := by
  unfold gParO; rw [h1, Rs.bind_ok, h2, Rs.bind_ok]
def LqEnd (m : Nat) (R T ini : List Int) (lead : Int) (s0 s1 : Sl) (o : Ou) : Prop :=
  (qd ini lead m R = none ∧ o = .ret .none) ∨ ∃ (Z' W' : List Int) (s2 s5 s6 : Sl), o = .nx [s0, s1, s2, ownI W', .dat (tupI Z'), s5, s6] ∧
    ((Z' ≠ [] ∧ qd ini lead m R = none) ∨ (Z' = [] ∧ ∃ Q, qd ini lead m R = some Q ∧ W' = Q ++ T))
theorem sqLq {q : Int} (m : Nat) (T Z : List Int) (r : Int) (s0 s5 : Sl) (hm : ∀ b ∈ ini ++ [lead], mulOk q b = true) (hl : (ini ++ [lead]).length < 900) (hm9 : m + T.length < 900) :
    gL (gLc (giTup (gVar 1)) [6] (ggName 6) gYes le__law_quotient_0) [s0, .dat (tupI (ini ++ [lead])), .dat (.int (m : Int)), ownI (List.replicate m 0 ++ q :: T), .dat (tupI Z), s5, .un] cu = .ok (lstI ((ini ++ [lead]).map fun b => 0 - q * b)) cu := by
  have hx : dIx (lstI (List.replicate m 0 ++ q :: T)) (.int (m : Int)) = some (.int q) := by rw [dIxC (by simp), co_mid]
  have h := gLcL_map (gg := ggName 6) (ge := le__law_quotient_0) (ρ := [s0, .dat (tupI (ini ++ [lead])), .dat (.int (m : Int)), ownI (List.replicate m 0 ++ q :: T), .dat (tupI Z), s5, .un]) (cu := cu) (fun d => match d with | .int b => .int (0 - q * b) | _ => .none) (ds := (ini ++ [lead]).map .int) fun d hd => by
    obtain ⟨b, hb, rfl⟩ := List.mem_map.mp hd
    exact ⟨_, rfl, kBin kC (kBin (kIxO rfl (kVar rfl) hx) (kVar rfl) (dMul_int (hm b hb))) fI0_int⟩
  have h' : gLcL (ggName 6) gYes le__law_quotient_0 ((ini ++ [lead]).map .int) [s0, .dat (tupI (ini ++ [lead])), .dat (.int (m : Int)), ownI (List.replicate m 0 ++ q :: T), .dat (tupI Z), s5, .un] cu = .ok (((ini ++ [lead]).map fun b => 0 - q * b).map .int) cu := by
    rw [h, List.map_map, List.map_map]; rfl
  exact kLst (kLc (iTup (kVar rfl)) (by rw [List.length_map]; omega) h')
theorem lq_out (h0 : lead ≠ 0) (hs : Sm lead) (hb : ∀ b ∈ ini, b.natAbs < 2 ^ 67) (s0 : Sl) : ∀ (m : Nat) (R Z T : List Int) (B : Nat) (cu : Cu) (s2 s5 : Sl), R.length = m + ini.length → R.length < 45 → m + T.length < 900 → Trm Z → (∀ t, ev t Z = ev t R) → Bq B R → B + 68 * m ≤ 1900 →
    ∃ o, gForL (ggName 2) fb__law_quotient_0 (rngR m) [s0, .dat (tupI (ini ++ [lead])), s2, ownI (List.replicate m 0 ++ T), .dat (tupI Z), s5, .un] cu = .ok o cu ∧ LqEnd m R T ini lead s0 (.dat (tupI (ini ++ [lead]))) o
  | 0, R, Z, T, B, cu, s2, s5, hR, hR9, hT, tz, ez, _, _ => by
    refine ⟨_, rfl, .inr ⟨Z, _, s2, s5, .un, rfl, ?_⟩⟩
    unfold qd
    by_cases h : R.any (· != 0) = true
    · refine .inl ⟨fun e => ?_, by rw [if_pos h]⟩
      subst e
      have hz : R.any (· != 0) = false := any_zero.mpr fun c hc => by
        obtain ⟨i, hi⟩ := co_mem hc
        rw [← hi, ← co_of_ev ez i]; rfl
      rw [hz] at h
      cases h
    · refine .inr ⟨tr_nil tz fun t => ?_, [], by rw [if_neg h], rfl⟩
      rw [ez, ev_zero t R (any_zero.mp (eq_false_of_ne_true h))]
  | m + 1, R, Z, T, B, cu, s2, s5, hR, hR9, hT, tz, ez, hB, hBm => by
    rcases List.eq_nil_or_concat R with rfl | ⟨R', r, rfl⟩
    · rw [List.length_nil] at hR; omega
    rw [List.concat_eq_append] at hR hR9 hB ez ⊢
    have lz := tr_len tz ez
    rw [List.length_append, List.length_singleton] at hR hR9 lz
    have hR' : R'.length = m + ini.length := by omega
    obtain ⟨hB', hr⟩ := hB.init
    have g1 : ((R' ++ [r]).getLast?.getD 0) = r := by simp
    have g4 : (R' ++ [r]).dropLast = R' := by simp
    have cz : co Z (m + ini.length) = r := by rw [co_of_ev ez, co_end hR']
    have ilead : dIx (tupI (ini ++ [lead])) (.int (-1)) = some (.int lead) := ixT_last
    have lo : dLen [tupI (ini ++ [lead])] = some (.int ((ini.length + 1 : Nat) : Int)) := by rw [len_d, List.length_append]; rfl
    have hown : ∀ W : Sl, (gIfE (gBool (gBin (fB0 fun i j => decide (j ≤ i)) (gCall dLen (gaCons (gVar 4) gaNil)) (gBin dAdd (gVar 2) (gCall dLen (gaCons (gVar 1) gaNil))))) (gBin dIx (gVar 4) (gBin (fI0 fun i j => i - j) (gBin dAdd (gVar 2) (gCall dLen (gaCons (gVar 1) gaNil))) (gC (.int 1)))) (gC (.int 0))) [s0, .dat (tupI (ini ++ [lead])), .dat (.int (m : Int)), W, .dat (tupI Z), s5, .un] cu = .ok (.int r) cu := fun W => by
      by_cases hl : m + (ini.length + 1) ≤ Z.length
      · have e1 : fI0 (fun i j => i - j) (.int ((m + (ini.length + 1) : Nat) : Int)) (.int 1) = some (.int ((m + ini.length : Nat) : Int)) := by
          rw [fI0_int]; congr 2; omega
        have e2 : dIx (tupI Z) (.int ((m + ini.length : Nat) : Int)) = some (.int r) := by
          rw [dIxT (by omega), ← co_lt (by omega), cz]
        exact kIfT (tBool (kBin (kCall (aC (kVar rfl) aN) len_d) (kBin (kVar rfl) (kCall (aC (kVar rfl) aN) lo) add_nat) (by rw [fB0_int, decide_eq_true (by omega)]))) (kBin (kVar rfl) (kBin (kBin (kVar rfl) (kCall (aC (kVar rfl) aN) lo) add_nat) kC e1) e2)
      · have e2 : r = 0 := by rw [← cz, co_ge (by omega)]
        subst e2
        exact kIfF (tBool (kBin (kCall (aC (kVar rfl) aN) len_d) (kBin (kVar rfl) (kCall (aC (kVar rfl) aN) lo) add_nat) (by rw [fB0_int, decide_eq_false (by omega)]))) kC
    have hmod : modOk r (ab lead) = true := modOk_b (by unfold ab; split <;> omega)
    rw [rngR_succ]
    by_cases hd : r.fmod lead = 0
    · have hd' : r.fmod (ab lead) = 0 := (fmod_ab h0).mpr hd
      have hq : (r.fdiv lead).natAbs < 2 ^ B := Nat.lt_of_le_of_lt (fdiv_abs h0 hd) hr
      have hq2 : Sm (r.fdiv lead) := Nat.lt_of_lt_of_le hq (Nat.pow_le_pow_right (by decide) (by omega))
      have hm : ∀ b ∈ ini ++ [lead], mulOk (r.fdiv lead) b = true := fun b hbb => by
        rcases List.mem_append.mp hbb with h | h
        · exact mulOk_sm hq2 (Nat.lt_of_lt_of_le (hb b h) (Nat.pow_le_pow_right (by decide) (by decide)))
        · rw [List.mem_singleton.mp h]; exact mulOk_sm hq2 hs
      have comp := fun Z' => sqLq (cu := cu) (ini := ini) (lead := lead) (q := r.fdiv lead) m T Z' r s0 (.dat (.int r)) hm (by rw [List.length_append, List.length_singleton]; omega) (by omega)
      obtain ⟨zs, z1, z2, z3⟩ := e_ladd (one := Z) (other := List.replicate m 0 ++ (ini ++ [lead]).map fun b => 0 - r.fdiv lead * b) (by omega) (by rw [List.length_append, List.length_replicate, List.length_map, List.length_append, List.length_singleton]; omega)
      have ez' : ∀ t, ev t zs = ev t (sq (r.fdiv lead) m ini R') := fun t => by rw [z2, ez, step_ev hR' hd]
      obtain ⟨o, ho, hE⟩ := lq_out h0 hs hb s0 m (sq (r.fdiv lead) m ini R') zs (r.fdiv lead :: T) (B + 68) cu (.dat (.int (m : Int))) (.dat (.int r)) (by rw [sq_len]; exact hR') (by rw [sq_len]; omega) (by rw [List.length_cons]; omega) z1 ez' (hB'.sq hq hb (by omega)) (by omega)
      refine ⟨o, ?_, ?_⟩
      · rw [rep_cons]
        have st : ixO ((List.replicate m 0 ++ 0 :: T).map .int) (.int (m : Int)) (.int (r.fdiv lead)) = some ((List.replicate m 0 ++ r.fdiv lead :: T).map .int) := by
          rw [ixO_int (by simp), rep_set]
        have ap : dAdd (lstI (List.replicate m 0)) (lstI ((ini ++ [lead]).map fun b => 0 - r.fdiv lead * b)) = some (lstI (List.replicate m 0 ++ (ini ++ [lead]).map fun b => 0 - r.fdiv lead * b)) :=
          appL (by rw [List.length_replicate, List.length_map, List.length_append, List.length_singleton]; omega)
        exact rForC rfl (rSeq (rSet (hown _)) (rSeq (rIfF (tBool (kBin (kBin (kCall (aC (kVar rfl) aN) dToInt_int) (kCall (aC (kBin (kVar rfl) (kUn kC dNeg_int) ilead) aN) dAbs_ab) (fI_int hmod)) kC (by rw [hd', dNe_int]; rfl))) rSkip) (rSeq (rStO rfl (kBin (kVar rfl) (kBin (kVar rfl) (kUn kC dNeg_int) ilead) (fI_int (divOk_sm h0 hs))) (kVar rfl) st)
          (rSet (kApp (aC (kVar rfl) (aC (kCall (aC (kBin (kBin (kDisp (ds := [.int 0]) (aC kC aN)) (kVar rfl) (rep0d (by omega))) (comp Z) ap) aN) dToTup_lst) aN)) (z3 cu)))))) ho
      · have eq : qd ini lead (m + 1) (R' ++ [r]) = (qd ini lead m (sq (r.fdiv lead) m ini R')).map (· ++ [r.fdiv lead]) := by
          rw [qd, g1, if_pos hd, g4]
        unfold LqEnd at hE ⊢
        rw [eq]
        rcases hE with ⟨h1, h2⟩ | ⟨R2, W2, t2, t5, t6, h1, h2 | ⟨h2, Q, h3, h4⟩⟩
        · exact .inl ⟨by rw [h1]; rfl, h2⟩
        · exact .inr ⟨R2, W2, t2, t5, t6, h1, .inl ⟨h2.1, by rw [h2.2]; rfl⟩⟩
        · exact .inr ⟨R2, W2, t2, t5, t6, h1, .inr ⟨h2, Q ++ [r.fdiv lead], by rw [h3]; rfl, by rw [h4, List.append_assoc]; rfl⟩⟩
    · have hd' : r.fmod (ab lead) ≠ 0 := fun e => hd ((fmod_ab h0).mp e)
      refine ⟨.ret .none, ?_, .inl ⟨by rw [qd, g1, if_neg hd], rfl⟩⟩
      have hbd : fb__law_quotient_0 [s0, .dat (tupI (ini ++ [lead])), .dat (.int (m : Int)), ownI (List.replicate (m + 1) 0 ++ T), .dat (tupI Z), s5, .un] cu = .ok (.ret .none) cu :=
        rSeq (rSet (hown _)) (rSeqR (rIfT (tBool (kBin (kBin (kCall (aC (kVar rfl) aN) dToInt_int) (kCall (aC (kBin (kVar rfl) (kUn kC dNeg_int) ilead) aN) dAbs_ab) (fI_int hmod)) kC (by rw [dNe_int, decide_eq_false hd']; rfl))) (rRet kC)))
      rw [gForL_cons]
      show ((Rs.ok _ cu).bind _) = _
      rw [Rs.bind_ok]
      show ((fb__law_quotient_0 [s0, .dat (tupI (ini ++ [lead])), .dat (.int (m : Int)), ownI (List.replicate (m + 1) 0 ++ T), .dat (tupI Z), s5, .un] cu).bind _) = _
      rw [hbd, Rs.bind_ok]
theorem dwn_R (m : Nat) {lo : Int} (h : lo = (m : Int) - 1) : dwnD lo m = rngR m := by
  unfold dwnD rngR
  refine List.map_congr_left fun i _ => ?_
  rw [h]
  congr 1
  omega
theorem rng3_ok {m : Nat} {lo : Int} (h : lo = (m : Int) - 1) (hm : m < 1000) : dRng3 [.int lo, .int (-1), .int (-1)] = some (rngR m) := by
  have hb : -1 = (-1 : Int) ∧ -(2 ^ 62) ≤ lo ∧ lo < 2 ^ 62 ∧ -(2 ^ 62) ≤ (-1 : Int) ∧ (-1 : Int) < 2 ^ 62 :=
    ⟨rfl, Int.le_trans (by decide) (by omega : (-1 : Int) ≤ lo), Int.lt_of_lt_of_le (by omega : lo < 1000) (by decide), by decide, by decide⟩
  have e : (lo - -1).toNat = m := by omega
  unfold dRng3
  dsimp only
  rw [if_pos hb, e, dwn_R m h]
theorem rng3_nil {lo : Int} (h : lo ≤ -1) (h2 : -1000 ≤ lo) : dRng3 [.int lo, .int (-1), .int (-1)] = some [] := by
  have hb : -1 = (-1 : Int) ∧ -(2 ^ 62) ≤ lo ∧ lo < 2 ^ 62 ∧ -(2 ^ 62) ≤ (-1 : Int) ∧ (-1 : Int) < 2 ^ 62 :=
    ⟨rfl, Int.le_trans (by decide) h2, Int.lt_of_le_of_lt h (by decide), by decide, by decide⟩
  have e : (lo - -1).toNat = 0 := by omega
  unfold dRng3
  dsimp only
  rw [if_pos hb, e]; rfl
theorem e_lquot {l : List Int} (tl : Trm l) (h0 : lead ≠ 0) (hs : Sm lead) (hb : ∀ b ∈ ini, b.natAbs < 2 ^ 67) (hl : l.length < 20) (hB : Bq 200 l) (hi : ini.length < 20) : G__law_quotient [.dat (tupI l), .dat (tupI (ini ++ [lead]))] cu = .ok (outD (exQ l ini lead)) cu := by
  have lo : dLen [tupI (ini ++ [lead])] = some (.int ((ini.length + 1 : Nat) : Int)) := by rw [len_d, List.length_append]; rfl
  unfold exQ
  by_cases hc : l.length ≤ ini.length
  · rw [if_pos hc]
    have e0 : dMax2 [.int 0, .int ((l.length : Int) - ((ini.length + 1 : Nat) : Int) + 1)] = some (.int ((0 : Nat) : Int)) := by
      rw [dMax2_int]; congr 2; split <;> omega
    have rg := rng3_nil (lo := (l.length : Int) - ((ini.length + 1 : Nat) : Int)) (by omega) (by omega)
    have fin : (gIfE (gBool (gBin dEq (gVar 4) (gDisp .tuple gaNil))) (gApp 1 G__law_cut (gaCons (gVar 3) gaNil)) (gC .none)) [.dat (tupI l), .dat (tupI (ini ++ [lead])), .un, .dat (lstI []), .dat (tupI l), .un, .un] cu = .ok (outD (if l = [] then some [] else none)) cu := by
      have d := dEqT (a := l) (b := [])
      by_cases e : l = []
      · rw [if_pos e]
        rw [decide_eq_true e] at d
        obtain ⟨zs, c1, _, _, _, _, c6⟩ := e_cut (l := []) (by decide)
        have := c6 Trm_nil
        rw [this] at c1
        exact kIfT (tBool (kBin (kVar rfl) (kDisp (ds := []) aN) d)) (kApp (aC (kVar rfl) aN) (c1 cu))
      · rw [if_neg e]
        rw [decide_eq_false e] at d
        exact kIfF (tBool (kBin (kVar rfl) (kDisp (ds := []) aN) d)) kC
    exact kFn (rSeq (rGParO (iRep (kDisp (ds := [.int 0]) (aC kC aN)) (kCall (aC kC (aC (kBin (kBin (kCall (aC (kVar rfl) aN) len_d) (kCall (aC (kVar rfl) aN) lo) fI0_int) kC dAdd_int) aN)) e0) (rep0 (n := 0) (by omega))) (kVar rfl))
      (rSeq (rFor (iArg (aC (kBin (kCall (aC (kVar rfl) aN) len_d) (kCall (aC (kVar rfl) aN) lo) fI0_int) (aC (kUn kC dNeg_int) (aC (kUn kC dNeg_int) aN))) rg) rForN) (rFrz (ds := []) rfl (rRet fin))))
  · rw [if_neg hc]
    obtain ⟨m, hm⟩ : ∃ m, m = l.length - ini.length := ⟨_, rfl⟩
    rw [← hm]
    have e0 : dMax2 [.int 0, .int ((l.length : Int) - ((ini.length + 1 : Nat) : Int) + 1)] = some (.int (m : Int)) := by
      rw [dMax2_int]; congr 2; split <;> omega
    obtain ⟨o, ho, hE⟩ := lq_out h0 hs hb (.dat (tupI l)) m l l [] 200 cu .un .un (by omega) (by omega) (by simp; omega) tl (fun _ => rfl) hB (by omega)
    rw [List.append_nil] at ho
    have rg := rng3_ok (m := m) (lo := (l.length : Int) - ((ini.length + 1 : Nat) : Int)) (by omega) (by omega)
    unfold LqEnd at hE
    rcases hE with ⟨h1, h2⟩ | ⟨Z2, W2, t2, t5, t6, h1, h2⟩
    · rw [h1]
      rw [h2] at ho
      exact kFn (rSeq (rGParO (iRep (kDisp (ds := [.int 0]) (aC kC aN)) (kCall (aC kC (aC (kBin (kBin (kCall (aC (kVar rfl) aN) len_d) (kCall (aC (kVar rfl) aN) lo) fI0_int) kC dAdd_int) aN)) e0) (rep0 (by omega))) (kVar rfl))
        (rSeqR (rFor (iArg (aC (kBin (kCall (aC (kVar rfl) aN) len_d) (kCall (aC (kVar rfl) aN) lo) fI0_int) (aC (kUn kC dNeg_int) (aC (kUn kC dNeg_int) aN))) rg) ho)))
    · rw [h1] at ho
      have fin : (gIfE (gBool (gBin dEq (gVar 4) (gDisp .tuple gaNil))) (gApp 1 G__law_cut (gaCons (gVar 3) gaNil)) (gC .none)) [.dat (tupI l), .dat (tupI (ini ++ [lead])), t2, .dat (lstI W2), .dat (tupI Z2), t5, t6] cu = .ok (outD (qd ini lead m l)) cu := by
        have d := dEqT (a := Z2) (b := [])
        rcases h2 with ⟨a1, a2⟩ | ⟨a1, Q, a2, a3⟩
        · rw [a2]
          rw [decide_eq_false a1] at d
          exact kIfF (tBool (kBin (kVar rfl) (kDisp (ds := []) aN) d)) kC
        · rw [decide_eq_true a1] at d
          rw [List.append_nil] at a3
          obtain ⟨zs, c1, _, _, _, _, c6⟩ := e_cut (l := W2) (by rw [a3, qd_len a2]; omega)
          have hn : l ≠ [] := fun e => by rw [e] at hc; simp at hc
          have := c6 (by rw [a3]; exact qd_tr (by omega) tl hn a2)
          rw [this, a3] at c1
          rw [a2]
          subst a3
          exact kIfT (tBool (kBin (kVar rfl) (kDisp (ds := []) aN) d)) (kApp (aC (kVar rfl) aN) (c1 cu))
      exact kFn (rSeq (rGParO (iRep (kDisp (ds := [.int 0]) (aC kC aN)) (kCall (aC kC (aC (kBin (kBin (kCall (aC (kVar rfl) aN) len_d) (kCall (aC (kVar rfl) aN) lo) fI0_int) kC dAdd_int) aN)) e0) (rep0 (by omega))) (kVar rfl))
        (rSeq (rFor (iArg (aC (kBin (kCall (aC (kVar rfl) aN) len_d) (kCall (aC (kVar rfl) aN) lo) fI0_int) (aC (kUn kC dNeg_int) (aC (kUn kC dNeg_int) aN))) rg) ho) (rFrz rfl (rRet fin))))
end
end Prog

set_option Elab.async false
set_option linter.all false
set_option maxRecDepth 100000
set_option maxHeartbeats 800000
set_option autoImplicit false
set_option exponentiation.threshold 4000
namespace Prog
open PySem PySem.Spec L2 DL ZP
/-! nested data: looked at, alike -/
mutual
theorem eqv_refl : ∀ d : PyData, d.canLay0 = true → PyData.eqv d d = true
  | .none, _ => by simp [PyData.eqv]
  | .bool _, _ => by simp [PyData.eqv]
  | .int _, _ => by simp [PyData.eqv]
  | .str _, _ => by simp [PyData.eqv]
  | .list xs, h => by simp only [PyData.eqv]; exact eqvA_refl xs (by simpa [PyData.canLay0] using h)
  | .tuple xs, h => by simp only [PyData.eqv]; exact eqvA_refl xs (by simpa [PyData.canLay0] using h)
  | .dict _, h => by simp [PyData.canLay0] at h
theorem eqvA_refl : ∀ xs : List PyData, PyData.canLayAll0 xs = true → PyData.eqvAll xs xs = true
  | [], _ => by simp [PyData.eqvAll]
  | x :: xs, h => by
    have h' : x.canLay0 = true ∧ PyData.canLayAll0 xs = true := by simpa [PyData.canLayAll0] using h
    simp [PyData.eqvAll, eqv_refl x h'.1, eqvA_refl xs h'.2]
end
structure Lay (n : Nat) (d : PyData) : Prop where
  can : d.canLay0 = true
  dep : d.depth ≤ n
theorem lay_all {n : Nat} : ∀ {ds : List PyData}, (∀ d ∈ ds, Lay n d) → PyData.canLayAll0 ds = true ∧ PyData.depthAll ds ≤ n
  | [], _ => by simp [PyData.canLayAll0, PyData.depthAll]
  | d :: r, h => by
    have h1 := h d (List.mem_cons_self ..)
    have h2 := lay_all (ds := r) fun e he => h e (List.mem_cons_of_mem _ he)
    have h3 := h1.dep
    simp only [PyData.canLayAll0, PyData.depthAll, h1.can, h2.1, Bool.and_self, true_and]
    omega
theorem lay_tup {n : Nat} {ds : List PyData} (h : ∀ d ∈ ds, Lay n d) : Lay (n + 1) (.tuple ds) := by
  obtain ⟨h1, h2⟩ := lay_all h
  exact ⟨by simp only [PyData.canLay0]; exact h1, by simp only [PyData.depth]; omega⟩
theorem lay_lst {n : Nat} {ds : List PyData} (h : ∀ d ∈ ds, Lay n d) : Lay (n + 1) (.list ds) := by
  obtain ⟨h1, h2⟩ := lay_all h
  exact ⟨by simp only [PyData.canLay0]; exact h1, by simp only [PyData.depth]; omega⟩
theorem lay_int (n : Nat) (i : Int) : Lay n (.int i) := ⟨rfl, by simp [PyData.depth]⟩
theorem lay_tupI (n : Nat) (l : List Int) : Lay (n + 1) (tupI l) := lay_tup fun d hd => by
  obtain ⟨i, _, rfl⟩ := List.mem_map.mp hd
  exact lay_int n i
theorem Lay.shaped {n : Nat} {d : PyData} (h : Lay n d) (hn : n ≤ 64) : SeqAt.shaped d = true := by
  have := h.dep
  unfold SeqAt.shaped
  rw [h.can, decide_eq_true (by omega)]; rfl
theorem eqD_self {n : Nat} {d : PyData} (h : Lay n d) (hn : n ≤ 64) : eqD d d = some true := by
  have s := h.shaped hn
  have e := eqv_refl d h.can
  cases d <;> simp [eqD, s, e]
theorem dNe_self {n : Nat} {d : PyData} (h : Lay n d) (hn : n ≤ 64) : dNe d d = some (.bool false) := by unfold dNe; rw [eqD_self h hn]; rfl
theorem dEq_self {n : Nat} {d : PyData} (h : Lay n d) (hn : n ≤ 64) : dEq d d = some (.bool true) := by unfold dEq; rw [eqD_self h hn]; rfl
theorem eqD_tnil {n : Nat} {ds : List PyData} (h : Lay n (.tuple ds)) (hn : n ≤ 64) (ne : ds ≠ []) : eqD (.tuple ds) (.tuple []) = some false := by
  have s := h.shaped hn
  have s2 : SeqAt.shaped (.tuple []) = true := (lay_tup (n := 0) (ds := []) fun d hd => nomatch hd).shaped (by decide)
  cases ds with
  | nil => exact absurd rfl ne
  | cons d r => simp [eqD, s, s2, PyData.eqv, PyData.eqvAll]
/-! fractions -/
abbrev prT (p : Int × Nat) : PyData := .tuple [.int p.1, .int (p.2 : Int)]
theorem lay_pr (p : Int × Nat) : Lay 1 (prT p) := lay_tup fun d hd => by
  simp only [List.mem_cons, List.not_mem_nil, or_false] at hd
  rcases hd with rfl | rfl <;> exact lay_int 0 _
theorem lay_prs (ps : List (Int × Nat)) : Lay 2 (.tuple (ps.map prT)) := lay_tup fun d hd => by
  obtain ⟨p, _, rfl⟩ := List.mem_map.mp hd
  exact lay_pr p
structure Frs (ps : List (Int × Nat)) : Prop where
  ne : ps ≠ []
  len : ps.length ≤ 5
  pos : ∀ p ∈ ps, 0 < p.2
  le : ∀ p ∈ ps, p.2 ≤ 6
  num : ∀ p ∈ ps, p.1.natAbs ≤ 10 ^ 7
  low : ∀ p ∈ ps, Int.gcd p.1 p.2 = 1
  last : ∀ p, ps.getLast? = some p → p.1 ≠ 0
section
variable {cu : Cu} {ps : List (Int × Nat)}
/-- what stands to be looked at: integers and pairs -/
def itD : Int ⊕ (Int × Nat) → PyData
  | .inl i => .int i
  | .inr p => prT p
def stk : List (Int ⊕ (Int × Nat)) → List PyData := List.map itD
def wgt : List (Int ⊕ (Int × Nat)) → Nat
  | [] => 0
  | .inl _ :: r => 1 + wgt r
  | .inr _ :: r => 3 + wgt r
theorem wgt_app : ∀ a b : List (Int ⊕ (Int × Nat)), wgt (a ++ b) = wgt a + wgt b
  | [], b => by simp [wgt]
  | .inl _ :: r, b => by rw [List.cons_append, wgt, wgt, wgt_app r b]; omega
  | .inr _ :: r, b => by rw [List.cons_append, wgt, wgt, wgt_app r b]; omega
theorem stk_app (a b : List (Int ⊕ (Int × Nat))) : stk (a ++ b) = stk a ++ stk b := by simp [stk]
theorem wgt_len : ∀ a : List (Int ⊕ (Int × Nat)), a.length ≤ wgt a
  | [] => Nat.le_refl _
  | .inl _ :: r => by have := wgt_len r; rw [List.length_cons, wgt]; omega
  | .inr _ :: r => by have := wgt_len r; rw [List.length_cons, wgt]; omega
def SmS (x : Int ⊕ (Int × Nat)) : Prop := match x with | .inl i => i.natAbs ≤ 10 ^ 7 | .inr p => p.1.natAbs ≤ 10 ^ 7 ∧ p.2 ≤ 10 ^ 7
theorem wz_loop (d0 : Sl) : ∀ (n : Nat) (xs : List (Int ⊕ (Int × Nat))) (m : Nat), wgt xs < n → m + wgt xs ≤ 900 → xs.length ≤ 900 → (∀ x ∈ xs, SmS x) → ∀ cu s3, ∃ s2' s3', gWhileF wt_is_within_size_0 wb_is_within_size_0 n [d0, .own (stk xs), .dat (.int (m : Int)), s3] cu = .ok (.nx [d0, .own [], s2', s3']) cu
  | 0, _, _, h, _, _, _, _, _ => absurd h (Nat.not_lt_zero _)
  | n + 1, xs, m, h, hm, hl, hb, cu, s3 => by
    rcases List.eq_nil_or_concat xs with rfl | ⟨ys, c, rfl⟩
    · exact ⟨_, _, rWhileF (tTruO rfl)⟩
    · rw [List.concat_eq_append] at h hm hb hl ⊢
      rw [wgt_app] at h hm
      rw [List.length_append, List.length_singleton] at hl
      have hc := hb c (by simp)
      have hy : ∀ x ∈ ys, SmS x := fun x hx => hb x (List.mem_append_left _ hx)
      have e1 : fI0 (fun i j => i + j) (.int (m : Int)) (.int 1) = some (.int ((m + 1 : Nat) : Int)) := rfl
      have e2 : m + 1 ≤ 20000 → fB0 (fun i j => decide (j < i)) (.int ((m + 1 : Nat) : Int)) (.int 20000) = some (.bool false) := fun hm => by rw [fB0_int, decide_eq_false (by omega)]
      have pop : gPop 3 1 [d0, .own (stk (ys ++ [c])), .dat (.int (m : Int)), s3] cu = .ok (.nx [d0, .own (stk ys), .dat (.int (m : Int)), .dat (itD c)]) cu := by
        rw [stk_app]
        exact rPop (ρ := [d0, .own (stk ys ++ stk [c]), .dat (.int (m : Int)), s3]) (i := 1) (j := 3) (ds := stk ys) (d := itD c) rfl
      have hw : (!(stk (ys ++ [c])).isEmpty) = true := by rw [stk_app]; cases stk ys <;> rfl
      cases c with
      | inl i =>
        have w1 : wgt [Sum.inl i] = 1 := rfl
        rw [w1] at h hm
        obtain ⟨s2', s3', r⟩ := wz_loop d0 n ys (m + 1) (by omega) (by omega) (by omega) hy cu (.dat (.int i))
        have hi : i.natAbs ≤ 10 ^ 7 := hc
        have e3 : dAbs [.int i] = some (.int (ab i)) := by rw [dAbs_ab]
        have e4 : fB0 (fun i j => decide (j < i)) (.int (ab i)) (.int (10 ^ 50 * 10 ^ 50)) = some (.bool false) := by
          rw [fB0_int]
          have h1 : ab i ≤ 10 ^ 7 := by rw [ab_abs]; omega
          have h2 : (10 : Int) ^ 7 ≤ 10 ^ 50 * 10 ^ 50 := by decide
          rw [decide_eq_false (by omega)]
        exact ⟨s2', s3', rWhileT (tTruO rfl hw) (rSeq pop (rSeq (rAug rfl kC e1) (rSeq (rIfF (tBool (kBin (kVar rfl) kC (e2 (by omega)))) rSkip) (rIfF (tTru (kIsi (kVar rfl) (k := false) rfl) rfl)
          (rIfF (tAndT (tTru (kApp (aC (kVar rfl) aN) e_isint) rfl) (tBool (kBin (kCall (aC (kVar rfl) aN) e3) kC e4))) rSkip))))) r⟩
      | inr p =>
        have w1 : wgt [Sum.inr p] = 3 := rfl
        rw [w1] at h hm
        obtain ⟨s2', s3', r⟩ := wz_loop d0 n (ys ++ [.inl p.1, .inl (p.2 : Int)]) (m + 1) (by rw [wgt_app]; show _ + 2 < _; omega) (by rw [wgt_app]; show _ + (_ + 2) ≤ _; omega) (by rw [List.length_append]; show _ + 2 ≤ _; have := wgt_len ys; omega) (fun x hx => by
            rcases List.mem_append.mp hx with h | h
            · exact hy x h
            · simp only [List.mem_cons, List.not_mem_nil, or_false] at h
              rcases h with rfl | rfl
              · exact hc.1
              · show (p.2 : Int).natAbs ≤ 10 ^ 7
                have := hc.2
                omega) cu (.dat (prT p))
        rw [stk_app] at r
        have e5 : fB0 (fun i j => decide (j < i)) (.int (([PyData.int p.1, .int (p.2 : Int)].length : Nat) : Int)) (.int 61) = some (.bool false) := rfl
        exact ⟨s2', s3', rWhileT (tTruO rfl hw) (rSeq pop (rSeq (rAug rfl kC e1) (rSeq (rIfF (tBool (kBin (kVar rfl) kC (e2 (by omega)))) rSkip) (rIfT (tTru (kIsi (kVar rfl) (k := true) rfl) rfl)
          (rSeq (rIfF (tBool (kBin (kCall (aC (kVar rfl) aN) dLen_tup) kC e5)) rSkip) (rExt rfl (kVar rfl) (es := [.int p.1, .int (p.2 : Int)]) rfl (by simp [stk]; omega))))))) r⟩
theorem e_wz (F : Frs ps) : G_is_within_size [.dat (.tuple (ps.map prT))] cu = .ok (.bool true) cu := by
  have hl := F.len
  have ew : ∀ ps : List (Int × Nat), stk (ps.map Sum.inr) = ps.map prT ∧ wgt (ps.map Sum.inr) = 3 * ps.length := by
    intro ps
    refine ⟨by unfold stk; rw [List.map_map]; rfl, ?_⟩
    induction ps with
    | nil => rfl
    | cons p r ih => rw [List.map_cons, wgt, ih, List.length_cons]; omega
  obtain ⟨s2, s3, r⟩ := wz_loop (.dat (.tuple (ps.map prT))) 999 (ps.map Sum.inr) 1 (by rw [(ew ps).2]; omega) (by rw [(ew ps).2]; omega) (by rw [List.length_map]; omega) (fun x hx => by
    obtain ⟨p, hp, rfl⟩ := List.mem_map.mp hx
    exact ⟨F.num p hp, Nat.le_trans (F.le p hp) (by decide)⟩) cu (.dat (.tuple (ps.map prT)))
  rw [(ew ps).1] at r
  have e1 : dLen [.tuple (ps.map prT)] = some (.int (ps.length : Int)) := by rw [dLen_tup, List.length_map]
  have e2 : fB0 (fun i j => decide (j < i)) (.int (ps.length : Int)) (.int 61) = some (.bool false) := by rw [fB0_int, decide_eq_false (by omega)]
  have w : gWhileF wt_is_within_size_0 wb_is_within_size_0 1000 [.dat (.tuple (ps.map prT)), .own [.tuple (ps.map prT)], .dat (.int 0), .un] cu = .ok (.nx [.dat (.tuple (ps.map prT)), .own [], s2, s3]) cu :=
    rWhileT (n := 999) (tTruO rfl) (rSeq (rPop (ds := []) rfl) (rSeq (rAug rfl kC (z := .int 1) rfl) (rSeq (rIfF (tBool (kBin (kVar rfl) kC rfl)) rSkip) (rIfT (tTru (kIsi (kVar rfl) (k := true) rfl) rfl)
      (rSeq (rIfF (tBool (kBin (kCall (aC (kVar rfl) aN) e1) kC e2)) rSkip) (rExt rfl (kVar rfl) (es := ps.map prT) rfl (by rw [List.length_map]; simp; omega))))))) r
  exact kFn (rSeq (rSetO (iDisp (ds := [.tuple (ps.map prT)]) (aC (kVar rfl) aN) rfl (by decide : 1 ≤ 16777216))) (rSeq (rSet kC) (rSeq w (rFrz rfl (rRet kC)))))
theorem ixP0 (p : Int × Nat) : dIx (prT p) (.int 0) = some (.int p.1) := rfl
theorem ixP1 (p : Int × Nat) : dIx (prT p) (.int 1) = some (.int (p.2 : Int)) := rfl
theorem e_nf (F : Frs ps) {p : Int × Nat} (hp : p ∈ ps) : G_has_number_form [.dat (.int 0), .dat (prT p)] cu = .ok (.bool true) cu := by
  have pair : G_is_pair [.dat (prT p)] cu = .ok (.bool true) cu := kFn (rRet (kAndT (kIsi (kVar rfl) rfl) (kBin (kCall (aC (kVar rfl) aN) dLen_tup) kC rfl)))
  have g : dGcd [.int p.1, .int (p.2 : Int)] = some (.int 1) := by
    show some (PyData.int ((Int.gcd p.1 p.2 : Nat) : Int)) = _
    rw [F.low p hp]; rfl
  have pos := F.pos p hp
  have st : G_is_settled [.dat (.int p.1), .dat (.int (p.2 : Int))] cu = .ok (.bool true) cu :=
    kFn (rRet (kAndT (kBin (kVar rfl) kC (by rw [fB0_int, decide_eq_true (by omega)])) (kBin (kCall (aC (kVar rfl) (aC (kVar rfl) aN)) g) kC rfl)))
  exact kFn (rSeqR (rIfT (tBool (kBin (kVar rfl) kC (z := .bool true) rfl)) (rRet (kAndT (kApp (aC (kVar rfl) aN) pair) (kAndT (kApp (aC (kBin (kVar rfl) kC (ixP0 p)) aN) e_isint) (kAndT (kApp (aC (kBin (kVar rfl) kC (ixP1 p)) aN) e_isint) (kApp (aC (kBin (kVar rfl) kC (ixP0 p)) (aC (kBin (kVar rfl) kC (ixP1 p)) aN)) st)))))))
theorem e_nought : G_nought_of [.dat (.int 0)] cu = .ok (.tuple [.int 0, .int 1]) cu := kFn (rSeqR (rIfT (tBool (kBin (kVar rfl) kC (z := .bool true) rfl)) (rRet (kDisp (ds := [.int 0, .int 1]) (aC kC (aC kC aN))))))
theorem ixLast {ds : List PyData} {d : PyData} : dIx (.tuple (ds ++ [d])) (.int (-1)) = some d := by
  rw [dIx_tup]
  unfold atI ixN
  have e : (-1 + ((ds.length : Int) + 1)).toNat = ds.length := by omega
  have e1 : (1 : Int) ≤ (ds.length : Int) + 1 := by omega
  simp [e, e1]
theorem e_lf (F : Frs ps) : G_has_line_form [.dat (.int 0), .dat (.tuple (ps.map prT))] cu = .ok (.bool true) cu := by
  have hall : ∀ s, gOr (gNot (gTru (gIsi "tuple" (gVar 1)))) (gNot (gTru (gAllN (giTup (gVar 1)) [2] (ggName 2) gYes le_has_line_form_0))) [.dat (.int 0), .dat (.tuple (ps.map prT)), s] cu = .ok false cu := fun s =>
    tOrF (tNot (k := true) (tTru (kIsi (kVar rfl) (k := true) rfl) rfl)) (tNot (k := true) (tTru (kAllN (iTup (kVar rfl)) fun d hd => by
      obtain ⟨p, hp, rfl⟩ := List.mem_map.mp hd
      exact ⟨_, rfl, rfl, kApp (aC (kVar rfl) (aC (kVar rfl) aN)) (e_nf F hp)⟩) rfl))
  rcases List.eq_nil_or_concat ps with e | ⟨qs, p, e⟩
  · exact absurd e F.ne
  · rw [List.concat_eq_append] at e
    have h1 := F.last p (by rw [e]; simp)
    have h2 : dIx (.tuple (ps.map prT)) (.int (-1)) = some (prT p) := by rw [e, List.map_append]; exact ixLast
    have h3 : dEq (.tuple (ps.map prT)) (.tuple []) = some (.bool false) := by unfold dEq; rw [eqD_tnil (lay_prs ps) (by decide) (by simp [F.ne])]; rfl
    have h4 : dNe (prT p) (.tuple [.int 0, .int 1]) = some (.bool true) := by
      have := dNeT (a := [p.1, (p.2 : Int)]) (b := [0, 1])
      rw [decide_eq_false (fun z => h1 (by injection z))] at this
      exact this
    exact kFn (rSeq (rIfF (hall .un) rSkip) (rRet (kOrF (kBin (kVar rfl) (kDisp (ds := []) aN) h3) (kBin (kBin (kVar rfl) (kUn kC dNeg_int) h2) (kApp (aC (kVar rfl) aN) e_nought) h4))))
theorem e_nl (F : Frs ps) : G_need_line [.dat (.int 0), .dat (.tuple (ps.map prT))] cu = .ok .none cu :=
  kFnN (rIfF (tNot (k := true) (tTru (kApp (aC (kVar rfl) (aC (kVar rfl) aN)) (kFn (d := .bool true) (rRet (kAndT (kApp (aC (kVar rfl) aN) (e_wz F)) (kApp (aC (kVar rfl) (aC (kVar rfl) aN)) (e_lf F)))))) rfl)) rSkip)
end
end Prog

set_option Elab.async false
set_option linter.all false
set_option maxRecDepth 100000
set_option maxHeartbeats 800000
set_option autoImplicit false
set_option exponentiation.threshold 4000
namespace Prog
open PySem PySem.Spec L2 DL ZP
section
variable {cu : Cu} {ps : List (Int × Nat)}
theorem e_unit (x : Int) : ∃ b, (b = true → x.natAbs = 1) ∧ ∀ cu, G_is_unit [.dat (.int 0), .dat (.int x)] cu = .ok (.bool b) cu := by
  have hd : ∃ b, (b = true → x.natAbs = 1) ∧ dInT (.int x) (.tuple [.int 1, .int (-1)]) = some (.bool b) := by
    refine ⟨_, ?_, rfl⟩
    intro h
    have h' : inV (V.int x) [V.int 1, V.int (-1)] = true := h
    simp [inV, eqV] at h'
    omega
  obtain ⟨b, h1, h2⟩ := hd
  refine ⟨b, h1, fun cu => ?_⟩
  have w : gWhileF wt_is_unit_0 wb_is_unit_0 1000 [.dat (.int 0), .dat (.int x)] cu = .ok (.nx [.dat (.int 0), .dat (.int x)]) cu := rWhileF (tNot (k := true) (tTru (kIsi (kVar rfl) (k := true) rfl) rfl))
  exact kFn (rSeq w (rRet (kOrF (kBin (kVar rfl) kC rfl) (kBin (kVar rfl) (kDisp (ds := [.int 1, .int (-1)]) (aC kC (aC (kUn kC dNeg_int) aN))) h2))))
theorem e_ncom {a b : Nat} (ha : 0 < a) (hb : 0 < b) : G_nested_common [.dat (.int 0), .dat (.int (a : Int)), .dat (.int (b : Int))] cu = .ok (.int ((Nat.gcd a b : Nat) : Int)) cu := by
  have ta : dTru (.int (a : Int)) = some true := by rw [tru_n, decide_eq_true (by omega)]
  have tb : dTru (.int (b : Int)) = some true := by rw [tru_n, decide_eq_true (by omega)]
  exact kFn (rSeq (rIfF (tOrF (tNot (k := true) (tTru (kVar rfl) ta)) (tNot (k := true) (tTru (kVar rfl) tb))) rSkip) (rSeqR (rIfT (tTru (kIsi (kVar rfl) (k := true) rfl) rfl) (rRet (kIfF (tTru (kVar rfl) rfl) (kCall (aC (kVar rfl) (aC (kVar rfl) aN)) rfl))))))
theorem e_ne0 {x y : Int} (h0 : y ≠ 0) (hs : Sm y) (hd : x.fmod y = 0) : G_nested_exact [.dat (.int 0), .dat (.int x), .dat (.int y)] cu = .ok (.int (x.fdiv y)) cu :=
  kFn (rSeqR (rIfT (tTru (kIsi (kVar rfl) (k := true) rfl) rfl) (rRet (kApp (aC (kVar rfl) (aC (kVar rfl) (aC (kVar rfl) aN))) ((e_ie h0 hs).trans (by rw [if_pos hd]))))))
theorem lcm_self_ {a c : Nat} (h : a = c) (hc : 0 < c) : Nat.lcm a c = c := by
  subst h
  exact Nat.lcm_self a
theorem cmu_loop : ∀ (ps : List (Int × Nat)) (c : Nat) (d1 s3 s4 : Sl), 0 < c → (∀ p ∈ ps, 0 < p.2 ∧ p.2 ≤ 6) → c * 6 ^ ps.length ≤ 6 ^ 20 → ∃ s3' s4', ∀ cu, gForL (ggName 3) fb_common_multiple_0 (ps.map fun p => .int (p.2 : Int)) [.dat (.int 0), d1, .dat (.int (c : Int)), s3, s4] cu = .ok (.nx [.dat (.int 0), d1, .dat (.int ((lcN c ps : Nat) : Int)), s3', s4']) cu
  | [], c, d1, s3, s4, _, _, _ => ⟨s3, s4, fun cu => rfl⟩
  | p :: ps, c, d1, s3, s4, hc, hp, hl => by
    have h1 := hp p (List.mem_cons_self ..)
    have hp' : ∀ q ∈ ps, 0 < q.2 ∧ q.2 ≤ 6 := fun q hq => hp q (List.mem_cons_of_mem _ hq)
    have e6 : c * 6 ^ (p :: ps).length = c * 6 * 6 ^ ps.length := by rw [List.length_cons, Nat.pow_succ]; grind
    rw [e6] at hl
    have one6 : 1 ≤ 6 ^ ps.length := Nat.one_le_pow _ _ (by decide)
    have hcl : c ≤ 6 ^ 20 := by
      have := Nat.le_mul_of_pos_right (c * 6) one6
      omega
    have lpos : 0 < Nat.lcm p.2 c := Nat.lcm_pos h1.1 hc
    have lle : Nat.lcm p.2 c ≤ c * 6 := by
      have : Nat.lcm p.2 c ≤ p.2 * c := Nat.div_le_self _ _
      have : p.2 * c ≤ 6 * c := Nat.mul_le_mul_right _ h1.2
      omega
    have lmul : Nat.lcm p.2 c * 6 ^ ps.length ≤ 6 ^ 20 := Nat.le_trans (Nat.mul_le_mul_right _ lle) hl
    have same : Nat.lcm p.2 c = c → ∃ s3' s4', ∀ cu, gForL (ggName 3) fb_common_multiple_0 (ps.map fun p => .int (p.2 : Int)) [.dat (.int 0), d1, .dat (.int (c : Int)), .dat (.int (p.2 : Int)), s4] cu = .ok (.nx [.dat (.int 0), d1, .dat (.int ((lcN c (p :: ps) : Nat) : Int)), s3', s4']) cu := fun e => by
      obtain ⟨t3, t4, h⟩ := cmu_loop ps c d1 (.dat (.int (p.2 : Int))) s4 hc hp' (by rw [e] at lmul; exact lmul)
      refine ⟨t3, t4, fun cu => ?_⟩
      rw [lcN, e]
      exact h cu
    obtain ⟨b, b1, b2⟩ := e_unit (p.2 : Int)
    cases b with
    | true =>
      have e1 : p.2 = 1 := by have := b1 rfl; omega
      obtain ⟨t3, t4, h⟩ := same (by rw [e1, Nat.lcm_one_left])
      exact ⟨t3, t4, fun cu => rForC rfl (rIfF (tAndF (tNot (k := true) (tTru (kApp (aC (kVar rfl) (aC (kVar rfl) aN)) (b2 cu)) rfl))) rSkip) (h cu)⟩
    | false =>
      by_cases hpc : p.2 = c
      · obtain ⟨t3, t4, h⟩ := same (lcm_self_ hpc hc)
        have dn : dNe (.int (p.2 : Int)) (.int (c : Int)) = some (.bool false) := by rw [dNe_int, decide_eq_true (by omega)]; rfl
        exact ⟨t3, t4, fun cu => rForC rfl (rIfF (tAndT (tNot (k := false) (tTru (kApp (aC (kVar rfl) (aC (kVar rfl) aN)) (b2 cu)) rfl)) (tBool (kBin (kVar rfl) (kVar rfl) dn))) rSkip) (h cu)⟩
      · have dn : dNe (.int (p.2 : Int)) (.int (c : Int)) = some (.bool true) := by rw [dNe_int, decide_eq_false (by omega)]; rfl
        have g0 : 0 < Nat.gcd p.2 c := Nat.gcd_pos_of_pos_left _ h1.1
        have gle : Nat.gcd p.2 c ≤ 6 := Nat.le_trans (Nat.le_of_dvd h1.1 (Nat.gcd_dvd_left ..)) h1.2
        have gd : ((p.2 : Int)).fmod ((Nat.gcd p.2 c : Nat) : Int) = 0 := Int.fmod_eq_zero_of_dvd (Int.natCast_dvd_natCast.mpr (Nat.gcd_dvd_left ..))
        have gs : Sm ((Nat.gcd p.2 c : Nat) : Int) := Sm.of (B := 6) (by omega)
        have em : (c : Int) * ((p.2 : Int).fdiv ((Nat.gcd p.2 c : Nat) : Int)) = ((Nat.lcm p.2 c : Nat) : Int) := by
          rw [fdiv_nat, ← Int.natCast_mul]
          congr 1
          unfold Nat.lcm
          rw [Nat.mul_comm p.2 c, Nat.mul_div_assoc _ (Nat.gcd_dvd_left ..)]
        have mo : mulOk (c : Int) ((p.2 : Int).fdiv ((Nat.gcd p.2 c : Nat) : Int)) = true := by
          refine mulOk_l ?_
          have : (6 : Nat) ^ 20 < 2 ^ 64 := by decide
          omega
        have nt := fun cu => e_nt0 (cu := cu) mo
        rw [em] at nt
        obtain ⟨t3, t4, h⟩ := cmu_loop ps (Nat.lcm p.2 c) d1 (.dat (.int (p.2 : Int))) (.dat (.int ((p.2 : Int).fdiv ((Nat.gcd p.2 c : Nat) : Int)))) lpos hp' lmul
        exact ⟨t3, t4, fun cu => rForC rfl (rIfT (tAndT (tNot (k := false) (tTru (kApp (aC (kVar rfl) (aC (kVar rfl) aN)) (b2 cu)) rfl)) (tBool (kBin (kVar rfl) (kVar rfl) dn)))
          (rSeq (rSet (kApp (aC (kVar rfl) (aC (kVar rfl) (aC (kApp (aC (kVar rfl) (aC (kVar rfl) (aC (kVar rfl) aN))) (e_ncom h1.1 hc)) aN))) (e_ne0 (by omega) gs gd))) (rSet (kApp (aC (kVar rfl) (aC (kVar rfl) (aC (kVar rfl) aN))) (nt cu))))) (h cu)⟩
theorem lcN_le {ps : List (Int × Nat)} (F : Frs ps) : lcN 1 ps ≤ 6 ^ 5 ∧ 0 < lcN 1 ps := by
  have h1 := pr_le 6 (by decide) ps 1 fun p hp => F.le p hp
  have p0 := pr_pos ps 1 (by decide) fun p hp => F.pos p hp
  have d := lc_pr ps 1 1 (Nat.dvd_refl 1)
  have h2 : 6 ^ ps.length ≤ 6 ^ 5 := Nat.pow_le_pow_right (by decide) F.len
  have h3 := Nat.le_of_dvd p0 d
  refine ⟨by omega, ?_⟩
  rcases Nat.eq_zero_or_pos (lcN 1 ps) with e | e
  · rw [e] at d
    have := Nat.eq_zero_of_zero_dvd d
    omega
  · exact e
theorem prN_le {ps : List (Int × Nat)} (F : Frs ps) : prN 1 ps ≤ 6 ^ 5 ∧ 0 < prN 1 ps := by
  have h1 := pr_le 6 (by decide) ps 1 fun p hp => F.le p hp
  have h2 : 6 ^ ps.length ≤ 6 ^ 5 := Nat.pow_le_pow_right (by decide) F.len
  exact ⟨by omega, pr_pos ps 1 (by decide) fun p hp => F.pos p hp⟩
theorem e_cmul (F : Frs ps) : G_common_multiple [.dat (.int 0), .dat (.list (ps.map fun p => .int (p.2 : Int)))] cu = .ok (.int ((lcN 1 ps : Nat) : Int)) cu := by
  have hl := F.len
  have h6 : (6 : Nat) ^ ps.length ≤ 6 ^ 20 := Nat.pow_le_pow_right (by decide) (by omega)
  obtain ⟨s3, s4, h⟩ := cmu_loop ps 1 (.dat (.list (ps.map fun p => .int (p.2 : Int)))) .un .un (by decide) (fun p hp => ⟨F.pos p hp, F.le p hp⟩) (by omega)
  exact kFn (rSeq (rSet (kApp (aC (kVar rfl) (aC kC aN)) (kFn (rSeqR (rIfT (tTru (kIsi (kVar rfl) (k := true) rfl) rfl) (rRet (kVar rfl))))))) (rSeq (rFor (iLst (kVar rfl)) (h cu)) (rRet (kVar rfl))))
/-! the line over one under -/
theorem wl_loop {u : Nat} (hu : 0 < u) (hu6 : u ≤ 6 ^ 5) (d0 d1 d2 s7 s8 : Sl) (hd0 : d0 = .dat (.int 0)) : ∀ (ps : List (Int × Nat)) (acc : List Int) (s5 s6 : Sl), acc.length + ps.length ≤ 900 → (∀ p ∈ ps, 0 < p.2 ∧ p.2 ≤ 6 ∧ p.2 ∣ u ∧ p.1.natAbs ≤ 10 ^ 7) →
    ∃ s5' s6', ∀ cu, gForL (ggTup 2 (ggCons (ggName 5) (ggCons (ggName 6) ggNil))) fb_whole_line_0 (ps.map prT) [d0, d1, d2, .dat (.int (u : Int)), ownI acc, s5, s6, s7, s8] cu = .ok (.nx [d0, d1, d2, .dat (.int (u : Int)), ownI (acc ++ ovr u ps), s5', s6', s7, s8]) cu
  | [], acc, s5, s6, _, _ => ⟨s5, s6, fun cu => by have : ovr u [] = [] := rfl; rw [this, List.append_nil]; rfl⟩
  | p :: ps, acc, s5, s6, hl, hp => by
    rw [List.length_cons] at hl
    obtain ⟨h1, h2, h3, h4⟩ := hp p (List.mem_cons_self ..)
    have e : ∀ z : Int, z = p.1 * ((u / p.2 : Nat) : Int) → acc ++ ovr u (p :: ps) = (acc ++ [z]) ++ ovr u ps := fun z hz => by rw [hz, ovr, List.map_cons, List.append_assoc]; rfl
    have ap : ∀ (z : Int) (s5 : Sl) cu, gApd 4 (gVar 5) [d0, d1, d2, .dat (.int (u : Int)), ownI acc, .dat (.int z), .dat (.int (p.2 : Int)), s7, s8] cu = .ok (.nx [d0, d1, d2, .dat (.int (u : Int)), ownI (acc ++ [z]), .dat (.int z), .dat (.int (p.2 : Int)), s7, s8]) cu := fun z s5 cu => by
      have := rApd (ρ := [d0, d1, d2, .dat (.int (u : Int)), ownI acc, .dat (.int z), .dat (.int (p.2 : Int)), s7, s8]) (i := 4) (ga := gVar 5) (ds := acc.map .int) (cu := cu) rfl (kVar rfl) (by rw [List.length_map]; omega)
      rw [this]
      simp [ownI]
    by_cases hpu : p.2 = u
    · obtain ⟨t5, t6, h⟩ := wl_loop hu hu6 d0 d1 d2 s7 s8 hd0 ps (acc ++ [p.1]) (.dat (.int p.1)) (.dat (.int (p.2 : Int))) (by rw [List.length_append, List.length_singleton]; omega) (fun q hq => hp q (List.mem_cons_of_mem _ hq))
      have dn : dNe (.int (p.2 : Int)) (.int (u : Int)) = some (.bool false) := by rw [dNe_int, decide_eq_true (by omega)]; rfl
      refine ⟨t5, t6, fun cu => ?_⟩
      rw [e p.1 (by rw [hpu, Nat.div_self hu]; simp)]
      exact rForC rfl (rSeq (rIfF (tBool (kBin (kVar rfl) (kVar rfl) dn)) rSkip) (ap p.1 .un cu)) (h cu)
    · have dn : dNe (.int (p.2 : Int)) (.int (u : Int)) = some (.bool true) := by rw [dNe_int, decide_eq_false (by omega)]; rfl
      have md : (u : Int).fmod (p.2 : Int) = 0 := Int.fmod_eq_zero_of_dvd (Int.natCast_dvd_natCast.mpr h3)
      have ed : (u : Int).fdiv (p.2 : Int) = ((u / p.2 : Nat) : Int) := fdiv_nat u p.2
      have ul : u / p.2 ≤ u := Nat.div_le_self _ _
      have mo : mulOk p.1 ((u / p.2 : Nat) : Int) = true := mulOk_r (by
        have : (6 : Nat) ^ 5 < 2 ^ 64 := by decide
        rw [Int.natAbs_natCast]
        omega)
      obtain ⟨t5, t6, h⟩ := wl_loop hu hu6 d0 d1 d2 s7 s8 hd0 ps (acc ++ [p.1 * ((u / p.2 : Nat) : Int)]) (.dat (.int (p.1 * ((u / p.2 : Nat) : Int)))) (.dat (.int (p.2 : Int))) (by rw [List.length_append, List.length_singleton]; omega) (fun q hq => hp q (List.mem_cons_of_mem _ hq))
      refine ⟨t5, t6, fun cu => ?_⟩
      rw [e _ rfl]
      have ne := e_ne0 (cu := cu) (x := (u : Int)) (y := (p.2 : Int)) (by omega) (Sm.of (B := 6) (by omega)) md
      rw [ed] at ne
      subst hd0
      exact rForC rfl (rSeq (rIfT (tBool (kBin (kVar rfl) (kVar rfl) dn)) (rSet (kApp (aC (kVar rfl) (aC (kVar rfl) (aC (kApp (aC (kVar rfl) (aC (kVar rfl) (aC (kVar rfl) aN))) ne) aN))) (e_nt0 mo)))) (ap _ .un cu)) (h cu)
theorem e_wnum (p : Int × Nat) : G_whole_number [.dat (.int 0), .dat (prT p)] cu = .ok (prT p) cu := kFn (rSeqR (rIfT (tTru (kIsi (kVar rfl) (k := true) rfl) rfl) (rRet (kIfF (tTru (kVar rfl) rfl) (kVar rfl)))))
theorem e_wline (F : Frs ps) : G_whole_line [.dat (.int 0), .dat (.tuple (ps.map prT))] cu = .ok (.tuple [tupI (ovr (lcN 1 ps) ps), .int ((lcN 1 ps : Nat) : Int)]) cu := by
  have hl := F.len
  obtain ⟨u6, u0⟩ := lcN_le F
  have c1 := gLcL_map (gg := ggName 7) (ge := le_whole_line_0) (ρ := [.dat (.int 0), .dat (.tuple (ps.map prT)), .un, .un, .un, .un, .un, .un, .un]) (cu := cu) id (ds := ps.map prT) fun d hd => by
    obtain ⟨p, _, rfl⟩ := List.mem_map.mp hd
    exact ⟨_, rfl, kApp (aC (kVar rfl) (aC (kVar rfl) aN)) (e_wnum p)⟩
  rw [List.map_id] at c1
  have c2 := gLcL_map (gg := ggName 8) (ge := le_whole_line_1) (ρ := [.dat (.int 0), .dat (.tuple (ps.map prT)), .dat (.list (ps.map prT)), .un, .un, .un, .un, .un, .un]) (cu := cu) (fun d => match d with | .tuple [_, x] => x | _ => .none) (ds := ps.map prT) fun d hd => by
    obtain ⟨p, _, rfl⟩ := List.mem_map.mp hd
    exact ⟨_, rfl, kBin (kVar rfl) kC (ixP1 p)⟩
  rw [List.map_map] at c2
  have c2' : gLcL (ggName 8) gYes le_whole_line_1 (ps.map prT) [.dat (.int 0), .dat (.tuple (ps.map prT)), .dat (.list (ps.map prT)), .un, .un, .un, .un, .un, .un] cu = .ok (ps.map fun p => .int (p.2 : Int)) cu := c2
  obtain ⟨s5, s6, h⟩ := wl_loop u0 u6 (.dat (.int 0)) (.dat (.tuple (ps.map prT))) (.dat (.list (ps.map prT))) .un .un rfl ps [] .un .un (by simp; omega) (fun p hp => ⟨F.pos p hp, F.le p hp, lc_dvd ps 1 p hp, F.num p hp⟩)
  rw [List.nil_append] at h
  have b1 : (ps.map prT).length < 16777216 := by rw [List.length_map]; omega
  exact kFn (rSeq (rSet (kLst (kLc (iTup (kVar rfl)) b1 c1))) (rSeq (rSet (kApp (aC (kVar rfl) (aC (kLst (kLc (iLst (kVar rfl)) b1 c2')) aN)) (e_cmul F))) (rSeq (rSetO (iDisp (ds := []) aN)) (rSeq (rFor (iLst (kVar rfl)) (h cu)) (rFrz rfl (rRet (kDisp (ds := [tupI (ovr (lcN 1 ps) ps), .int ((lcN 1 ps : Nat) : Int)]) (aC (kCall (aC (kVar rfl) aN) dToTup_lst) (aC (kVar rfl) aN)) rfl (by decide : 2 ≤ 16777216))))))))
end
end Prog

set_option Elab.async false
set_option linter.all false
set_option maxRecDepth 100000
set_option maxHeartbeats 800000
set_option autoImplicit false
set_option exponentiation.threshold 4000
namespace Prog
open PySem PySem.Spec L2 DL ZP
section
variable {cu : Cu} {ps : List (Int × Nat)}
abbrev frD (c : Int) (u : Nat) : PyData := .tuple [.int (fr c u).1, .int (fr c u).2]
theorem gcd_sm {c : Int} {u : Nat} (hu : 0 < u) (h : u < 2 ^ 60) : (Int.gcd c u : Int) ≠ 0 ∧ Sm ((Int.gcd c u : Nat) : Int) := by
  have g0 : 0 < Int.gcd c u := Nat.gcd_pos_of_pos_right _ (by omega)
  have gle : Int.gcd c u ≤ u := Nat.le_of_dvd hu (by have := Int.gcd_dvd_right (a := c) (b := (u : Int)); exact Int.natCast_dvd_natCast.mp this)
  refine ⟨by omega, ?_⟩
  show ((Int.gcd c u : Nat) : Int).natAbs < 2 ^ 2000
  rw [Int.natAbs_natCast]
  have : (2 : Nat) ^ 60 ≤ 2 ^ 2000 := Nat.pow_le_pow_right (by decide) (by decide)
  omega
theorem e_frac {c : Int} {u : Nat} (hu : 0 < u) (h : u < 2 ^ 60) : G_fraction [.dat (.int c), .dat (.int (u : Int))] cu = .ok (frD c u) cu := by
  obtain ⟨g0, gs⟩ := gcd_sm (c := c) hu h
  exact kFn (rSeq (rSet (kCall (aC (kVar rfl) (aC (kVar rfl) aN)) rfl)) (rSeq (rIfF (tBool (kBin (kVar rfl) kC (by rw [fB0_int, decide_eq_false (by omega)]))) rSkip) (rRet (kDisp (ds := [.int (fr c u).1, .int (fr c u).2]) (aC (kBin (kVar rfl) (kVar rfl) (fI_int (divOk_sm g0 gs))) (aC (kBin (kVar rfl) (kVar rfl) (fI_int (divOk_sm g0 gs))) aN)) rfl (by decide : 2 ≤ 16777216)))))
theorem e_lfrac {c : Int} {u : Nat} (hu : 0 < u) (h : u < 2 ^ 60) : G__law_fraction [.dat (.int c), .dat (.int (u : Int))] cu = .ok (frD c u) cu := by
  obtain ⟨g0, gs⟩ := gcd_sm (c := c) hu h
  have ec := e_common (cu := cu) c (u : Int)
  have eg : ((Nat.gcd c.natAbs (u : Int).natAbs : Nat) : Int) = ((Int.gcd c u : Nat) : Int) := rfl
  rw [eg] at ec
  have e1 : dMul (.int ((Int.gcd c u : Nat) : Int)) (.int 1) = some (.int ((Int.gcd c u : Nat) : Int)) := by rw [dMul_int (mulOk_r (by decide)), Int.mul_one]
  exact kFn (rSeq (rSet (kBin (kApp (aC (kVar rfl) (aC (kVar rfl) aN)) ec) (kIfT (tBool (kBin (kVar rfl) kC (by rw [fB0_int, decide_eq_true (by omega)]))) kC) e1)) (rRet (kDisp (ds := [.int (fr c u).1, .int (fr c u).2]) (aC (kBin (kVar rfl) (kVar rfl) (fI_int (divOk_sm g0 gs))) (aC (kBin (kVar rfl) (kVar rfl) (fI_int (divOk_sm g0 gs))) aN)) rfl (by decide : 2 ≤ 16777216))))
theorem ovr_ne (F : Frs ps) {u : Nat} (hu : 0 < u) (hd : ∀ p ∈ ps, p.2 ∣ u) : ∃ x ∈ ovr u ps, x ≠ 0 := by
  rcases List.eq_nil_or_concat ps with e | ⟨qs, p, e⟩
  · exact absurd e F.ne
  · rw [List.concat_eq_append] at e
    have hp : p ∈ ps := by rw [e]; simp
    refine ⟨p.1 * ((u / p.2 : Nat) : Int), List.mem_map.mpr ⟨p, hp, rfl⟩, Int.mul_ne_zero (F.last p (by rw [e]; simp)) ?_⟩
    have := Nat.div_pos (Nat.le_of_dvd hu (hd p hp)) (F.pos p hp)
    omega
theorem ovr_le (F : Frs ps) {u : Nat} (hu : u ≤ 6 ^ 5) : ∀ x ∈ ovr u ps, x.natAbs ≤ 10 ^ 7 * 6 ^ 5 := fun x hx => by
  obtain ⟨p, hp, rfl⟩ := List.mem_map.mp hx
  rw [Int.natAbs_mul, Int.natAbs_natCast]
  exact Nat.mul_le_mul (F.num p hp) (Nat.le_trans (Nat.div_le_self _ _) hu)
theorem cs_sm {l : List Int} {B : Nat} (h : ∃ x ∈ l, x ≠ 0) (hb : ∀ x ∈ l, x.natAbs ≤ B) (hB : B < 2 ^ 2000) : Sm (cs l) := by
  obtain ⟨x, hx, h0⟩ := h
  have h1 := cg_le_of hx h0
  have h2 := hb x hx
  show (cs l).natAbs < _
  rw [cs_abs]
  omega
theorem e_cleared (F : Frs ps) : G_cleared_line [.dat (.tuple (ps.map prT))] cu = .ok (.tuple [frD (cs (ovr (lcN 1 ps) ps)) (lcN 1 ps), tupI (pm (ovr (lcN 1 ps) ps))]) cu := by
  have hl := F.len
  obtain ⟨u6, u0⟩ := lcN_le F
  have hx := ovr_ne F u0 fun p hp => lc_dvd ps 1 p hp
  have c0 := cs_ne hx
  have csm : Sm (cs (ovr (lcN 1 ps) ps)) := cs_sm hx (ovr_le F u6) (by decide)
  have u60 : lcN 1 ps < 2 ^ 60 := Nat.lt_of_le_of_lt u6 (by decide)
  have h3 : dEq (.tuple (ps.map prT)) (.tuple []) = some (.bool false) := by unfold dEq; rw [eqD_tnil (lay_prs ps) (by decide) (by simp [F.ne])]; rfl
  have lo : (ovr (lcN 1 ps) ps).length < 1000 := by unfold ovr; rw [List.length_map]; omega
  refine kFn (rSeq (rDrop (kApp (aC kC (aC (kVar rfl) aN)) (e_nl F))) (rSeq (rIfF (tBool (kBin (kVar rfl) (kDisp (ds := []) aN) h3)) rSkip) (rRet (kApp (aC (kVar rfl) aN) (kFn (rSeq (rAsg (kApp (aC kC (aC (kVar rfl) aN)) (e_wline F)) rfl) (rSeq (rSet (kApp (aC (kVar rfl) aN) e_wc)) (rRet ?_))))))))
  exact kDisp (ds := [frD (cs (ovr (lcN 1 ps) ps)) (lcN 1 ps), tupI (pm (ovr (lcN 1 ps) ps))]) (aC (kApp (aC (kVar rfl) (aC (kVar rfl) aN)) (e_frac u0 u60)) (aC (kApp (aC (kVar rfl) (aC (kVar rfl) aN)) (e_shared c0 csm lo)) aN)) rfl (by decide : 2 ≤ 16777216)
theorem lcl_loop (d0 d3 : Sl) : ∀ (ps : List (Int × Nat)) (c : Nat) (s2 : Sl), (∀ p ∈ ps, p.2 ≤ 6) → ∃ s2', ∀ cu, gForL (ggName 2) fb__law_cleared_0 (ps.map prT) [d0, .dat (.int (c : Int)), s2, d3] cu = .ok (.nx [d0, .dat (.int ((prN c ps : Nat) : Int)), s2', d3]) cu
  | [], c, s2, _ => ⟨s2, fun cu => rfl⟩
  | p :: ps, c, s2, hp => by
    have h1 := hp p (List.mem_cons_self ..)
    obtain ⟨t2, h⟩ := lcl_loop d0 d3 ps (c * p.2) (.dat (prT p)) fun q hq => hp q (List.mem_cons_of_mem _ hq)
    have m : dMul (.int (c : Int)) (.int (p.2 : Int)) = some (.int ((c * p.2 : Nat) : Int)) := by rw [dMul_int (mulOk_r (by rw [Int.natAbs_natCast]; omega)), Int.natCast_mul]
    exact ⟨t2, fun cu => rForC rfl (rSet (kBin (kVar rfl) (kBin (kVar rfl) kC (ixP1 p)) m)) (h cu)⟩
theorem e_lcleared (F : Frs ps) : G__law_cleared [.dat (.tuple (ps.map prT))] cu = .ok (.tuple [frD (cs (ovr (lcN 1 ps) ps)) (lcN 1 ps), tupI (pm (ovr (lcN 1 ps) ps))]) cu := by
  have hl := F.len
  obtain ⟨u6, u0⟩ := prN_le F
  obtain ⟨v6, v0⟩ := lcN_le F
  have hpd : ∀ p ∈ ps, p.2 ∣ prN 1 ps := fun p hp => Nat.dvd_trans (lc_dvd ps 1 p hp) (lc_pr ps 1 1 (Nat.dvd_refl 1))
  have hx := ovr_ne F u0 hpd
  have c0 := cs_ne hx
  have csm : Sm (cs (ovr (prN 1 ps) ps)) := cs_sm hx (ovr_le F u6) (by decide)
  have u60 : prN 1 ps < 2 ^ 60 := Nat.lt_of_le_of_lt u6 (by decide)
  have lo : (ovr (prN 1 ps) ps).length < 1000 := by unfold ovr; rw [List.length_map]; omega
  obtain ⟨same1, same2⟩ := cleared_same (fun p hp => F.pos p hp) (ovr_ne F v0 fun p hp => lc_dvd ps 1 p hp)
  obtain ⟨s2, h⟩ := lcl_loop (.dat (.tuple (ps.map prT))) .un ps 1 .un fun p hp => F.le p hp
  have cm := gLcL_map (gg := ggName 2) (ge := le__law_cleared_0) (ρ := [.dat (.tuple (ps.map prT)), .dat (.int ((prN 1 ps : Nat) : Int)), .un, .un]) (cu := cu) (fun d => match d with | .tuple [.int n, .int e] => .int (n * (((prN 1 ps : Nat) : Int).fdiv e)) | _ => .none) (ds := ps.map prT) fun d hd => by
    obtain ⟨p, hp, rfl⟩ := List.mem_map.mp hd
    have hpp := F.pos p hp
    have hp6 := F.le p hp
    refine ⟨_, rfl, kBin (kBin (kVar rfl) kC (ixP0 p)) (kBin (kVar rfl) (kBin (kVar rfl) kC (ixP1 p)) (fI_int (divOk_sm (by omega) (Sm.of (B := 6) (by omega))))) (dMul_int (mulOk_l ?_))⟩
    have := F.num p hp
    have : (10 : Nat) ^ 7 < 2 ^ 64 := by decide
    omega
  have cm' : gLcL (ggName 2) gYes le__law_cleared_0 (ps.map prT) [.dat (.tuple (ps.map prT)), .dat (.int ((prN 1 ps : Nat) : Int)), .un, .un] cu = .ok ((ovr (prN 1 ps) ps).map .int) cu := by
    rw [cm, ovr, List.map_map, List.map_map]
    congr 1
    refine List.map_congr_left fun p _ => ?_
    show PyData.int (p.1 * _) = PyData.int (p.1 * _)
    rw [fdiv_nat]
  have hw : wipeE [Sl.dat (.tuple (ps.map prT)), .dat (.int ((prN 1 ps : Nat) : Int)), s2, .un] [2] = [.dat (.tuple (ps.map prT)), .dat (.int ((prN 1 ps : Nat) : Int)), .un, .un] := rfl
  have e : (PyData.tuple [frD (cs (ovr (lcN 1 ps) ps)) (lcN 1 ps), tupI (pm (ovr (lcN 1 ps) ps))]) = .tuple [frD (cs (ovr (prN 1 ps) ps)) (prN 1 ps), tupI (pm (ovr (prN 1 ps) ps))] := by
    rw [same2]
    unfold frD
    rw [same1]
  rw [e]
  refine kFn (rSeq (rSet kC) (rSeq (rFor (iTup (kVar rfl)) (h cu)) (rSeq (rSet (kCall (aC (kLst (kLc (iTup (kVar rfl)) (by rw [List.length_map]; omega) cm')) aN) dToTup_lst)) (rRet ?_))))
  exact kDisp (ds := [frD (cs (ovr (prN 1 ps) ps)) (prN 1 ps), tupI (pm (ovr (prN 1 ps) ps))]) (aC (kApp (aC (kApp (aC (kVar rfl) aN) e_lcont) (aC (kVar rfl) aN)) (e_lfrac u0 u60)) (aC (kApp (aC (kVar rfl) aN) (e_lprim c0 csm lo)) aN)) rfl (by decide : 2 ≤ 16777216)
end
end Prog

set_option Elab.async false
set_option linter.all false
set_option maxRecDepth 100000
set_option maxHeartbeats 800000
set_option autoImplicit false
set_option exponentiation.threshold 4000
namespace Prog
open PySem PySem.Spec L2 DL ZP
section
variable {cu : Cu} {one other l : List Int}
theorem e_wat (w : Wok l) (hs : ∀ c ∈ l, c.natAbs ≤ 10 ^ 20) {z : Int} (hz : z.natAbs ≤ 10 ^ 20) : G_whole_at [.dat (tupI l), .dat (.int z)] cu = .ok (.int (ev z l)) cu := by
  have hl := w.len
  have q0 : (fB0 (fun i j => decide (i ≤ j)) (.int (-(10 ^ 50 * 10 ^ 50))) (.int z)).bind dBool = some true := by
    rw [fB0_int]
    have : -(10 ^ 50 * 10 ^ 50 : Int) ≤ z := by
      have h1 : -(10 ^ 20 : Int) ≤ z := by omega
      exact Int.le_trans (by decide) h1
    exact congrArg some (decide_eq_true this)
  have q1 : fB0 (fun i j => decide (i ≤ j)) (.int z) (.int (10 ^ 50 * 10 ^ 50)) = some (.bool true) := by
    rw [fB0_int]
    have : z ≤ (10 ^ 50 * 10 ^ 50 : Int) := by
      have h1 : z ≤ (10 ^ 20 : Int) := by omega
      exact Int.le_trans h1 (by decide)
    exact congrArg (fun b => some (PyData.bool b)) (decide_eq_true this)
  have ni : G_need_integer [.dat (.int z), .dat (.int (-(10 ^ 50 * 10 ^ 50))), .dat (.int (10 ^ 50 * 10 ^ 50))] cu = .ok .none cu :=
    kFnN (rIfF (tNot (k := true) (tTru (kApp (aC (kVar rfl) (aC (kVar rfl) (aC (kVar rfl) aN))) (kFn (d := .bool true) (rRet (kAndT (kApp (aC (kVar rfl) aN) e_isint) (kChain2 (kVar rfl) (kVar rfl) q0 (kVar rfl) q1))))) rfl)) rSkip)
  exact kFn (rSeq (rDrop (kApp (aC (kVar rfl) aN) (e_need w))) (rSeq (rDrop (kApp (aC (kVar rfl) (aC (kUn kC dNeg_int) (aC kC aN))) ni)) (rRet (kApp (aC (kVar rfl) (aC (kVar rfl) aN)) (e_val hz hs (by omega))))))
/-- a number brought near to nought -/
def nr (x : Int) : Int := (x + 50).fmod 101 - 50
theorem nr_le (x : Int) : (nr x).natAbs ≤ 50 := by
  have h1 := fmod_lo (a := x + 50) (m := 101) (by decide)
  have h2 := fmod_hi (a := x + 50) (m := 101) (by decide)
  unfold nr
  omega
abbrev wL (s2 s3 s4 s5 s6 s7 s8 s9 s10 s11 s12 s13 : Sl) : En := [.un, .cup, s2, s3, s4, s5, s6, s7, s8, s9, s10, s11, s12, s13, .un]
theorem sml_0 (hl : other.length < 900) (s2 s3 s4 s5 s6 s7 s8 s9 s10 s12 s13 : Sl) : gCall dToTup (gaCons (gL (gLc (giTup (gVar 11)) [14] (ggName 14) gYes le_law_0)) gaNil) (wL s2 s3 s4 s5 s6 s7 s8 s9 s10 (.dat (tupI other)) s12 s13) cu = .ok (tupI (other.map nr)) cu := by
  have h := gLcL_map (gg := ggName 14) (ge := le_law_0) (ρ := wL s2 s3 s4 s5 s6 s7 s8 s9 s10 (.dat (tupI other)) s12 s13) (cu := cu) (fun d => match d with | .int x => .int (nr x) | _ => .none) (ds := other.map .int) fun d hd => by
    obtain ⟨x, _, rfl⟩ := List.mem_map.mp hd
    exact ⟨_, rfl, kBin (kBin (kCall (aC (kBin (kVar rfl) kC dAdd_int) aN) dToInt_int) kC (fI_int (modOk_b (by decide)))) kC fI0_int⟩
  have h' : gLcL (ggName 14) gYes le_law_0 (other.map .int) (wL s2 s3 s4 s5 s6 s7 s8 s9 s10 (.dat (tupI other)) s12 s13) cu = .ok ((other.map nr).map .int) cu := by
    rw [h, List.map_map, List.map_map]; rfl
  exact kCall (aC (kLst (kLc (iTup (kVar rfl)) (by rw [List.length_map]; omega) h')) aN) dToTup_lst
theorem sml_1 (hl : one.length < 900) (s2 s3 s4 s5 s6 s7 s8 s9 s11 s12 s13 : Sl) : gCall dToTup (gaCons (gL (gLc (giTup (gVar 10)) [14] (ggName 14) gYes le_law_1)) gaNil) (wL s2 s3 s4 s5 s6 s7 s8 s9 (.dat (tupI one)) s11 s12 s13) cu = .ok (tupI (one.map nr)) cu := by
  have h := gLcL_map (gg := ggName 14) (ge := le_law_1) (ρ := wL s2 s3 s4 s5 s6 s7 s8 s9 (.dat (tupI one)) s11 s12 s13) (cu := cu) (fun d => match d with | .int x => .int (nr x) | _ => .none) (ds := one.map .int) fun d hd => by
    obtain ⟨x, _, rfl⟩ := List.mem_map.mp hd
    exact ⟨_, rfl, kBin (kBin (kCall (aC (kBin (kVar rfl) kC dAdd_int) aN) dToInt_int) kC (fI_int (modOk_b (by decide)))) kC fI0_int⟩
  have h' : gLcL (ggName 14) gYes le_law_1 (one.map .int) (wL s2 s3 s4 s5 s6 s7 s8 s9 (.dat (tupI one)) s11 s12 s13) cu = .ok ((one.map nr).map .int) cu := by
    rw [h, List.map_map, List.map_map]; rfl
  exact kCall (aC (kLst (kLc (iTup (kVar rfl)) (by rw [List.length_map]; omega) h')) aN) dToTup_lst
/-- random fractions -/
theorem pt_comp (ρ : Sl → En) (h14 : ∀ s, (ρ s)[14]? = some s) (hset : ∀ s t, (ρ s).set 14 t = ρ t) (hc : ∀ s, (ρ s)[1]? = some .cup) : ∀ (l : List Int) (cu : Cu) (s : Sl), ∃ (ps : List (Int × Nat)) (c : Cu), ps.length = l.length ∧ (∀ p ∈ ps, 0 < p.2 ∧ p.2 ≤ 6 ∧ p.1.natAbs ≤ 10 ^ 7 ∧ Int.gcd p.1 p.2 = 1) ∧ gLcL (ggName 14) gYes le_law_2 (l.map .int) (ρ s) cu = .ok (ps.map prT) c
  | [], cu, s => ⟨[], cu, rfl, (fun p hp => by cases hp), rfl⟩
  | x :: l, cu, s => by
    obtain ⟨v, c1, v0, v1, e1⟩ := roll_ex 6 (by decide) (by decide) cu
    obtain ⟨n, rfl⟩ := Int.eq_ofNat_of_zero_le v0
    obtain ⟨ps, c2, h1, h2, e2⟩ := pt_comp ρ h14 hset hc l c1 s
    have pw : fI powOk (fun i j => i ^ j.toNat) (.int 10) (.int 7) = some (.int (10 ^ 7)) := by kernel_rfl
    have hx : ∃ y : Int, y.natAbs ≤ 10 ^ 7 ∧ gIfE (gBool (gBin (fB0 fun i j => decide (i < j)) (gCall dAbs (gaCons (gVar 14) gaNil)) (gBin (fI powOk fun i j => i ^ j.toNat) (gC (.int 10)) (gC (.int 7))))) (gVar 14) (gC (.int 3)) (ρ (.dat (.int x))) cu = .ok (.int y) cu := by
      by_cases hx : ab x < 10 ^ 7
      · exact ⟨x, by rw [ab_abs] at hx; omega, kIfT (tBool (kBin (kCall (aC (kVar (h14 _)) aN) dAbs_ab) (kBin kC kC pw) (by rw [fB0_int, decide_eq_true hx]))) (kVar (h14 _))⟩
      · exact ⟨3, by decide, kIfF (tBool (kBin (kCall (aC (kVar (h14 _)) aN) dAbs_ab) (kBin kC kC pw) (by rw [fB0_int, decide_eq_false hx]))) kC⟩
    obtain ⟨y, hy, ey⟩ := hx
    have en : dAdd (.int 1) (.int (n : Int)) = some (.int ((n + 1 : Nat) : Int)) := by rw [dAdd_int]; congr 2; omega
    obtain ⟨l1, d, l2, l3, l4, l5⟩ := fr_low (c := y) (u := n + 1) (by omega)
    have fe : frD y (n + 1) = prT ((fr y (n + 1)).1, d) := by unfold frD prT; rw [l2]
    have el : le_law_2 (ρ (.dat (.int x))) cu = .ok (prT ((fr y (n + 1)).1, d)) c1 := by
      rw [← fe]
      exact kApp (aC ey (aC (kBin kC (kApp (aCup (hc _) (aC kC aN)) e1) en) aN)) (e_lfrac (by omega) (Nat.lt_of_lt_of_le (by omega : n + 1 < 8) (by decide)))
    refine ⟨((fr y (n + 1)).1, d) :: ps, c2, by rw [List.length_cons, List.length_cons, h1], fun p hp => ?_, ?_⟩
    · rcases List.mem_cons.mp hp with rfl | hp
      · exact ⟨l3, by omega, by omega, by rw [← l2]; exact l1⟩
      · exact h2 p hp
    · rw [List.map_cons, gLcL_cons]
      have g : ggName 14 (.int x) (ρ s) = some (ρ (.dat (.int x))) := by show some ((ρ s).set 14 _) = _; rw [hset]
      rw [g, Rs.ofO_some, Rs.bind_ok]
      show ((Rs.ok true cu).nox.bind _) = _
      rw [Rs.nox_ok, Rs.bind_ok, if_pos rfl, el, Rs.nox_ok, Rs.bind_ok, e2, Rs.bind_ok]
      rfl
theorem e_pts (hl : one.length ≤ 5) (s2 s3 s4 s5 s6 s7 s8 s9 s11 s12 s13 : Sl) (cu : Cu) : ∃ (ps : List (Int × Nat)) (c : Cu), ps.length = one.length ∧ (∀ p ∈ ps, 0 < p.2 ∧ p.2 ≤ 6 ∧ p.1.natAbs ≤ 10 ^ 7 ∧ Int.gcd p.1 p.2 = 1) ∧ gCall dToTup (gaCons (gL (gLc (giTup (gVar 10)) [14] (ggName 14) gYes le_law_2)) gaNil) (wL s2 s3 s4 s5 s6 s7 s8 s9 (.dat (tupI one)) s11 s12 s13) cu = .ok (.tuple (ps.map prT)) c := by
  obtain ⟨ps, c, h1, h2, h3⟩ := pt_comp (fun s => [.un, .cup, s2, s3, s4, s5, s6, s7, s8, s9, .dat (tupI one), s11, s12, s13, s]) (fun _ => rfl) (fun _ _ => rfl) (fun _ => rfl) one cu .un
  exact ⟨ps, c, h1, h2, kCall (aC (kLst (kLc (iTup (kVar rfl)) (by rw [List.length_map]; omega) h3)) aN) dToTup_lst⟩
/-- quotients told alike -/
theorem lay_out (o : Option (List Int)) : Lay 1 (outD o) := by
  cases o with
  | none => exact ⟨rfl, by simp [outD, PyData.depth]⟩
  | some Q => exact lay_tupI 0 Q
theorem div_row {l ini : List Int} {lead : Int} (w : Wok l) (w2 : Wok (ini ++ [lead])) (h0 : lead ≠ 0) (hs : Sm lead) (hb : ∀ b ∈ ini, b.natAbs < 2 ^ 67) (hB : Bq 200 l) (s2 s3 s4 s5 s7 s8 s9 s10 s11 s12 : Sl) :
    fb_law_0 (wL s2 s3 s4 s5 (.dat (tupI (ini ++ [lead]))) s7 s8 s9 s10 s11 s12 (.dat (tupI l))) cu = .ok (.nx (wL s2 s3 s4 s5 (.dat (tupI (ini ++ [lead]))) s7 s8 s9 s10 s11 s12 (.dat (tupI l)))) cu := by
  have l1 := w.len
  have l2 := w2.len
  rw [List.length_append, List.length_singleton] at l2
  exact rIfF (tBool (kBin (kApp (aC (kVar rfl) (aC (kVar rfl) aN)) (e_wdiv w w2 h0 hs hb hB)) (kApp (aC (kVar rfl) (aC (kVar rfl) aN)) (e_lquot w.trm h0 hs hb (by omega) hB (by omega))) (dNe_self (lay_out _) (by decide)))) rSkip
end
end Prog

set_option Elab.async false
set_option linter.all false
set_option maxRecDepth 100000
set_option maxHeartbeats 800000
set_option autoImplicit false
set_option exponentiation.threshold 4000
namespace Prog
open PySem PySem.Spec L2 DL ZP
section
variable {cu : Cu} {one other l : List Int}
theorem neT_nil (h : l ≠ []) : dNe (tupI l) (.tuple []) = some (.bool true) := by
  have := dNeT (a := l) (b := [])
  rw [decide_eq_false h] at this
  exact this
theorem neT_nil0 (h : l = []) : dNe (tupI l) (.tuple []) = some (.bool false) := by
  have := dNeT (a := l) (b := [])
  rw [decide_eq_true h] at this
  exact this
/-- what the product's row does -/
theorem prod_row {a ini : List Int} {lead : Int} (h0 : lead ≠ 0) (ha : ∀ x ∈ a, x.natAbs ≤ 50) (hb : ∀ x ∈ ini ++ [lead], x.natAbs ≤ 50) (la : a.length ≤ 5) (li : ini.length ≤ 3) (s2 s3 s4 s5 s7 s8 s9 s11 s12 s13 : Sl) (hone : one.map nr = a) (cu : Cu) :
    ∃ t3 t12 t13 c, (gSeq (gSet 3 (gApp 2 G__law_mul (gaCons (gCall dToTup (gaCons (gL (gLc (giTup (gVar 10)) [14] (ggName 14) gYes le_law_1)) gaNil)) (gaCons (gVar 6) gaNil)))) (gSeq (gSet 12 (gApp 2 G__law_add (gaCons (gVar 3) (gaCons (gDisp .tuple (gaCons (gApp 2 G__law_roll (gaCup 1 (gaCons (gC (.int 3)) gaNil))) gaNil)) gaNil))))
    (gFor (giTup (gDisp .tuple (gaCons (gVar 3) (gaCons (gVar 12) gaNil)))) (ggName 13) fb_law_0))) (wL s2 s3 s4 s5 (.dat (tupI (ini ++ [lead]))) s7 s8 s9 (.dat (tupI one)) s11 s12 s13) cu = .ok (.nx (wL s2 t3 s4 s5 (.dat (tupI (ini ++ [lead]))) s7 s8 s9 (.dat (tupI one)) s11 t12 t13)) c := by
  have lone : one.length ≤ 5 := by rw [← hone, List.length_map] at la; exact la
  have ts : Trm (ini ++ [lead]) := fun c hc => by
    rw [List.getLast?_concat] at hc
    cases hc
    exact h0
  have hsm : ∀ x : Int, x.natAbs ≤ 50 → Sm x := fun x hx => Sm.of hx
  have hM : ∀ x ∈ a, ∀ y ∈ ini ++ [lead], mulOk x y = true := fun x hx y hy => mulOk_r (Nat.lt_of_le_of_lt (hb y hy) (by decide))
  have lb : (ini ++ [lead]).length ≤ 4 := by rw [List.length_append, List.length_singleton]; omega
  obtain ⟨S, P, a1, a2, a3, a4, a5, a6, _⟩ := e_mul hM (by omega) (by omega) (by rw [List.length_append, List.length_singleton]; omega)
  have eS : ∀ t, ev t P = ev t (cv a (ini ++ [lead])) := fun t => by rw [a4, a2, ev_cv]
  have n1 : nm a ≤ 250 := by
    have h1 := nm_le 50 a ha
    have : a.length * 50 ≤ 5 * 50 := Nat.mul_le_mul_right _ la
    omega
  have n2 : nm (ini ++ [lead]) ≤ 200 := by
    have h1 := nm_le 50 (ini ++ [lead]) hb
    have : (ini ++ [lead]).length * 50 ≤ 4 * 50 := Nat.mul_le_mul_right _ lb
    omega
  have nS : nm (cv a (ini ++ [lead])) ≤ 50000 := by
    have h1 := nm_cv a (ini ++ [lead])
    have h2 : nm a * nm (ini ++ [lead]) ≤ 250 * 200 := Nat.mul_le_mul n1 n2
    omega
  have hP := mem_le eS nS
  obtain ⟨v, c1, v0, v1, e1⟩ := roll_ex 3 (by decide) (by decide) cu
  have lP : P.length ≤ 8 := by omega
  obtain ⟨N, z1, z2, z3⟩ := e_ladd (one := P) (other := [v]) (by omega) (by decide : 1 < 50)
  have eN : ∀ t, ev t N = ev t (addP P [v]) := fun t => by rw [z2, ev_addP]
  have lN : N.length ≤ 8 := by
    have := tr_len z1 eN
    rw [addP_len] at this
    simp at this
    omega
  have hN : ∀ c ∈ N, c.natAbs ≤ 50003 := fun c hc => by
    obtain ⟨i, hi⟩ := co_mem hc
    have h1 := co_of_ev (a := P) (b := cv a (ini ++ [lead])) eS i
    have h2 := co_nm (cv a (ini ++ [lead])) i
    have h3 := co_nm [v] i
    have h4 : nm [v] = v.natAbs := by simp [nm]
    rw [← hi, co_of_ev eN, co_addP, h1]
    have := Int.natAbs_add_le (co (cv a (ini ++ [lead])) i) (co [v] i)
    omega
  have w2 : Wok (ini ++ [lead]) := wok_small ts (fun z hz => Nat.le_trans (hb z hz) (by decide)) (by omega)
  have wP : Wok P := wok_small a5 (fun z hz => Nat.le_trans (hP z hz) (by decide)) (by omega)
  have wN : Wok N := wok_small z1 (fun z hz => Nat.le_trans (hN z hz) (by decide)) (by omega)
  have hb67 : ∀ b ∈ ini, b.natAbs < 2 ^ 67 := fun b h => Nat.lt_of_le_of_lt (hb b (List.mem_append_left _ h)) (by decide)
  have hsl : Sm lead := hsm lead (hb lead (by simp))
  have bP : Bq 200 P := Bq.of fun c hc => Nat.lt_of_le_of_lt (hP c hc) (by decide)
  have bN : Bq 200 N := Bq.of fun c hc => Nat.lt_of_le_of_lt (hN c hc) (by decide)
  have r1 := sml_1 (one := one) (cu := cu) (by omega) s2 s3 s4 s5 (.dat (tupI (ini ++ [lead]))) s7 s8 s9 s11 s12 s13
  rw [hone] at r1
  refine ⟨.dat (tupI P), .dat (tupI N), .dat (tupI N), c1, rSeq (rSet (kApp (aC r1 (aC (kVar rfl) aN)) (a3 cu))) (rSeq (rSet (kApp (aC (kVar rfl) (aC (kDisp (ds := [.int v]) (aC (kApp (aCup rfl (aC kC aN)) e1) aN) rfl (by decide : 1 ≤ 16777216)) aN)) (z3 c1))) (rFor (iTup (kDisp (ds := [tupI P, tupI N]) (aC (kVar rfl) (aC (kVar rfl) aN)) rfl (by decide : 2 ≤ 16777216))) ?_))⟩
  exact rForC rfl (div_row wP w2 h0 hsl hb67 bP _ _ _ _ _ _ _ _ _ _) (rForC rfl (div_row wN w2 h0 hsl hb67 bN _ _ _ _ _ _ _ _ _ _) rForN)
theorem ixL0 {a b : PyData} : dIx (.list [a, b]) (.int 0) = some a := rfl
theorem ixL1 {a b : PyData} : dIx (.list [a, b]) (.int 1) = some b := rfl
theorem ixT0 {a b : PyData} : dIx (.tuple [a, b]) (.int 0) = some a := rfl
theorem ixT1 {a b : PyData} : dIx (.tuple [a, b]) (.int 1) = some b := rfl
theorem cs_small (hs : ∀ z ∈ l, z.natAbs ≤ 10 ^ 20) (ht : Trm l) (hn : l ≠ []) : cs l ≠ 0 ∧ Sm (cs l) := by
  obtain ⟨c, hc, h0⟩ := last_ex ht hn
  have hx : ∃ x ∈ l, x ≠ 0 := ⟨c, List.mem_of_getLast? hc, h0⟩
  exact ⟨cs_ne hx, cs_sm hx hs (by decide)⟩
theorem body (s2 s3 s4 s5 s6 s7 s8 s9 s10 s11 s12 s13 : Sl) (cu : Cu) : ∃ t3 t4 t5 t6 t7 t10 t11 t12 t13 c, fb_law_1 (wL s2 s3 s4 s5 s6 s7 s8 s9 s10 s11 s12 s13) cu = .ok (.nx (wL s2 t3 t4 t5 t6 t7 s8 s9 t10 t11 t12 t13)) c := by
  obtain ⟨v, c1, v0, v1, e1⟩ := roll_ex 5 (by decide) (by decide) cu
  obtain ⟨n, rfl⟩ := Int.eq_ofNat_of_zero_le v0
  obtain ⟨one, c2, t1, l1, q1, e2⟩ := e_line n (by omega) c1
  obtain ⟨v', c3, v0', v1', e3⟩ := roll_ex 4 (by decide) (by decide) c2
  obtain ⟨n', rfl⟩ := Int.eq_ofNat_of_zero_le v0'
  obtain ⟨other, c4, t2, l2, q2, e4⟩ := e_line n' (by omega) c3
  have w1 := wok_small t1 q1 (by omega)
  have w2 := wok_small t2 q2 (by omega)
  have hM : ∀ a ∈ one, ∀ b ∈ other, mulOk a b = true := fun a ha b hb => mulOk_sm (sm20 (q1 a ha)) (sm20 (q2 b hb))
  obtain ⟨S, p1, p2, p3, p4⟩ := e_plus w1 w2
  have lS : S.length ≤ 20 := by
    have := tr_len p1 (b := addP one other) fun t => by rw [p2, ev_addP]
    rw [addP_len] at this
    omega
  have lP : (cp one other).length ≤ 20 := by
    unfold cp
    split
    · simp
    · rename_i h
      have := cv_len one other (fun e => h (.inl e)) (fun e => h (.inr e))
      omega
  obtain ⟨z, hz, c5, e5⟩ := some_ex [0, 1, -1, 2, -7, 10 ^ 20] (by decide) (by decide) c4
  have hz20 : z.natAbs ≤ 10 ^ 20 := by
    have : ∀ z ∈ ([0, 1, -1, 2, -7, 10 ^ 20] : List Int), z.natAbs ≤ 10 ^ 20 := by decide
    exact this z hz
  have ltold : Lay 2 (.list [tupI S, tupI (cp one other)]) := lay_lst fun d hd => by
    simp only [List.mem_cons, List.not_mem_nil, or_false] at hd
    rcases hd with rfl | rfl <;> exact lay_tupI 0 _
  -- the rows
  have r0 : ∀ σ : Sl, gPar 10 11 (gaCons (gApp 2 G__law_line (gaCup 1 (gaCons (gApp 2 G__law_roll (gaCup 1 (gaCons (gC (.int 5)) gaNil))) gaNil))) (gaCons (gApp 2 G__law_line (gaCup 1 (gaCons (gApp 2 G__law_roll (gaCup 1 (gaCons (gC (.int 4)) gaNil))) gaNil))) gaNil)) (wL s2 s3 s4 s5 s6 s7 s8 s9 s10 s11 s12 s13) cu = .ok (.nx (wL s2 s3 s4 s5 s6 s7 s8 s9 (.dat (tupI one)) (.dat (tupI other)) s12 s13)) c4 := fun _ =>
    rPar (aC (kApp (aCup rfl (aC (kApp (aCup rfl (aC kC aN)) e1) aN)) e2) (aC (kApp (aCup rfl (aC (kApp (aCup rfl (aC kC aN)) e3) aN)) e4) aN))
  have r3 : ∃ b, gAnd (gBool (gBin dNe (gVar 10) (gDisp .tuple gaNil))) (gOr (gBool (gBin dNe (gApp 1 G_primitive_of (gaCons (gVar 10) gaNil)) (gApp 1 G__law_prim (gaCons (gVar 10) gaNil)))) (gNot (gTru (gApp 1 G__law_is (gaCons (gApp 1 G_primitive_of (gaCons (gVar 10) gaNil)) gaNil))))) (wL s2 s3 (.dat (.list [tupI S, tupI (cp one other)])) s5 s6 s7 s8 s9 (.dat (tupI one)) (.dat (tupI other)) s12 s13) c4 = .ok b c4 ∧ b = false := by
    by_cases hn : one = []
    · exact ⟨false, tAndF (tBool (kBin (kVar rfl) (kDisp (ds := []) aN) (neT_nil0 hn))), rfl⟩
    · obtain ⟨k0, ks⟩ := cs_small q1 t1 hn
      have ep := e_prim (cu := c4) w1 hn k0 ks
      have lp : (pm one).length < 1000 := by rw [pm_len]; omega
      exact ⟨false, tAndT (tBool (kBin (kVar rfl) (kDisp (ds := []) aN) (neT_nil hn))) (tOrF (tBool (kBin (kApp (aC (kVar rfl) aN) ep) (kApp (aC (kVar rfl) aN) (e_lprim k0 ks (by omega))) (dNe_self (lay_tupI 0 _) (by decide)))) (tNot (k := true) (tTru (kApp (aC (kApp (aC (kVar rfl) aN) ep) aN) (e_lis _ lp)) rfl))), rfl⟩
  obtain ⟨b3, r3, rfl⟩ := r3
  have r6 : ∃ t3 t12 t13 c6, (gIf (gAnd (gBool (gBin dNe (gVar 6) (gDisp .tuple gaNil))) (gBool (gBin dNe (gBin dIx (gVar 6) (gUn dNeg (gC (.int 1)))) (gC (.int 0))))) (gSeq (gSet 3 (gApp 2 G__law_mul (gaCons (gCall dToTup (gaCons (gL (gLc (giTup (gVar 10)) [14] (ggName 14) gYes le_law_1)) gaNil)) (gaCons (gVar 6) gaNil))))
    (gSeq (gSet 12 (gApp 2 G__law_add (gaCons (gVar 3) (gaCons (gDisp .tuple (gaCons (gApp 2 G__law_roll (gaCup 1 (gaCons (gC (.int 3)) gaNil))) gaNil)) gaNil))))
    (gFor (giTup (gDisp .tuple (gaCons (gVar 3) (gaCons (gVar 12) gaNil)))) (ggName 13) fb_law_0))) gSkip) (wL s2 s3 (.dat (.list [tupI S, tupI (cp one other)])) (.dat (.int z)) (.dat (tupI (other.map nr))) s7 s8 s9 (.dat (tupI one)) (.dat (tupI other)) s12 s13) c5 = .ok (.nx (wL s2 t3 (.dat (.list [tupI S, tupI (cp one other)])) (.dat (.int z)) (.dat (tupI (other.map nr))) s7 s8 s9 (.dat (tupI one)) (.dat (tupI other)) t12 t13)) c6 := by
    rcases List.eq_nil_or_concat (other.map nr) with e | ⟨ini, lead, e⟩
    · exact ⟨s3, s12, s13, c5, rIfF (tAndF (tBool (kBin (kVar rfl) (kDisp (ds := []) aN) (neT_nil0 e)))) rSkip⟩
    · rw [List.concat_eq_append] at e
      have hl : (ini ++ [lead]).length ≤ 4 := by rw [← e, List.length_map]; omega
      rw [List.length_append, List.length_singleton] at hl
      have hall : ∀ x ∈ ini ++ [lead], x.natAbs ≤ 50 := fun x hx => by
        rw [← e] at hx
        obtain ⟨y, _, rfl⟩ := List.mem_map.mp hx
        exact nr_le y
      have hi : dIx (tupI (ini ++ [lead])) (.int (-1)) = some (.int lead) := ixT_last
      rw [e]
      by_cases h0 : lead = 0
      · exact ⟨s3, s12, s13, c5, rIfF (tAndT (tBool (kBin (kVar rfl) (kDisp (ds := []) aN) (neT_nil (by simp)))) (tBool (kBin (kBin (kVar rfl) (kUn kC dNeg_int) hi) kC (by rw [dNe_int, decide_eq_true h0]; rfl)))) rSkip⟩
      · obtain ⟨t3, t12, t13, c6, e6⟩ := prod_row (one := one) (a := one.map nr) h0 (fun x hx => by
          obtain ⟨y, _, rfl⟩ := List.mem_map.mp hx
          exact nr_le y) hall (by rw [List.length_map]; omega) (by omega) s2 s3 (.dat (.list [tupI S, tupI (cp one other)])) (.dat (.int z)) s7 s8 s9 (.dat (tupI other)) s12 s13 rfl c5
        exact ⟨t3, t12, t13, c6, rIfT (tAndT (tBool (kBin (kVar rfl) (kDisp (ds := []) aN) (neT_nil (by simp)))) (tBool (kBin (kBin (kVar rfl) (kUn kC dNeg_int) hi) kC (by rw [dNe_int, decide_eq_false h0]; rfl)))) e6⟩
  obtain ⟨t3, t12, t13, c6, r6⟩ := r6
  obtain ⟨ps, c7, k1, k2, e7⟩ := e_pts (one := one) (by omega) s2 t3 (.dat (.list [tupI S, tupI (cp one other)])) (.dat (.int z)) (.dat (tupI (other.map nr))) s7 s8 s9 (.dat (tupI other)) t12 t13 c6
  have r8 : ∃ t4, (gIf (gAnd (gBool (gBin dNe (gVar 7) (gDisp .tuple gaNil))) (gBool (gBin dNe (gBin dIx (gBin dIx (gVar 7) (gUn dNeg (gC (.int 1)))) (gC (.int 0))) (gC (.int 0))))) (gSeq (gSet 4 (gApp 1 G_cleared_line (gaCons (gVar 7) gaNil)))
    (gIf (gOr (gBool (gBin dNe (gVar 4) (gApp 1 G__law_cleared (gaCons (gVar 7) gaNil)))) (gOr (gNot (gTru (gApp 1 G__law_is (gaCons (gBin dIx (gVar 4) (gC (.int 0))) gaNil)))) (gNot (gTru (gApp 1 G__law_is (gaCons (gBin dIx (gVar 4) (gC (.int 1))) gaNil)))))) (gRet (gC (.bool false))) gSkip)) gSkip) (wL s2 t3 (.dat (.list [tupI S, tupI (cp one other)])) (.dat (.int z)) (.dat (tupI (other.map nr))) (.dat (.tuple (ps.map prT))) s8 s9 (.dat (tupI one)) (.dat (tupI other)) t12 t13) c7 = .ok (.nx (wL s2 t3 t4 (.dat (.int z)) (.dat (tupI (other.map nr))) (.dat (.tuple (ps.map prT))) s8 s9 (.dat (tupI one)) (.dat (tupI other)) t12 t13)) c7 := by
    rcases List.eq_nil_or_concat ps with e | ⟨qs, p, e⟩
    · exact ⟨_, rIfF (tAndF (tBool (kBin (kVar rfl) (kDisp (ds := []) aN) (by rw [e]; rfl)))) rSkip⟩
    · rw [List.concat_eq_append] at e
      have hn : ps ≠ [] := by rw [e]; simp
      have d1 : dNe (.tuple (ps.map prT)) (.tuple []) = some (.bool true) := by unfold dNe; rw [eqD_tnil (lay_prs ps) (by decide) (by simp [hn])]; rfl
      have d2 : dIx (.tuple (ps.map prT)) (.int (-1)) = some (prT p) := by rw [e, List.map_append]; exact ixLast
      by_cases h0 : p.1 = 0
      · exact ⟨_, rIfF (tAndT (tBool (kBin (kVar rfl) (kDisp (ds := []) aN) d1)) (tBool (kBin (kBin (kBin (kVar rfl) (kUn kC dNeg_int) d2) kC (ixP0 p)) kC (by rw [dNe_int, decide_eq_true h0]; rfl)))) rSkip⟩
      · have F : Frs ps := ⟨hn, by omega, fun p hp => (k2 p hp).1, fun p hp => (k2 p hp).2.1, fun p hp => (k2 p hp).2.2.1, fun p hp => (k2 p hp).2.2.2, fun q hq => by rw [e, List.getLast?_concat] at hq; cases hq; exact h0⟩
        have lc : Lay 2 (.tuple [frD (cs (ovr (lcN 1 ps) ps)) (lcN 1 ps), tupI (pm (ovr (lcN 1 ps) ps))]) := lay_tup fun d hd => by
          simp only [List.mem_cons, List.not_mem_nil, or_false] at hd
          rcases hd with rfl | rfl
          · exact lay_tup fun d hd => by
              simp only [List.mem_cons, List.not_mem_nil, or_false] at hd
              rcases hd with rfl | rfl <;> exact lay_int 0 _
          · exact lay_tupI 0 _
        have i1 : G__law_is [.dat (frD (cs (ovr (lcN 1 ps) ps)) (lcN 1 ps))] c7 = .ok (.bool true) c7 := e_lis [(fr (cs (ovr (lcN 1 ps) ps)) (lcN 1 ps)).1, (fr (cs (ovr (lcN 1 ps) ps)) (lcN 1 ps)).2] (by decide : 2 < 1000)
        have i2 : G__law_is [.dat (tupI (pm (ovr (lcN 1 ps) ps)))] c7 = .ok (.bool true) c7 := e_lis _ (by rw [pm_len]; unfold ovr; rw [List.length_map]; omega)
        exact ⟨_, rIfT (tAndT (tBool (kBin (kVar rfl) (kDisp (ds := []) aN) d1)) (tBool (kBin (kBin (kBin (kVar rfl) (kUn kC dNeg_int) d2) kC (ixP0 p)) kC (by rw [dNe_int, decide_eq_false h0]; rfl))))
          (rSeq (rSet (kApp (aC (kVar rfl) aN) (e_cleared F))) (rIfF (tOrF (tBool (kBin (kVar rfl) (kApp (aC (kVar rfl) aN) (e_lcleared F)) (dNe_self lc (by decide)))) (tOrF (tNot (k := true) (tTru (kApp (aC (kBin (kVar rfl) kC ixT0) aN) i1) rfl)) (tNot (k := true) (tTru (kApp (aC (kBin (kVar rfl) kC ixT1) aN) i2) rfl)))) rSkip))⟩
  obtain ⟨t4, r8⟩ := r8
  refine ⟨t3, t4, _, _, _, _, _, t12, t13, c7, rSeq (r0 .un) (rSeq (rSet (kDisp (ds := [tupI S, tupI (cp one other)]) (aC (kApp (aC (kVar rfl) (aC (kVar rfl) aN)) (p3 c4)) (aC (kApp (aC (kVar rfl) (aC (kVar rfl) aN)) (e_times w1 w2 hM)) aN)) rfl (by decide : 2 ≤ 16777216)))
    (rSeq (rIfF (tOrF (tBool (kBin (kApp (aC (kVar rfl) aN) (e_content w1)) (kApp (aC (kVar rfl) aN) e_lcont) (dNe_self (lay_int 0 _) (by decide)))) (tOrF (tTru (kIsi (kApp (aC (kVar rfl) aN) (e_content w1)) (k := false) rfl) rfl) (tBool (kBin (kVar rfl) (kDisp (ds := [tupI S, tupI (cp one other)]) (aC (kApp (aC (kVar rfl) (aC (kVar rfl) aN)) (p4 c4)) (aC (kApp (aC (kVar rfl) (aC (kVar rfl) aN)) (e_lmul hM t1 t2 (by omega) (by omega))) aN)) rfl (by decide : 2 ≤ 16777216)) (dNe_self ltold (by decide)))))) rSkip)
    (rSeq (rIfF (tOrF (tNot (k := true) (tTru (kApp (aC (kBin (kVar rfl) kC ixL0) aN) (e_lis S (by omega))) rfl)) (tOrF (tNot (k := true) (tTru (kApp (aC (kBin (kVar rfl) kC ixL1) aN) (e_lis _ (by omega))) rfl)) r3)) rSkip)
    (rSeq (rSet (kApp (aCup rfl (aC (a := lstI [0, 1, -1, 2, -7, 10 ^ 20]) (cu1 := c4) (by kernel_rfl) aN)) e5))
    (rSeq (rIfF (tBool (kBin (kApp (aC (kVar rfl) (aC (kVar rfl) aN)) (e_wat w1 q1 hz20)) (kApp (aC (kVar rfl) (aC (kVar rfl) aN)) (e_lval hz20 q1 (by omega))) (dNe_self (lay_int 0 _) (by decide)))) rSkip)
    (rSeq (rSet (sml_0 (by omega) _ _ _ _ _ _ _ _ _ _ _))
    (rSeq r6 (rSeq (rSet e7) r8))))))))⟩
theorem loop6 : ∀ (items : List PyData) (s2 s3 s4 s5 s6 s7 s8 s9 s10 s11 s12 s13 : Sl) (cu : Cu), ∃ t2 t3 t4 t5 t6 t7 t10 t11 t12 t13 c, gForL (ggName 2) fb_law_1 items (wL s2 s3 s4 s5 s6 s7 s8 s9 s10 s11 s12 s13) cu = .ok (.nx (wL t2 t3 t4 t5 t6 t7 s8 s9 t10 t11 t12 t13)) c
  | [], s2, s3, s4, s5, s6, s7, s8, s9, s10, s11, s12, s13, cu => ⟨s2, s3, s4, s5, s6, s7, s10, s11, s12, s13, cu, rfl⟩
  | d :: items, s2, s3, s4, s5, s6, s7, s8, s9, s10, s11, s12, s13, cu => by
    obtain ⟨a3, a4, a5, a6, a7, a10, a11, a12, a13, c1, e1⟩ := body (.dat d) s3 s4 s5 s6 s7 s8 s9 s10 s11 s12 s13 cu
    obtain ⟨t2, t3, t4, t5, t6, t7, t10, t11, t12, t13, c2, e2⟩ := loop6 items (.dat d) a3 a4 a5 a6 a7 s8 s9 a10 a11 a12 a13 c1
    exact ⟨t2, t3, t4, t5, t6, t7, t10, t11, t12, t13, c2, rForC rfl e1 e2⟩
end
end Prog

set_option Elab.async false
set_option linter.all false
set_option maxRecDepth 100000
set_option maxHeartbeats 800000
set_option autoImplicit false
set_option exponentiation.threshold 4000
namespace Prog
open PySem PySem.Spec L2 DL ZP
section
variable {l r : List Int}
theorem tail9 (s2 s3 s4 s5 s6 s7 s8 s9 s10 s11 s12 s13 : Sl) (cu : Cu) : ta_law_9 (wL s2 s3 s4 s5 s6 s7 s8 s9 s10 s11 s12 s13) cu = ta_law_5 (wL s2 s3 s4 s5 s6 s7 s8 s9 s10 s11 s12 s13) cu := by kernel_rfl
theorem tail0 (s2 s3 s4 s5 s6 s7 s8 s9 s10 s11 s12 s13 : Sl) (cu : Cu) : ta_law_0 (wL s2 s3 s4 s5 s6 s7 s8 s9 s10 s11 s12 s13) cu = .ok (.ret (.bool true)) cu := by kernel_rfl
theorem pm_ok (ht : Trm l) (hn : l ≠ []) (hs : ∀ z ∈ l, z.natAbs ≤ 10 ^ 20) : Trm (pm l) ∧ pm l ≠ [] ∧ (∀ z ∈ pm l, z.natAbs ≤ 10 ^ 20) ∧ cg 0 (pm l) = 1 ∧ ∃ c, (pm l).getLast? = some c ∧ 0 < c := by
  obtain ⟨c, hc, h0⟩ := last_ex ht hn
  have hx : ∃ x ∈ l, x ≠ 0 := ⟨c, List.mem_of_getLast? hc, h0⟩
  obtain ⟨p, h1, h2⟩ := pm_last ht hn
  refine ⟨fun d hd => (by rw [h1] at hd; cases hd; omega), fun e => (by rw [e] at h1; cases h1), fun z hz => ?_, pm_cg hx, p, h1, h2⟩
  obtain ⟨x, hxl, rfl⟩ := List.mem_map.mp hz
  have := fdiv_abs (cs_ne hx) (Int.fmod_eq_zero_of_dvd (cs_dvd hxl))
  exact Nat.le_trans this (hs x hxl)
theorem content_one {a b : List Int} (ha : cg 0 a = 1) (hb : cg 0 b = 1) {p q : Int} (hp : a.getLast? = some p) (hq : b.getLast? = some q) (p0 : 0 < p) (q0 : 0 < q) : cs (cv a b) = 1 := by
  have hl := cv_last a b p q hp hq
  have hpq := Int.mul_pos p0 q0
  have hx : ∃ x ∈ cv a b, x ≠ 0 := ⟨p * q, List.mem_of_getLast? hl, by omega⟩
  have g := gauss ha hb hx
  unfold cs
  rw [hl, g]
  simp only [Option.getD_some]
  rw [if_neg (by omega)]
  rfl
theorem tail5 (s2 s3 s4 s5 s6 s7 s8 s9 s10 s11 s12 s13 : Sl) (cu : Cu) : ∃ c, ta_law_5 (wL s2 s3 s4 s5 s6 s7 s8 s9 s10 s11 s12 s13) cu = .ok (.ret (.bool true)) c := by
  obtain ⟨l, c1, t1, l1, q1, e1⟩ := e_line 3 (by decide) cu
  obtain ⟨r, c2, t2, l2, q2, e2⟩ := e_line 3 (by decide) c1
  have eT := fun (a : List Int) => dEqT (a := a) (b := [])
  by_cases hl : l = []
  · have d := eT l
    rw [decide_eq_true hl] at d
    exact ⟨c2, rSeq (rPar (aC (kApp (aCup rfl (aC kC aN)) e1) (aC (kApp (aCup rfl (aC kC aN)) e2) aN))) (rSeqR (rIfT (tOrT (tBool (kBin (kVar rfl) (kDisp (ds := []) aN) d))) (rRet kC)))⟩
  · have d := eT l
    rw [decide_eq_false hl] at d
    by_cases hr : r = []
    · have d2 := eT r
      rw [decide_eq_true hr] at d2
      exact ⟨c2, rSeq (rPar (aC (kApp (aCup rfl (aC kC aN)) e1) (aC (kApp (aCup rfl (aC kC aN)) e2) aN))) (rSeqR (rIfT (tOrF (tBool (kBin (kVar rfl) (kDisp (ds := []) aN) d)) (tBool (kBin (kVar rfl) (kDisp (ds := []) aN) d2))) (rRet kC)))⟩
    · have d2 := eT r
      rw [decide_eq_false hr] at d2
      obtain ⟨k0, ks⟩ := cs_small q1 t1 hl
      obtain ⟨m0, ms⟩ := cs_small q2 t2 hr
      obtain ⟨a1, a2, a3, a4, p, a5, a6⟩ := pm_ok t1 hl q1
      obtain ⟨b1, b2, b3, b4, q, b5, b6⟩ := pm_ok t2 hr q2
      have la := pm_len l
      have lb := pm_len r
      have wa := wok_small a1 a3 (by omega)
      have wb := wok_small b1 b3 (by omega)
      have hM : ∀ a ∈ pm l, ∀ b ∈ pm r, mulOk a b = true := fun a ha b hb => mulOk_sm (sm20 (a3 a ha)) (sm20 (b3 b hb))
      have ecp : cp (pm l) (pm r) = cv (pm l) (pm r) := by unfold cp; rw [if_neg (fun h => h.elim a2 b2)]
      have nn : nm (cv (pm l) (pm r)) ≤ 4 * 10 ^ 20 * (4 * 10 ^ 20) := by
        have h1 := nm_cv (pm l) (pm r)
        have h2 := nm_le (10 ^ 20) (pm l) a3
        have h3 := nm_le (10 ^ 20) (pm r) b3
        have h4 : (pm l).length * 10 ^ 20 ≤ 4 * 10 ^ 20 := Nat.mul_le_mul_right _ (by omega)
        have h5 : (pm r).length * 10 ^ 20 ≤ 4 * 10 ^ 20 := Nat.mul_le_mul_right _ (by omega)
        exact Nat.le_trans h1 (Nat.mul_le_mul (Nat.le_trans h2 h4) (Nat.le_trans h3 h5))
      have hP := mem_le (l := cv (pm l) (pm r)) (S := cv (pm l) (pm r)) (fun _ => rfl) nn
      have tP := cv_trm a1 b1 a2 b2
      have lP := cv_len (pm l) (pm r) a2 b2
      have wP : Wok (cv (pm l) (pm r)) := ⟨by omega, tP, fun c hc => by
        have h1 := hP c hc
        rw [ab_abs]
        have h2 : ((4 * 10 ^ 20 * (4 * 10 ^ 20) : Nat) : Int) ≤ Bg := by decide
        omega⟩
      have c1' := content_one a4 b4 a5 b5 a6 b6
      rcases List.eq_nil_or_concat (pm r) with e | ⟨ini, lead, e⟩
      · exact absurd e b2
      · rw [List.concat_eq_append] at e
        have hlead : lead = q := by rw [e, List.getLast?_concat] at b5; cases b5; rfl
        have h0 : lead ≠ 0 := by omega
        have b3' := b3
        rw [e] at b3'
        have hs : Sm lead := sm20 (b3' lead (by simp))
        have hb67 : ∀ b ∈ ini, b.natAbs < 2 ^ 67 := fun b h => Nat.lt_of_le_of_lt (b3' b (List.mem_append_left _ h)) (by decide)
        have bq : Bq 200 (cv (pm l) (pm r)) := Bq.of fun c hc => Nat.lt_of_le_of_lt (hP c hc) (by decide)
        have ex : exQ (cv (pm l) (pm r)) ini lead = some (pm l) := exQ_of h0 a2 (by
          have : (pm r).length = ini.length + 1 := by rw [e, List.length_append]; rfl
          omega) fun t => by rw [ev_cv, e]
        have wb' := wb
        rw [e] at wb'
        have dv : ∀ cu, G_whole_divided_wholelines [.dat (tupI (cv (pm l) (pm r))), .dat (tupI (pm r))] cu = .ok (tupI (pm l)) cu := fun cu => by
          have h := e_wdiv (cu := cu) wP wb' h0 hs hb67 bq
          rw [ex, ← e] at h
          exact h
        have dl : dNe (tupI (pm l)) (tupI (pm l)) = some (.bool false) := dNe_self (lay_tupI 0 _) (by decide)
        have ct : ∀ cu, G_content_of [.dat (tupI (cv (pm l) (pm r)))] cu = .ok (.int 1) cu := fun cu => by rw [e_content wP, c1']
        have tm : ∀ cu, G_whole_times_wholelines [.dat (tupI (pm l)), .dat (tupI (pm r))] cu = .ok (tupI (cv (pm l) (pm r))) cu := fun cu => by rw [e_times wa wb hM, ecp]
        refine ⟨c2, rSeq (rPar (aC (kApp (aCup rfl (aC kC aN)) e1) (aC (kApp (aCup rfl (aC kC aN)) e2) aN))) (rSeq (rIfF (tOrF (tBool (kBin (kVar rfl) (kDisp (ds := []) aN) d)) (tBool (kBin (kVar rfl) (kDisp (ds := []) aN) d2))) rSkip)
          (rSeq (rPar (aC (kApp (aC (kVar rfl) aN) (e_lprim k0 ks (by omega))) (aC (kApp (aC (kVar rfl) aN) (e_lprim m0 ms (by omega))) aN))) (rSeq (rSet (kApp (aC (kVar rfl) (aC (kVar rfl) aN)) (tm c2)))
          (rSeq (rIfF (tOrF (tBool (kBin (kApp (aC (kVar rfl) aN) (ct c2)) kC (by rw [dNe_int]; rfl))) (tOrF (tBool (kBin (kApp (aC (kVar rfl) (aC (kVar rfl) aN)) (dv c2)) (kVar rfl) dl)) (tNot (k := true) (tTru (kApp (aC (kApp (aC (kVar rfl) (aC (kVar rfl) aN)) (dv c2)) aN) (e_lis _ (by omega))) rfl)))) rSkip) ?_))))⟩
        exact tail0 _ _ _ _ _ _ _ _ _ _ _ _ c2
theorem e_law (cu : Cu) : ∃ c, g_law (.un :: .cup :: List.replicate 13 .un) cu = .ok (.ret (.bool true)) c := by
  obtain ⟨t2, t3, t4, t5, t6, t7, t10, t11, t12, t13, c1, e1⟩ := loop6 (rngD 0 6) .un .un .un .un .un .un .un .un .un .un .un .un cu
  obtain ⟨c2, e2⟩ := tail5 t2 t3 t4 t5 t6 t7 .un .un t10 t11 t12 t13 c1
  refine ⟨c2, rSeq (rFor (iArg (aC kC aN) (rng_ok (n := 6) (by decide))) e1) ?_⟩
  rw [tail9]
  exact e2
theorem law_holds_g : ∀ ns : List Int, ns.length ≤ 63 → ∃ cu, g_law (.un :: .cup :: List.replicate 13 .un) (DL.cup0 (DL.cell0 ns)) = .ok (.ret (.bool true)) cu := fun ns _ => e_law _
end
end Prog

set_option Elab.async false
set_option linter.all false
set_option maxRecDepth 100000
set_option maxHeartbeats 0
set_option autoImplicit false
namespace Prog
open PySem PySem.Spec PyProof.Rows L2 DL
def CLs : List Str := ["InvalidNumber", "InvalidLine", "InvalidWhole", "PaperError"]
def kxOf (K : PySem.W.Frag) : Kx := ⟨[((tabP K "law").2, ("law" : Str) ++ ".<locals>." ++ "<lambda>"), ((tabP K "is_whole").2, ("is_whole" : Str) ++ ".<locals>." ++ "<genexpr>"), ((tabP K "is_given_whole").2, ("is_given_whole" : Str) ++ ".<locals>." ++ "<genexpr>"), ((tabP K "has_line_form").2, ("has_line_form" : Str) ++ ".<locals>." ++ "<genexpr>"), ((tabP K "shared_line").2, ("shared_line" : Str) ++ ".<locals>." ++ "<genexpr>")], fun i => He.ga K (CLs.getD i ""), K⟩
theorem txtH {P : Program} {w : World} {F : PySem.W.Frag} {mg : Str → Option Value} {h base : Heap} (S : SaysC faH fnH xsH bsH tsH F h) (G : h.Ns mainGlobals mg) (TB : ∀ x ∈ xsH, LamX.TabB base mg (tabP F x).1 (tabP F x).2) : Txt P w F mg base (kxOf F) where
  b_abs := He.free_ok S.kin G (S.facts.fact 0 rfl)
  b_len := He.free_ok S.kin G (S.facts.fact 1 rfl)
  b_min := He.free_ok S.kin G (S.facts.fact 2 rfl)
  b_max := He.free_ok S.kin G (S.facts.fact 3 rfl)
  b_sum := He.free_ok S.kin G (S.facts.fact 4 rfl)
  b_isinstance := He.free_ok S.kin G (S.facts.fact 5 rfl)
  b_range := He.free_ok S.kin G (S.facts.fact 6 rfl)
  b_zip := He.free_ok S.kin G (S.facts.fact 7 rfl)
  b_enumerate := He.free_ok S.kin G (S.facts.fact 8 rfl)
  b_reversed := He.free_ok S.kin G (S.facts.fact 9 rfl)
  b_all := He.free_ok S.kin G (S.facts.fact 10 rfl)
  b_any := He.free_ok S.kin G (S.facts.fact 11 rfl)
  b_divmod := He.free_ok S.kin G (S.facts.fact 12 rfl)
  b_int := He.free_ok S.kin G (S.facts.fact 13 rfl)
  b_bool := He.free_ok S.kin G (S.facts.fact 14 rfl)
  b_str := He.free_ok S.kin G (S.facts.fact 15 rfl)
  b_tuple := He.free_ok S.kin G (S.facts.fact 16 rfl)
  b_list := He.free_ok S.kin G (S.facts.fact 17 rfl)
  b_isqrt := bi_ok S.kin G (S.bi _ (List.mem_of_getElem? (i := 0) rfl))
  b_gcd := bi_ok S.kin G (S.bi _ (List.mem_of_getElem? (i := 1) rfl))
  kf := rfl
  u_WHOLE := let ⟨u, v, a, b, c⟩ := tp_ok S.kin G (S.tp _ (List.mem_of_getElem? (i := 0) rfl)); ⟨u, v, a, b, c _ rfl⟩
  c_LONGEST := He.int_ok S.kin G (S.facts.fact 18 rfl)
  c_MOST_PARTS := He.int_ok S.kin G (S.facts.fact 19 rfl)
  c_GREATEST := He.int_ok S.kin G (S.facts.fact 20 rfl)
  c_LONGEST_WHOLE := He.int_ok S.kin G (S.facts.fact 21 rfl)
  g_InvalidNumber := He.glo_ok S.kin G (S.facts.fact 22 rfl)
  g_InvalidLine := He.glo_ok S.kin G (S.facts.fact 23 rfl)
  g_InvalidWhole := He.glo_ok S.kin G (S.facts.fact 24 rfl)
  g_PaperError := He.glo_ok S.kin G (S.facts.fact 25 rfl)
  x_InvalidNumber := (He.exc_ok (S.facts.fact 26 rfl)).1
  k_InvalidNumber := (He.exc_ok (S.facts.fact 26 rfl)).2.1
  s_InvalidNumber := (He.exc_ok (S.facts.fact 26 rfl)).2.2.1
  t_InvalidNumber := (He.exc_ok (S.facts.fact 26 rfl)).2.2.2
  x_InvalidLine := (He.exc_ok (S.facts.fact 27 rfl)).1
  k_InvalidLine := (He.exc_ok (S.facts.fact 27 rfl)).2.1
  s_InvalidLine := (He.exc_ok (S.facts.fact 27 rfl)).2.2.1
  t_InvalidLine := (He.exc_ok (S.facts.fact 27 rfl)).2.2.2
  x_InvalidWhole := (He.exc_ok (S.facts.fact 28 rfl)).1
  k_InvalidWhole := (He.exc_ok (S.facts.fact 28 rfl)).2.1
  s_InvalidWhole := (He.exc_ok (S.facts.fact 28 rfl)).2.2.1
  t_InvalidWhole := (He.exc_ok (S.facts.fact 28 rfl)).2.2.2
  f_is_integer := fun_ofA S.facts S.kin G 0 rfl 29 rfl (fun _ _ _ _ _ _ us hl => match us, hl with | [_], _ => rfl)
  f_is_integer_in := fun_ofA S.facts S.kin G 1 rfl 30 rfl (fun _ _ _ _ _ _ us hl => match us, hl with | [_, _, _], _ => rfl)
  f_fraction := fun_ofA S.facts S.kin G 2 rfl 31 rfl (fun _ _ _ _ _ _ us hl => match us, hl with | [_, _], _ => rfl)
  f_trimmed := fun_ofA S.facts S.kin G 3 rfl 32 rfl (fun _ _ _ _ _ _ us hl => match us, hl with | [_], _ => rfl)
  f_nested_constant := fun_ofA S.facts S.kin G 4 rfl 33 rfl (fun _ _ _ _ _ _ us hl => match us, hl with | [_, _], _ => rfl)
  f_is_unit := fun_ofA S.facts S.kin G 5 rfl 34 rfl (fun _ _ _ _ _ _ us hl => match us, hl with | [_, _], _ => rfl)
  f_nested_plus := fun_ofA S.facts S.kin G 6 rfl 35 rfl (fun _ _ _ _ _ _ us hl => match us, hl with | [_, _, _], _ => rfl)
  f_nested_minus := fun_ofA S.facts S.kin G 7 rfl 36 rfl (fun _ _ _ _ _ _ us hl => match us, hl with | [_, _, _], _ => rfl)
  f_whole_product := fun_ofA S.facts S.kin G 8 rfl 37 rfl (fun _ _ _ _ _ _ us hl => match us, hl with | [_, _], _ => rfl)
  f_nested_times := fun_ofA S.facts S.kin G 9 rfl 38 rfl (fun _ _ _ _ _ _ us hl => match us, hl with | [_, _, _], _ => rfl)
  f_integer_exact := fun_ofA S.facts S.kin G 10 rfl 39 rfl (fun _ _ _ _ _ _ us hl => match us, hl with | [_, _, _], _ => rfl)
  f_nested_exact := fun_ofA S.facts S.kin G 11 rfl 40 rfl (fun _ _ _ _ _ _ us hl => match us, hl with | [_, _, _], _ => rfl)
  f_nested_content := fun_ofA S.facts S.kin G 12 rfl 41 rfl (fun _ _ _ _ _ _ us hl => match us, hl with | [_, _], _ => rfl)
  f_nested_common := fun_ofA S.facts S.kin G 13 rfl 42 rfl (fun _ _ _ _ _ _ us hl => match us, hl with | [_, _, _], _ => rfl)
  f_common_multiple := fun_ofA S.facts S.kin G 14 rfl 43 rfl (fun _ _ _ _ _ _ us hl => match us, hl with | [_, _], _ => rfl)
  f_whole_number := fun_ofA S.facts S.kin G 15 rfl 44 rfl (fun _ _ _ _ _ _ us hl => match us, hl with | [_, _], _ => rfl)
  f_whole_line := fun_ofA S.facts S.kin G 16 rfl 45 rfl (fun _ _ _ _ _ _ us hl => match us, hl with | [_, _], _ => rfl)
  f_nought_of := fun_ofA S.facts S.kin G 17 rfl 46 rfl (fun _ _ _ _ _ _ us hl => match us, hl with | [_], _ => rfl)
  f_is_pair := fun_ofA S.facts S.kin G 18 rfl 47 rfl (fun _ _ _ _ _ _ us hl => match us, hl with | [_], _ => rfl)
  f_is_within_size := fun_ofA S.facts S.kin G 19 rfl 48 rfl (fun _ _ _ _ _ _ us hl => match us, hl with | [_], _ => rfl)
  f_is_settled := fun_ofA S.facts S.kin G 20 rfl 49 rfl (fun _ _ _ _ _ _ us hl => match us, hl with | [_, _], _ => rfl)
  f_has_number_form := fun_ofA S.facts S.kin G 21 rfl 50 rfl (fun _ _ _ _ _ _ us hl => match us, hl with | [_, _], _ => rfl)
  f_has_line_form := fun_ofA S.facts S.kin G 22 rfl 51 rfl (fun _ _ _ _ _ _ us hl => match us, hl with | [_, _], _ => rfl)
  f_is_given_line := fun_ofA S.facts S.kin G 23 rfl 52 rfl (fun _ _ _ _ _ _ us hl => match us, hl with | [_, _], _ => rfl)
  f_need_line := fun_ofA S.facts S.kin G 24 rfl 53 rfl (fun _ _ _ _ _ _ us hl => match us, hl with | [_, _], _ => rfl)
  f_need_integer := fun_ofA S.facts S.kin G 25 rfl 54 rfl (fun _ _ _ _ _ _ us hl => match us, hl with | [_, _, _], _ => rfl)
  f_value_of_whole := fun_ofA S.facts S.kin G 26 rfl 55 rfl (fun _ _ _ _ _ _ us hl => match us, hl with | [_, _], _ => rfl)
  f_is_whole := fun_ofA S.facts S.kin G 27 rfl 56 rfl (fun _ _ _ _ _ _ us hl => match us, hl with | [_], _ => rfl)
  f_is_given_whole := fun_ofA S.facts S.kin G 28 rfl 57 rfl (fun _ _ _ _ _ _ us hl => match us, hl with | [_], _ => rfl)
  f_need_whole := fun_ofA S.facts S.kin G 29 rfl 58 rfl (fun _ _ _ _ _ _ us hl => match us, hl with | [_], _ => rfl)
  f_need_filled_whole := fun_ofA S.facts S.kin G 30 rfl 59 rfl (fun _ _ _ _ _ _ us hl => match us, hl with | [_], _ => rfl)
  f_whole_content := fun_ofA S.facts S.kin G 31 rfl 60 rfl (fun _ _ _ _ _ _ us hl => match us, hl with | [_], _ => rfl)
  f_shared_line := fun_ofA S.facts S.kin G 32 rfl 61 rfl (fun _ _ _ _ _ _ us hl => match us, hl with | [_, _], _ => rfl)
  f_whole_primitive := fun_ofA S.facts S.kin G 33 rfl 62 rfl (fun _ _ _ _ _ _ us hl => match us, hl with | [_], _ => rfl)
  f_cleared := fun_ofA S.facts S.kin G 34 rfl 63 rfl (fun _ _ _ _ _ _ us hl => match us, hl with | [_], _ => rfl)
  f_content_of := fun_ofA S.facts S.kin G 35 rfl 64 rfl (fun _ _ _ _ _ _ us hl => match us, hl with | [_], _ => rfl)
  f_primitive_of := fun_ofA S.facts S.kin G 36 rfl 65 rfl (fun _ _ _ _ _ _ us hl => match us, hl with | [_], _ => rfl)
  f_whole_plus := fun_ofA S.facts S.kin G 37 rfl 66 rfl (fun _ _ _ _ _ _ us hl => match us, hl with | [_, _], _ => rfl)
  f_whole_times_wholelines := fun_ofA S.facts S.kin G 38 rfl 67 rfl (fun _ _ _ _ _ _ us hl => match us, hl with | [_, _], _ => rfl)
  f_whole_at := fun_ofA S.facts S.kin G 39 rfl 68 rfl (fun _ _ _ _ _ _ us hl => match us, hl with | [_, _], _ => rfl)
  f_whole_divided_wholelines := fun_ofA S.facts S.kin G 40 rfl 69 rfl (fun _ _ _ _ _ _ us hl => match us, hl with | [_, _], _ => rfl)
  f_cleared_line := fun_ofA S.facts S.kin G 41 rfl 70 rfl (fun _ _ _ _ _ _ us hl => match us, hl with | [_], _ => rfl)
  f__law_cup := fun_ofA S.facts S.kin G 42 rfl 71 rfl (fun _ _ _ _ _ _ us hl => match us, hl with | [_], _ => rfl)
  f__law_roll := fun_ofA S.facts S.kin G 43 rfl 72 rfl (fun _ _ _ _ _ _ us hl => match us, hl with | [_, _], _ => rfl)
  f__law_some := fun_ofA S.facts S.kin G 44 rfl 73 rfl (fun _ _ _ _ _ _ us hl => match us, hl with | [_, _], _ => rfl)
  f__law_common := fun_ofA S.facts S.kin G 45 rfl 74 rfl (fun _ _ _ _ _ _ us hl => match us, hl with | [_, _], _ => rfl)
  f__law_cut := fun_ofA S.facts S.kin G 46 rfl 75 rfl (fun _ _ _ _ _ _ us hl => match us, hl with | [_], _ => rfl)
  f__law_mul := fun_ofA S.facts S.kin G 47 rfl 76 rfl (fun _ _ _ _ _ _ us hl => match us, hl with | [_, _], _ => rfl)
  f__law_add := fun_ofA S.facts S.kin G 48 rfl 77 rfl (fun _ _ _ _ _ _ us hl => match us, hl with | [_, _], _ => rfl)
  f__law_power := fun_ofA S.facts S.kin G 49 rfl 78 rfl (fun _ _ _ _ _ _ us hl => match us, hl with | [_, _], _ => rfl)
  f__law_val := fun_ofA S.facts S.kin G 50 rfl 79 rfl (fun _ _ _ _ _ _ us hl => match us, hl with | [_, _], _ => rfl)
  f__law_cont := fun_ofA S.facts S.kin G 51 rfl 80 rfl (fun _ _ _ _ _ _ us hl => match us, hl with | [_], _ => rfl)
  f__law_prim := fun_ofA S.facts S.kin G 52 rfl 81 rfl (fun _ _ _ _ _ _ us hl => match us, hl with | [_], _ => rfl)
  f__law_int := fun_ofA S.facts S.kin G 53 rfl 82 rfl (fun _ _ _ _ _ _ us hl => match us, hl with | [_], _ => rfl)
  f__law_line := fun_ofA S.facts S.kin G 54 rfl 83 rfl (fun _ _ _ _ _ _ us hl => match us, hl with | [_, _], _ => rfl)
  f__law_quotient := fun_ofA S.facts S.kin G 55 rfl 84 rfl (fun _ _ _ _ _ _ us hl => match us, hl with | [_, _], _ => rfl)
  f__law_is := fun_ofA S.facts S.kin G 56 rfl 85 rfl (fun _ _ _ _ _ _ us hl => match us, hl with | [_], _ => rfl)
  f__law_fraction := fun_ofA S.facts S.kin G 57 rfl 86 rfl (fun _ _ _ _ _ _ us hl => match us, hl with | [_, _], _ => rfl)
  f__law_cleared := fun_ofA S.facts S.kin G 58 rfl 87 rfl (fun _ _ _ _ _ _ us hl => match us, hl with | [_], _ => rfl)
  f_law := fun_ofA S.facts S.kin G 59 rfl 88 rfl (fun _ _ _ _ _ _ us hl => match us, hl with | [_], _ => rfl)
  k_law := by
    obtain ⟨f, fd, a, b, c⟩ := funK_of (ps := ["_law_script"]) S.facts S.kin G (S.tab "law" (List.mem_of_getElem? (i := 0) rfl)).1 59 rfl 88 rfl (fun _ _ _ _ _ _ us hl => match us, hl with | [_], _ => rfl)
    refine ⟨f, fd, _, _, a, b, c, TB "law" (List.mem_of_getElem? (i := 0) rfl), List.mem_of_getElem? (i := 0) rfl, fun p hp e => ?_⟩
    have nd := S.nd
    simp only [xsH, List.map_cons, List.map_nil, List.nodup_cons, List.mem_cons, List.not_mem_nil, or_false, not_or, not_false_eq_true, List.nodup_nil, and_true] at nd
    simp only [kxOf, List.mem_cons, List.not_mem_nil, or_false] at hp
    rcases hp with rfl | rfl | rfl | rfl | rfl
    · rfl
    · first | exact (nd e).elim | exact (nd e.symm).elim | (simp_all)
    · first | exact (nd e).elim | exact (nd e.symm).elim | (simp_all)
    · first | exact (nd e).elim | exact (nd e.symm).elim | (simp_all)
    · first | exact (nd e).elim | exact (nd e.symm).elim | (simp_all)
  k_is_whole := by
    obtain ⟨f, fd, a, b, c⟩ := funK_of (ps := ["value"]) S.facts S.kin G (S.tab "is_whole" (List.mem_of_getElem? (i := 1) rfl)).1 27 rfl 56 rfl (fun _ _ _ _ _ _ us hl => match us, hl with | [_], _ => rfl)
    refine ⟨f, fd, _, _, a, b, c, TB "is_whole" (List.mem_of_getElem? (i := 1) rfl), List.mem_of_getElem? (i := 1) rfl, fun p hp e => ?_⟩
    have nd := S.nd
    simp only [xsH, List.map_cons, List.map_nil, List.nodup_cons, List.mem_cons, List.not_mem_nil, or_false, not_or, not_false_eq_true, List.nodup_nil, and_true] at nd
    simp only [kxOf, List.mem_cons, List.not_mem_nil, or_false] at hp
    rcases hp with rfl | rfl | rfl | rfl | rfl
    · first | exact (nd e).elim | exact (nd e.symm).elim | (simp_all)
    · rfl
    · first | exact (nd e).elim | exact (nd e.symm).elim | (simp_all)
    · first | exact (nd e).elim | exact (nd e.symm).elim | (simp_all)
    · first | exact (nd e).elim | exact (nd e.symm).elim | (simp_all)
  k_is_given_whole := by
    obtain ⟨f, fd, a, b, c⟩ := funK_of (ps := ["value"]) S.facts S.kin G (S.tab "is_given_whole" (List.mem_of_getElem? (i := 2) rfl)).1 28 rfl 57 rfl (fun _ _ _ _ _ _ us hl => match us, hl with | [_], _ => rfl)
    refine ⟨f, fd, _, _, a, b, c, TB "is_given_whole" (List.mem_of_getElem? (i := 2) rfl), List.mem_of_getElem? (i := 2) rfl, fun p hp e => ?_⟩
    have nd := S.nd
    simp only [xsH, List.map_cons, List.map_nil, List.nodup_cons, List.mem_cons, List.not_mem_nil, or_false, not_or, not_false_eq_true, List.nodup_nil, and_true] at nd
    simp only [kxOf, List.mem_cons, List.not_mem_nil, or_false] at hp
    rcases hp with rfl | rfl | rfl | rfl | rfl
    · first | exact (nd e).elim | exact (nd e.symm).elim | (simp_all)
    · first | exact (nd e).elim | exact (nd e.symm).elim | (simp_all)
    · rfl
    · first | exact (nd e).elim | exact (nd e.symm).elim | (simp_all)
    · first | exact (nd e).elim | exact (nd e.symm).elim | (simp_all)
  k_has_line_form := by
    obtain ⟨f, fd, a, b, c⟩ := funK_of (ps := ["field", "value"]) S.facts S.kin G (S.tab "has_line_form" (List.mem_of_getElem? (i := 3) rfl)).1 22 rfl 51 rfl (fun _ _ _ _ _ _ us hl => match us, hl with | [_, _], _ => rfl)
    refine ⟨f, fd, _, _, a, b, c, TB "has_line_form" (List.mem_of_getElem? (i := 3) rfl), List.mem_of_getElem? (i := 3) rfl, fun p hp e => ?_⟩
    have nd := S.nd
    simp only [xsH, List.map_cons, List.map_nil, List.nodup_cons, List.mem_cons, List.not_mem_nil, or_false, not_or, not_false_eq_true, List.nodup_nil, and_true] at nd
    simp only [kxOf, List.mem_cons, List.not_mem_nil, or_false] at hp
    rcases hp with rfl | rfl | rfl | rfl | rfl
    · first | exact (nd e).elim | exact (nd e.symm).elim | (simp_all)
    · first | exact (nd e).elim | exact (nd e.symm).elim | (simp_all)
    · first | exact (nd e).elim | exact (nd e.symm).elim | (simp_all)
    · rfl
    · first | exact (nd e).elim | exact (nd e.symm).elim | (simp_all)
  k_shared_line := by
    obtain ⟨f, fd, a, b, c⟩ := funK_of (ps := ["line", "number"]) S.facts S.kin G (S.tab "shared_line" (List.mem_of_getElem? (i := 4) rfl)).1 32 rfl 61 rfl (fun _ _ _ _ _ _ us hl => match us, hl with | [_, _], _ => rfl)
    refine ⟨f, fd, _, _, a, b, c, TB "shared_line" (List.mem_of_getElem? (i := 4) rfl), List.mem_of_getElem? (i := 4) rfl, fun p hp e => ?_⟩
    have nd := S.nd
    simp only [xsH, List.map_cons, List.map_nil, List.nodup_cons, List.mem_cons, List.not_mem_nil, or_false, not_or, not_false_eq_true, List.nodup_nil, and_true] at nd
    simp only [kxOf, List.mem_cons, List.not_mem_nil, or_false] at hp
    rcases hp with rfl | rfl | rfl | rfl | rfl
    · first | exact (nd e).elim | exact (nd e.symm).elim | (simp_all)
    · first | exact (nd e).elim | exact (nd e.symm).elim | (simp_all)
    · first | exact (nd e).elim | exact (nd e.symm).elim | (simp_all)
    · first | exact (nd e).elim | exact (nd e.symm).elim | (simp_all)
    · rfl
end Prog
open PySem PySem.W PySem.Calls PyProof.Rows
theorem end_holds (hg : ∀ ns : List Int, ns.length ≤ 63 → ∃ cu, Prog.g_law (.un :: .cup :: List.replicate 13 .un) (DL.cup0 (DL.cell0 ns)) = .ok (.ret (.bool true)) cu) : PySem.Challenge.rw_towerback_k33_whole_contents_and_quotien.Holds := by
  w_on; o_law
  refine HandSHeadRun.head_imp (r := OpenLaw.row PySem.Challenge.rw_towerback_k33_whole_contents_and_quotien) (q := view (OpenLaw.row PySem.Challenge.rw_towerback_k33_whole_contents_and_quotien).prog [167]) (H := Prog.hkH) (ob := Prog.obH) (M := 8000) (loose := Prog.looseH) (d := HandSHeadRun.topDef (OpenLaw.row PySem.Challenge.rw_towerback_k33_whole_contents_and_quotien).prog 167) (kwd := []) Prog.obH_eq
     Prog.runH (by kernel_rfl) (by kernel_rfl) (by kernel_rfl) (by rfl) (by first | assumption | decide +kernel) (by decide +kernel) ⟨rfl, rfl, rfl, rfl, rfl, by decide +kernel⟩ ?hw ?hc
  case hw => w_witness2
  case hc =>
    refine DL.walk_ofX (l := PySem.Challenge.rw_towerback_k33_whole_contents_and_quotien) (n := 63) (k := 25) (x := "_law_script") (CX := fun w => L2.CX (PySem.Challenge.rw_towerback_k33_whole_contents_and_quotien).prog w) rfl (by decide) (by kernel_rfl) ⟨by decide, by decide, by decide⟩ ?F (fun w H s e s' h => DL.cx_no _ w H s e s' h)
    intro w mg fa h Y G hmg0
    obtain ⟨K, S⟩ := Y
    have hmg : mg ("law" : PySem.Str) = some (.ref fa) := by
      have e : (HandSHeadRun.topDef (OpenLaw.row PySem.Challenge.rw_towerback_k33_whole_contents_and_quotien).prog 167).name = ("law" : PySem.Str) := by kernel_rfl
      rw [← e]
      exact hmg0
    refine ⟨K, S.kin, ?_⟩
    obtain ⟨fd, F⟩ := S.facts.def_ 59 rfl
    have e := hmg.symm.trans (He.glo_ok S.kin G (S.facts.fact 88 rfl))
    cases e
    have b := L2.FunD.bindsA (ps := ["_law_script"]) F fun _ _ _ _ _ _ us hl => match us, hl with | [_], _ => rfl
    refine ⟨fd, Prog.xsH.map (fun x => DL.tabP K x), DL.spLaw (Prog.kxOf K) K, fun p hp => ?_, fun p hp => ?_, fun p hp => ?_, fun s u => b s [u] rfl, fun H a ns hl hbits hT hS => ⟨a, ns, rfl, hS, hl, ?_, fun _ => rfl⟩, fun base KB GB TB => ?_⟩
    · obtain ⟨x, hx, rfl⟩ := List.mem_map.mp hp; exact (S.tab x hx).2
    · obtain ⟨x, hx, rfl⟩ := List.mem_map.mp hp; exact (S.code hx).2
    · obtain ⟨x, hx, rfl⟩ := List.mem_map.mp hp; exact (S.code hx).1
    · intro p hp
      simp only [Prog.kxOf, List.mem_cons, List.not_mem_nil, or_false] at hp
      rcases hp with rfl | rfl | rfl | rfl | rfl
      · exact LamX.TabS.nil (hT (DL.tabP K "law") (List.mem_map.mpr ⟨"law", List.mem_of_getElem? (i := 0) rfl, rfl⟩))
      · exact LamX.TabS.nil (hT (DL.tabP K "is_whole") (List.mem_map.mpr ⟨"is_whole", List.mem_of_getElem? (i := 1) rfl, rfl⟩))
      · exact LamX.TabS.nil (hT (DL.tabP K "is_given_whole") (List.mem_map.mpr ⟨"is_given_whole", List.mem_of_getElem? (i := 2) rfl, rfl⟩))
      · exact LamX.TabS.nil (hT (DL.tabP K "has_line_form") (List.mem_map.mpr ⟨"has_line_form", List.mem_of_getElem? (i := 3) rfl, rfl⟩))
      · exact LamX.TabS.nil (hT (DL.tabP K "shared_line") (List.mem_map.mpr ⟨"shared_line", List.mem_of_getElem? (i := 4) rfl, rfl⟩))
    · have T : Prog.Txt (PySem.Challenge.rw_towerback_k33_whole_contents_and_quotien).prog w K mg base (Prog.kxOf K) := Prog.txtH S G (fun x hx => TB _ (List.mem_map.mpr ⟨x, hx, rfl⟩))
      obtain ⟨f, fd', F', hm', hb', hlk⟩ := Prog.ok__law T hg
      have hm2 := hm'.symm.trans hmg
      cases hm2
      obtain ⟨oc, od, osl, lk'⟩ := hlk
      obtain ⟨oc2, od2, _, _, _, _, _, _, _, osl2, _, lk2, _⟩ := F.ex
      have lk2' : K.lookup (He.ga K "law") = some ⟨oc2, od2, .func fd, osl2⟩ := lk2
      have z := lk'.symm.trans lk2'
      have ef : fd' = fd := by
        have z1 := congrArg Obj.data (Option.some.inj z)
        cases z1; rfl
      subst ef
      exact F'

theorem PySem.Challenge.cw_towerback_k33_whole_contents_and_quotien_holds : PySem.Challenge.rw_towerback_k33_whole_contents_and_quotien.Holds := by
  exact end_holds Prog.law_holds_g

import PyProof.Rows.All
import Wide.All
import OpenK.AllK
import Wide.FinOn
import HandS.Base
import HandS.Call
import HandS.List
import HandS.Comp
import HandS.Ends
import HandS.Dict
import HandS.Iter
import HandS.Text
import HandS.Words
import HandS.WordsExc
import HandS.WordsList
import HandS.Wide
import HandS.IsInst
import HandS.More
import HandS.Star
import HandS.Flow
import HandS.NoneIn
import HandS.WideBits
import HandS.Exc
import HandS.ExcOwn
import HandS.ExcInit
import HandS.ExcInitHot
import HandS.ExcField
import HandS.ExcIs
import HandS.ClsMeth
import HandS.HotCalls
import HandS.Lambda
import HandS.EndTab
import HandS.Defaults
import KE.KTryMore
import PySem.Challenge.RW_graincourse_k02_lowest_terms
set_option Elab.async false
set_option maxRecDepth 100000
set_option exponentiation.threshold 100000
set_option linter.all false

namespace Toy
open PySem L2
def top (i : Nat) : Stmt := PySem.Challenge.pw_graincourse_k02_lowest_terms.main.body.getD i (.Pass ⟨0, 0, 0, 0⟩)
abbrev s_GrainError___init__ : Stmt := inClass (top 1) 0
abbrev s_MissingError___init__ : Stmt := inClass (top 2) 0
abbrev s_InvalidFraction___init__ : Stmt := inClass (top 3) 0
abbrev s_common_divisor : Stmt := top 5
abbrev s_reduced : Stmt := top 6
abbrev s_is_number : Stmt := top 7
abbrev s_is_fraction : Stmt := top 8
abbrev s_bag : Stmt := top 10
abbrev s_pull : Stmt := top 11
abbrev s_of : Stmt := top 12
abbrev s_same : Stmt := top 13
abbrev s_field : Stmt := top 14
abbrev s_try : Stmt := top 15
abbrev s_gcd : Stmt := top 16
abbrev s_low : Stmt := top 17
abbrev s_neg : Stmt := top 18
abbrev s_law : Stmt := top 19
theorem sc_GrainError___init__ : FnScope ["self", "word", "message"] ["self", "word", "message"] (defScope s_GrainError___init__) := ⟨rfl, rfl, rfl, by decide +kernel, rfl, by decide +kernel, by decide +kernel⟩
theorem sc_MissingError___init__ : FnScope ["self", "word", "message"] ["self", "word", "message"] (defScope s_MissingError___init__) := ⟨rfl, rfl, rfl, by decide +kernel, rfl, by decide +kernel, by decide +kernel⟩
theorem sc_InvalidFraction___init__ : FnScope ["self"] ["self"] (defScope s_InvalidFraction___init__) := ⟨rfl, rfl, rfl, by decide +kernel, rfl, by decide +kernel, by decide +kernel⟩
theorem sc_common_divisor : FnScope ["one", "other"] ["one", "other"] (defScope s_common_divisor) := ⟨rfl, rfl, rfl, by decide +kernel, rfl, by decide +kernel, by decide +kernel⟩
theorem sc_reduced : FnScope ["numerator", "denominator", "shared"] ["numerator", "denominator"] (defScope s_reduced) := ⟨rfl, rfl, rfl, by decide +kernel, rfl, by decide +kernel, by decide +kernel⟩
theorem sc_is_number : FnScope ["value"] ["value"] (defScope s_is_number) := ⟨rfl, rfl, rfl, by decide +kernel, rfl, by decide +kernel, by decide +kernel⟩
theorem sc_is_fraction : FnScope ["value", "numerator", "denominator", "item"] ["value"] (defScope s_is_fraction) := ⟨rfl, rfl, rfl, by decide +kernel, rfl, by decide +kernel, by decide +kernel⟩
theorem sc_bag : FnScope ["_law_script", "_law_salt", "_law_cell"] ["_law_script"] (defScope s_bag) := ⟨rfl, rfl, rfl, by decide +kernel, rfl, by decide +kernel, by decide +kernel⟩
theorem sc_pull : FnScope ["_law_bag_here", "_law_many", "_law_cell", "_law_digit", "_law_seed"] ["_law_bag_here", "_law_many"] (defScope s_pull) := ⟨rfl, rfl, rfl, by decide +kernel, rfl, by decide +kernel, by decide +kernel⟩
theorem sc_of : FnScope ["_law_bag_here", "_law_some"] ["_law_bag_here", "_law_some"] (defScope s_of) := ⟨rfl, rfl, rfl, by decide +kernel, rfl, by decide +kernel, by decide +kernel⟩
theorem sc_same : FnScope ["_law_found", "_law_due", "_law_k"] ["_law_found", "_law_due"] (defScope s_same) := ⟨rfl, rfl, rfl, by decide +kernel, rfl, by decide +kernel, by decide +kernel⟩
theorem sc_field : FnScope ["_law_e"] ["_law_e"] (defScope s_field) := ⟨rfl, rfl, rfl, by decide +kernel, rfl, by decide +kernel, by decide +kernel⟩
theorem sc_try : FnScope ["_law_ask", "_law_e"] ["_law_ask"] (defScope s_try) := ⟨rfl, rfl, rfl, by decide +kernel, rfl, by decide +kernel, by decide +kernel⟩
theorem sc_gcd : FnScope ["_law_a", "_law_b"] ["_law_a", "_law_b"] (defScope s_gcd) := ⟨rfl, rfl, rfl, by decide +kernel, rfl, by decide +kernel, by decide +kernel⟩
theorem sc_low : FnScope ["_law_a", "_law_b", "_law_by"] ["_law_a", "_law_b"] (defScope s_low) := ⟨rfl, rfl, rfl, by decide +kernel, rfl, by decide +kernel, by decide +kernel⟩
theorem sc_neg : FnScope ["_law_p"] ["_law_p"] (defScope s_neg) := ⟨rfl, rfl, rfl, by decide +kernel, rfl, by decide +kernel, by decide +kernel⟩
theorem sc_law : FnScope ["_law_script", "_law_bag_here", "_law_turn", "_law_most", "_law_due", "_law_good", "_law_told", "_law_a", "_law_b", "_law_by"] ["_law_script"] (defScope s_law) := ⟨rfl, rfl, rfl, by decide +kernel, rfl, by decide +kernel, by decide +kernel⟩
structure Df (K : PySem.W.Frag) (mg : Str → Option Value) (x : Str) (st : Stmt) (ps : List Str) (f : Addr) (fd : FuncData) : Prop where
  F : Fun K x x st f fd
  m : mg x = some (.ref f)
  b : Binds K fd ps []
structure Ad where
  f_common_divisor : Addr
  fd_common_divisor : FuncData
  f_reduced : Addr
  fd_reduced : FuncData
  f_is_number : Addr
  fd_is_number : FuncData
  f_is_fraction : Addr
  fd_is_fraction : FuncData
  f_bag : Addr
  fd_bag : FuncData
  f_pull : Addr
  fd_pull : FuncData
  f_of : Addr
  fd_of : FuncData
  f_same : Addr
  fd_same : FuncData
  f_field : Addr
  fd_field : FuncData
  f_try : Addr
  fd_try : FuncData
  f_gcd : Addr
  fd_gcd : FuncData
  f_low : Addr
  fd_low : FuncData
  f_neg : Addr
  fd_neg : FuncData
  f_law : Addr
  fd_law : FuncData
structure Txt (K : PySem.W.Frag) (mg : Str → Option Value) (A : Ad) : Prop where
  d_common_divisor : Df K mg "common_divisor" s_common_divisor ["one", "other"] A.f_common_divisor A.fd_common_divisor
  d_reduced : Df K mg "reduced" s_reduced ["numerator", "denominator"] A.f_reduced A.fd_reduced
  d_is_number : Df K mg "is_number" s_is_number ["value"] A.f_is_number A.fd_is_number
  d_is_fraction : Df K mg "is_fraction" s_is_fraction ["value"] A.f_is_fraction A.fd_is_fraction
  d_bag : Df K mg "_law_bag" s_bag ["_law_script"] A.f_bag A.fd_bag
  d_pull : Df K mg "_law_pull" s_pull ["_law_bag_here", "_law_many"] A.f_pull A.fd_pull
  d_of : Df K mg "_law_of" s_of ["_law_bag_here", "_law_some"] A.f_of A.fd_of
  d_same : Df K mg "_law_same" s_same ["_law_found", "_law_due"] A.f_same A.fd_same
  d_field : Df K mg "_law_field" s_field ["_law_e"] A.f_field A.fd_field
  d_try : Df K mg "_law_try" s_try ["_law_ask"] A.f_try A.fd_try
  d_gcd : Df K mg "_law_gcd" s_gcd ["_law_a", "_law_b"] A.f_gcd A.fd_gcd
  d_low : Df K mg "_law_low" s_low ["_law_a", "_law_b"] A.f_low A.fd_low
  d_neg : Df K mg "_law_neg" s_neg ["_law_p"] A.f_neg A.fd_neg
  d_law : Df K mg "law" s_law ["_law_script"] A.f_law A.fd_law
  abs : mg "abs" = none
  all : mg "all" = none
  bool : mg "bool" = none
  int : mg "int" = none
  isinstance : mg "isinstance" = none
  len : mg "len" = none
  list : mg "list" = none
  range : mg "range" = none
  str : mg "str" = none
  tuple : mg "tuple" = none
/-! ## Fractions: the mathematics, over Lean's own Rat -/
namespace RM
theorem num_pos {a b : Int} (h : 0 < b) : (Rat.divInt a b).num = a / ((Int.gcd a b : Nat) : Int) := by
  rw [Rat.num_divInt, Int.sign_eq_one_of_pos h, Int.one_mul, Int.gcd_comm]
theorem den_any {a b : Int} (h : b ≠ 0) : (((Rat.divInt a b).den : Nat) : Int) = ((b.natAbs : Nat) : Int) / ((Int.gcd a b : Nat) : Int) := by
  rw [Rat.den_divInt, if_neg h, Int.gcd_comm, Int.natCast_ediv]
theorem den_pos {a b : Int} (h : 0 < b) : (((Rat.divInt a b).den : Nat) : Int) = b / ((Int.gcd a b : Nat) : Int) := by
  rw [den_any (by omega), Int.natAbs_of_nonneg (by omega)]
theorem gcd_ne {a b : Int} (h : b ≠ 0) : ((Int.gcd a b : Nat) : Int) ≠ 0 := by
  have : Int.gcd a b ≠ 0 := by
    intro e
    rw [Int.gcd_eq_zero_iff] at e
    exact h e.2
  omega
theorem gcd_posi {a b : Int} (h : b ≠ 0) : 0 < ((Int.gcd a b : Nat) : Int) := by
  have := gcd_ne (a := a) h
  omega
theorem fdiv_neg_dvd {a g : Int} (hg : g ≠ 0) (h : g ∣ a) : a.fdiv (-g) = -(a / g) := by
  rw [Int.fdiv_neg hg, if_pos h, Int.fdiv_eq_ediv_of_dvd h]
theorem num_neg {a b : Int} (h : b < 0) : (Rat.divInt a b).num = a.fdiv (-((Int.gcd a b : Nat) : Int)) := by
  rw [fdiv_neg_dvd (gcd_ne (by omega)) (Int.gcd_dvd_left ..), Rat.num_divInt, Int.sign_eq_neg_one_of_neg h, Int.gcd_comm]
  rw [Int.neg_mul, Int.one_mul, Int.neg_ediv_of_dvd (Int.gcd_dvd_left ..)]
theorem den_neg {a b : Int} (h : b < 0) : (((Rat.divInt a b).den : Nat) : Int) = b.fdiv (-((Int.gcd a b : Nat) : Int)) := by
  rw [fdiv_neg_dvd (gcd_ne (by omega)) (Int.gcd_dvd_right ..), den_any (by omega), ← Int.neg_ediv_of_dvd (Int.gcd_dvd_right ..)]
  congr 1
  omega
theorem gcd_step (a b : Int) : Int.gcd b (a % b) = Int.gcd a b := by
  have h := Int.gcd_add_mul_left_right b (a % b) (a / b)
  rw [Int.emod_add_mul_ediv] at h
  rw [← h, Int.gcd_comm]
theorem add_eq (x y : Rat) : Rat.divInt (x.num * y.den + y.num * x.den) (x.den * y.den) = x + y := by
  have h := Rat.divInt_add_divInt x.num y.num (d₁ := x.den) (d₂ := y.den) (by have := x.den_nz; omega) (by have := y.den_nz; omega)
  rw [Rat.num_divInt_den, Rat.num_divInt_den] at h
  exact h.symm
theorem mul_eq (x y : Rat) : Rat.divInt (x.num * y.num) (x.den * y.den) = x * y := by
  have h := Rat.divInt_mul_divInt x.num y.num (d₁ := x.den) (d₂ := y.den)
  rw [Rat.num_divInt_den, Rat.num_divInt_den] at h
  exact h.symm
theorem den_p (x : Rat) : (0 : Int) < ((x.den : Nat) : Int) := by
  have := x.den_nz
  omega
/-- numbers below 2 ^ k -/
def Bd (k : Nat) (x : Rat) : Prop := x.num.natAbs < 2 ^ k ∧ x.den < 2 ^ k
theorem pow_le {j k : Nat} (h : j ≤ k) : 2 ^ j ≤ 2 ^ k := Nat.pow_le_pow_right (by decide) h
theorem Bd.mono {j k : Nat} {x : Rat} (b : Bd j x) (h : j ≤ k) : Bd k x := ⟨Nat.lt_of_lt_of_le b.1 (pow_le h), Nat.lt_of_lt_of_le b.2 (pow_le h)⟩
theorem div_num_le {a b : Int} (h : b ≠ 0) : (Rat.divInt a b).num.natAbs ≤ a.natAbs := by
  by_cases h1 : 0 < b
  · rw [num_pos h1]
    exact Int.natAbs_ediv_le_natAbs ..
  · rw [num_neg (by omega), fdiv_neg_dvd (gcd_ne h) (Int.gcd_dvd_left ..), Int.natAbs_neg]
    exact Int.natAbs_ediv_le_natAbs ..
theorem div_den_le {a b : Int} (h : b ≠ 0) : (Rat.divInt a b).den ≤ b.natAbs := by
  rw [Rat.den_divInt, if_neg h]
  exact Nat.div_le_self _ _
theorem Bd.div {a b : Int} {k : Nat} (h : b ≠ 0) (ha : a.natAbs < 2 ^ k) (hb : b.natAbs < 2 ^ k) : Bd k (Rat.divInt a b) :=
  ⟨Nat.lt_of_le_of_lt (div_num_le h) ha, Nat.lt_of_le_of_lt (div_den_le h) hb⟩
theorem abs_mul_lt {a b : Int} {j k : Nat} (ha : a.natAbs < 2 ^ j) (hb : b.natAbs < 2 ^ k) : (a * b).natAbs < 2 ^ (j + k) := by
  rw [Int.natAbs_mul, Nat.pow_add]
  exact Nat.mul_lt_mul'' ha hb
theorem abs_add_lt {a b : Int} {k : Nat} (ha : a.natAbs < 2 ^ k) (hb : b.natAbs < 2 ^ k) : (a + b).natAbs < 2 ^ (k + 1) := by
  rw [Nat.pow_succ]
  omega
theorem nat_abs (n : Nat) : ((n : Nat) : Int).natAbs = n := Int.natAbs_natCast n
theorem Bd.den {k : Nat} {x : Rat} (b : Bd k x) : ((x.den : Nat) : Int).natAbs < 2 ^ k := by
  rw [nat_abs]
  exact b.2
theorem cross_lt {j k : Nat} {x y : Rat} (bx : Bd j x) (bY : Bd k y) : (x.num * y.den + y.num * x.den).natAbs < 2 ^ (j + k + 1) :=
  abs_add_lt (abs_mul_lt bx.1 bY.den) (by rw [Nat.add_comm j k]; exact abs_mul_lt bY.1 bx.den)
theorem dd_ne (x y : Rat) : ((x.den : Nat) : Int) * ((y.den : Nat) : Int) ≠ 0 := Int.ne_of_gt (Int.mul_pos (den_p x) (den_p y))
theorem dd_pos (x y : Rat) : 0 < ((x.den : Nat) : Int) * ((y.den : Nat) : Int) := Int.mul_pos (den_p x) (den_p y)
theorem Bd.add {j k : Nat} {x y : Rat} (bx : Bd j x) (bY : Bd k y) : Bd (j + k + 1) (x + y) := by
  rw [← add_eq]
  exact Bd.div (dd_ne x y) (cross_lt bx bY) (Nat.lt_of_lt_of_le (abs_mul_lt bx.den bY.den) (pow_le (by omega)))
theorem Bd.mul {j k : Nat} {x y : Rat} (bx : Bd j x) (bY : Bd k y) : Bd (j + k) (x * y) := by
  rw [← mul_eq]
  exact Bd.div (dd_ne x y) (abs_mul_lt bx.1 bY.1) (abs_mul_lt bx.den bY.den)
theorem Bd.neg {k : Nat} {x : Rat} (b : Bd k x) : Bd k (-x) := by
  refine ⟨?_, ?_⟩
  · rw [Rat.neg_num, Int.natAbs_neg]
    exact b.1
  · rw [Rat.neg_den]
    exact b.2
theorem Bd.zero {k : Nat} (h : 1 ≤ k) : Bd k 0 := Bd.mono (j := 1) ⟨by decide, by decide⟩ h
theorem Bd.one {k : Nat} (h : 1 ≤ k) : Bd k 1 := Bd.mono (j := 1) ⟨by decide, by decide⟩ h
/-- sums and products from the left -/
def sumR (qs : List Rat) : Rat := qs.foldl (· + ·) 0
def mulR (qs : List Rat) : Rat := qs.foldl (· * ·) 1
theorem take_succ {α : Type} {xs : List α} {i : Nat} {x : α} (h : xs[i]? = some x) : xs.take (i + 1) = xs.take i ++ [x] := by
  rw [List.take_add_one, h]
  rfl
theorem sum_snoc (qs : List Rat) (x : Rat) : sumR (qs ++ [x]) = sumR qs + x := by
  unfold sumR
  rw [List.foldl_append]
  rfl
theorem mul_snoc (qs : List Rat) (x : Rat) : mulR (qs ++ [x]) = mulR qs * x := by
  unfold mulR
  rw [List.foldl_append]
  rfl
/-- one step of a sum whose denominator is not reduced, g a common divisor of both denominators -/
theorem part_step {n d a b g : Int} (hd : d ≠ 0) (hb : b ≠ 0) (h1 : g ∣ d) (h2 : g ∣ b) : Rat.divInt (n * (b / g) + a * (d / g)) (d * (b / g)) = Rat.divInt n d + Rat.divInt a b := by
  obtain ⟨u, rfl⟩ := h1
  obtain ⟨v, rfl⟩ := h2
  have hg : g ≠ 0 := fun z => hd (by rw [z, Int.zero_mul])
  rw [Int.mul_ediv_cancel_left _ hg, Int.mul_ediv_cancel_left _ hg, Rat.divInt_add_divInt _ _ hd hb, ← Rat.divInt_mul_left hg]
  congr 1
  · rw [Int.mul_add]
    congr 1 <;> ac_rfl
  · ac_rfl
end RM

/-! ## The law's own helpers: the bag, its draws, the comparison -/
theorem _root_.L2.Same.new {H : Hp} {p : Addr} (h : H p = none) (o : HO) : Same H (upd H p o) := fun b u q => by rw [upd_ne (ne_of_none q h)]; exact q
theorem _root_.L2.Same.set {H H' : Hp} {p : Addr} (e : Same H H') (h : H p = none) (o : HO) : Same H (upd H' p o) := fun b u q => by rw [upd_ne (ne_of_none q h)]; exact e b u q
theorem sl_small {n : Nat} (h : n ≤ 100000) : n ≤ sizeLine := Nat.le_trans h (by decide)
theorem sl_lt {n : Nat} (h : n < 100000) : n < sizeLine := Nat.lt_of_lt_of_le h (by decide)
theorem slr {n : Nat} (h : Nat.ble n 100000 = true) : n ≤ sizeLine := sl_small (Nat.le_of_ble_eq_true h)
theorem dec_t {p : Prop} [Decidable p] (h : p) : decide p = true := decide_eq_true h
def rLenK (K : PySem.W.Frag) : List V → Hp → VK → Prop := fun xs H Q => ∃ p ys, xs = [.ref p] ∧ (SqL K H p ys ∨ SqT K H p ys) ∧ Q (.int ys.length) H
def rListK (K : PySem.W.Frag) : List V → Hp → VK → Prop := fun xs H Q => ∃ p ys, xs = [.ref p] ∧ (SqL K H p ys ∨ SqT K H p ys) ∧ ∀ l, H l = none → Q (.ref l) (upd H l (.lst ys))
def rTupK (K : PySem.W.Frag) : List V → Hp → VK → Prop := fun xs H Q => ∃ p ys, xs = [.ref p] ∧ ((SqL K H p ys ∧ ∀ l, H l = none → Q (.ref l) (upd H l (.tup ys))) ∨ (SqT K H p ys ∧ Q (.ref p) H))
/-- what holds between two statements -/
theorem seq_key {t u : TS} {D : Ends} {σ : St} {H : Hp} (P : St → Hp → Prop) (h2 : ∀ σ H, P σ H → u D σ H) (h1 : (∀ σ H, P σ H → u D σ H) → t { D with nx := u D } σ H) : tSeq t u D σ H := h1 h2
/-- all but the object at b is as it was -/
def Apart (b : Addr) (H H' : Hp) : Prop := ∀ a o, a ≠ b → H a = some o → H' a = some o
theorem Apart.refl (b : Addr) (H : Hp) : Apart b H H := fun _ _ _ h => h
theorem Apart.trans {b : Addr} {H H1 H2 : Hp} (x : Apart b H H1) (y : Apart b H1 H2) : Apart b H H2 := fun a o n e => y a o n (x a o n e)
theorem _root_.L2.Same.apart {b : Addr} {H H' : Hp} (x : Same H H') : Apart b H H' := fun a o _ e => x a o e
theorem Apart.set {b : Addr} {H : Hp} (o : HO) : Apart b H (upd H b o) := fun a u n e => by rw [upd_ne n]; exact e
/-- the bag: its list of numbers l, the numbers ns, the place i, the rest c, the seed s, the count t -/
def bagL (l : Addr) (i c s t : Int) : List V := [.ref l, .int i, .int c, .int s, .int t]
structure Bag (H : Hp) (b l : Addr) : Prop where
  ex : ∃ (ns : List Int) (i c s t : Int), H b = some (.lst (bagL l i c s t)) ∧ H l = some (.lst (ns.map V.int)) ∧ 0 ≤ i ∧ 0 ≤ c ∧ 0 ≤ s ∧ s < 2147483647
theorem bag_ne {l : Addr} {i c s t : Int} {ns : List Int} : HO.lst (ns.map V.int) ≠ HO.lst (bagL l i c s t) := by
  intro e
  injection e with e
  cases ns with
  | nil => cases e
  | cons _ _ => cases e
theorem Bag.same {H H' : Hp} {b l : Addr} (x : Bag H b l) (e : Same H H') : Bag H' b l := by
  obtain ⟨ns, i, c, s, t, h1, h2, h⟩ := x.ex
  exact ⟨ns, i, c, s, t, e _ _ h1, e _ _ h2, h⟩
theorem Bag.there {H : Hp} {b l : Addr} (x : Bag H b l) : ∃ xs, H b = some (.lst xs) := by
  obtain ⟨ns, i, c, s, t, h1, _⟩ := x.ex
  exact ⟨_, h1⟩
theorem Bag.inner {H : Hp} {b l : Addr} (x : Bag H b l) : ∃ xs, H l = some (.lst xs) := by
  obtain ⟨ns, i, c, s, t, h1, h2, _⟩ := x.ex
  exact ⟨_, h2⟩
theorem Bag.new {H : Hp} {b l p : Addr} (x : Bag H b l) (h : H p = none) (o : HO) : Bag (upd H p o) b l := x.same (Same.new h o)
theorem Bag.ne {H : Hp} {b l p : Addr} (x : Bag H b l) (h : H p = none) : p ≠ b := by
  obtain ⟨_, h1⟩ := x.there
  exact (ne_of_none h1 h).symm
theorem Bag.ne2 {H : Hp} {b l p : Addr} (x : Bag H b l) (h : H p = none) : p ≠ l := by
  obtain ⟨_, h1⟩ := x.inner
  exact (ne_of_none h1 h).symm
theorem Bag.nt {H : Hp} {b l p : Addr} {xs : List V} (x : Bag H b l) (h : H p = some (.tup xs)) : p ≠ b := by
  obtain ⟨_, h1⟩ := x.there
  exact ne_of h h1 (fun z => nomatch z)
theorem Bag.upd {H : Hp} {b l p : Addr} {o : HO} (x : Bag H b l) (h1 : p ≠ b) (h2 : p ≠ l) : Bag (upd H p o) b l := by
  obtain ⟨ns, i, c, s, t, e1, e2, h⟩ := x.ex
  exact ⟨ns, i, c, s, t, by rw [upd_ne (Ne.symm h1)]; exact e1, by rw [upd_ne (Ne.symm h2)]; exact e2, h⟩
theorem Bag.put {H : Hp} {b l : Addr} {ns : List Int} {i c s t : Int} {i' c' s' t' : Int} (h1 : H b = some (.lst (bagL l i c s t))) (h2 : H l = some (.lst (ns.map V.int))) (hi : 0 ≤ i') (hc : 0 ≤ c') (hs : 0 ≤ s') (hs2 : s' < 2147483647) :
    Bag (L2.upd H b (.lst (bagL l i' c' s' t'))) b l := ⟨ns, i', c', s', t', upd_same, by rw [upd_ne (ne_of h2 h1 bag_ne)]; exact h2, hi, hc, hs, hs2⟩

def spBag (K : PySem.W.Frag) : Sp := fun vs H Q _ => ∃ (a : Addr) (ns : List Int), vs = [.ref a] ∧ SqL K H a (ns.map V.int) ∧ ns.length ≤ 63 ∧ ∀ (b l : Addr) (H' : Hp), Same H H' → H b = none → H l = none → Bag H' b l → Q (.ref b) H'
def spPull : Sp := fun vs H Q _ => ∃ (b l : Addr) (m : Int), vs = [.ref b, .int m] ∧ Bag H b l ∧ 0 < m ∧ m.natAbs < 2 ^ 200 ∧ ∀ (r : Int) (H' : Hp), 0 ≤ r → r < m → Apart b H H' → Bag H' b l → Q (.int r) H'
def spOf (K : PySem.W.Frag) : Sp := fun vs H Q _ => ∃ (b l a : Addr) (xs : List V), vs = [.ref b, .ref a] ∧ Bag H b l ∧ SqL K H a xs ∧ a ≠ b ∧ 0 < xs.length ∧ xs.length ≤ 1000 ∧ ∀ (i : Nat) (v : V) (H' : Hp), xs[i]? = some v → Apart b H H' → Bag H' b l → Q v H'

section
variable {P : Program} {w : World} {K : PySem.W.Frag} {mg : Str → Option Value} {base : Heap} {A : Ad}
theorem cut_ints (ns : List Int) (lo hi : Option Int) : ∃ ms : List Int, cutV (ns.map V.int) lo hi = ms.map V.int := by
  unfold cutV
  rw [← List.map_drop, ← List.map_take]
  exact ⟨_, rfl⟩
theorem int_at {ns : List Int} {i : Nat} {x : V} (h : (ns.map V.int)[i]? = some x) : ∃ u, x = V.int u := by
  rw [List.getElem?_map] at h
  cases e : ns[i]? with
  | none => rw [e] at h; cases h
  | some u => rw [e] at h; exact ⟨u, (Option.some.inj h).symm⟩
theorem ok_bag (T : Txt K mg A) : FnOk P w K mg base CX0 1 A.f_bag A.fd_bag ["_law_script"] (spBag K) := by
  refine T.d_bag.F.ok sc_bag (fun vs H Q E h => ?_) (fun cdv ar outer s H vs Q E hr h => ?_)
  · obtain ⟨a, ns, rfl, _⟩ := h
    rfl
  obtain ⟨a, ns, rfl, hS, h63, q⟩ := h
  refine ⟨_, (pss_cons (ps_set (i := 1) sc_bag.nd rfl (Or.inl rfl) pe_int)
    (pss_cons (ps_for PassesOwn.never rfl (pi_list (pe_slice (r := rSlL K) sl_list (pv 0) po_none (po_some pe_int))) (pg_name (i := 2) sc_bag.nd rfl (Or.inl rfl)) (pss_one (ps_set (i := 1) sc_bag.nd rfl (Or.inl rfl) (pe_op op_mod (pe_op op_add (pe_op op_add (pe_op op_mul (pv 1) pe_int) (pe_op op_mod (pv 2) pe_int)) pe_int) pe_int))))
    (pss_one (ps_ret (pe_lst (pa_cons (pe_callTy (r := rListK K) call_list_of (by rfl) T.list (by decide +kernel) (pa_cons (pe_slice (r := rSlL K) sl_list (pv 0) po_none (po_some pe_int)) pa_nil)) (pa_cons pe_int (pa_cons pe_int (pa_cons (pv 1) (pa_cons pe_int pa_nil)))))))))), ?_⟩
  refine ⟨_, rfl, 63, rfl, a, _, rfl, hS, fun p hp => ?_⟩
  refine ⟨p, rfl, ⟨_, SqL.of upd_same⟩, ?_⟩
  obtain ⟨ms, em⟩ := cut_ints ns none (some 63)
  have s1 : Same H (upd H p (.lst (cutV (ns.map V.int) none (some 63)))) := Same.new hp _
  refine for_list (xs := cutV (ns.map V.int) none (some 63)) (fun _ σ H' => ∃ (z : Int) (u : Option V), σ = [some (.ref a), some (.int z), u] ∧ 0 ≤ z ∧ z < 2147483647 ∧ H' = upd H p (.lst (cutV (ns.map V.int) none (some 63)))) ⟨3801, none, rfl, by decide, by decide, rfl⟩ ?_ ?_ ?_
  · rintro i σ H' _ ⟨z, u, _, _, _, rfl⟩
    exact SqL.of upd_same
  · rintro i x σ H' hi ⟨z, u, rfl, z0, z1, rfl⟩
    rw [em] at hi
    obtain ⟨y, rfl⟩ := int_at hi
    refine ⟨_, rfl, _, _, rfl, rfl, .inr ⟨by decide, by decide⟩, _, rfl, _, _, rfl, rfl, (by show (0 : Int) < 2147483549; decide), _, _, rfl, rfl, _, _, rfl, rfl, _, _, rfl, rfl, (by show (0 : Int) < 2147483647; decide), ?_⟩
    exact ⟨_, _, rfl, Int.emod_nonneg _ (by decide), Int.emod_lt_of_pos _ (by decide), rfl⟩
  · rintro σ H' ⟨z, u, rfl, z0, z1, rfl⟩
    refine ⟨_, rfl, 63, rfl, a, _, rfl, s1.seq hS, fun p2 hp2 => ?_⟩
    refine ⟨p2, _, rfl, .inl (SqL.of upd_same), fun l hl => ?_⟩
    refine ⟨_, rfl, (by show 5 ≤ sizeLine; decide), fun b hb => ?_⟩
    have s2 := s1.set (s1.free hp2) (.lst (cutV (ns.map V.int) none (some 63)))
    have s3 := s2.set (s2.free hl) (.lst (cutV (ns.map V.int) none (some 63)))
    have s4 := s3.set (s3.free hb) (.lst [.ref l, .int 0, .int 0, .int z, .int 0])
    refine q b l _ s4 (s3.free hb) (s2.free hl) ⟨ms, 0, 0, z, 0, upd_same, ?_, by decide, by decide, z0, z1⟩
    rw [upd_ne (ne_of_none upd_same hb), upd_same, em]
theorem ok_pull (T : Txt K mg A) : FnOk P w K mg base CX0 1 A.f_pull A.fd_pull ["_law_bag_here", "_law_many"] spPull := by
  refine T.d_pull.F.ok sc_pull (fun vs H Q E h => ?_) (fun cdv ar outer s H vs Q E hr h => ?_)
  · obtain ⟨b, l, m, rfl, _⟩ := h
    rfl
  obtain ⟨b, l, m, rfl, ⟨⟨ns, i, c, s, t, h1, h2, hi, hc, hs, hs2⟩⟩, hm, hm2, q⟩ := h
  refine ⟨_, (pss_cons (ps_if (PW.pt (pw_and (pt_cmpR op_eq (pe_ix (r := rIxL K) ix_list (pv 0) pe_int (fun _ _ => rfl)) pe_int (nomark _)) (pw_and1 (pt_cmpR op_lt (pe_ix (r := rIxL K) ix_list (pv 0) pe_int (fun _ _ => rfl)) (pe_callB (r := rLenK K) call_len_seq (by rfl) T.len (by decide +kernel) (pa_cons (pe_ix (r := rIxL K) ix_list (pv 0) pe_int (fun _ _ => rfl)) pa_nil)) (nomark _))))) (pss_cons (ps_set (i := 2) sc_pull.nd rfl (Or.inl rfl) (pe_ix (r := rIxL K) ix_list (pe_ix (r := rIxL K) ix_list (pv 0) pe_int (fun _ _ => rfl)) (pe_ix (r := rIxL K) ix_list (pv 0) pe_int (fun _ _ => rfl)) (fun _ _ => rfl)))
    (pss_cons (ps_asg (pe_op op_add (pe_ix (r := rIxL K) ix_list (pv 0) pe_int (fun _ _ => rfl)) pe_int) (pg_sub (pv 0) pe_int set_list))
    (pss_one (ps_if (pt_cmpR op_ge (pv 2) (pe_op op_pow pe_int pe_int) (nomark _)) (pss_one (ps_asg (pv 2) (pg_sub (pv 0) pe_int set_list))) (pss_one (ps_asg (pe_op op_mod (pe_op op_add (pe_op op_add (pe_op op_mul (pe_ix (r := rIxL K) ix_list (pv 0) pe_int (fun _ _ => rfl)) pe_int) (pe_op op_mul (pe_op op_mod (pv 2) pe_int) pe_int)) pe_int) pe_int) (pg_sub (pv 0) pe_int set_list))))))) pss_nil)
    (pss_cons (ps_if (pt_cmpR op_gt (pe_ix (r := rIxL K) ix_list (pv 0) pe_int (fun _ _ => rfl)) pe_int (nomark _)) (pss_cons (ps_set (i := 3) sc_pull.nd rfl (Or.inl rfl) (pe_op op_mod (pe_ix (r := rIxL K) ix_list (pv 0) pe_int (fun _ _ => rfl)) (pv 1)))
    (pss_cons (ps_asg (pe_op op_fdivW (pe_ix (r := rIxL K) ix_list (pv 0) pe_int (fun _ _ => rfl)) (pv 1)) (pg_sub (pv 0) pe_int set_list))
    (pss_one (ps_ret (pv 3))))) pss_nil)
    (pss_cons (ps_asg (pe_op op_add (pe_ix (r := rIxL K) ix_list (pv 0) pe_int (fun _ _ => rfl)) pe_int) (pg_sub (pv 0) pe_int set_list))
    (pss_cons (ps_set (i := 4) sc_pull.nd rfl (Or.inl rfl) (pe_op op_mod (pe_op op_add (pe_ix (r := rIxL K) ix_list (pv 0) pe_int (fun _ _ => rfl)) (pe_op op_mul (pe_ix (r := rIxL K) ix_list (pv 0) pe_int (fun _ _ => rfl)) pe_int)) pe_int))
    (pss_cons (ps_asg (pe_op op_mod (pe_op op_add (pe_op op_add (pe_op op_mul (pe_op op_mod (pe_op op_mul (pv 4) (pv 4)) pe_int) (pv 4)) (pe_op op_mul pe_int (pv 4))) pe_int) pe_int) (pg_sub (pv 0) pe_int set_list))
    (pss_one (ps_ret (pe_op op_mod (pe_op op_add (pe_op op_fdiv (pe_ix (r := rIxL K) ix_list (pv 0) pe_int (fun _ _ => rfl)) pe_int) (pe_op op_mul (pe_op op_mod (pe_ix (r := rIxL K) ix_list (pv 0) pe_int (fun _ _ => rfl)) pe_int) pe_int)) (pv 1))))))))), ?_⟩
  have hbL : SqL K H b (bagL l i c s t) := SqL.of h1
  have a0 : ∀ {i c s t : Int}, atI (bagL l i c s t) 0 = some (.ref l) := at_of (j := 0) rfl rfl
  have a1 : ∀ {i c s t : Int}, atI (bagL l i c s t) 1 = some (.int i) := at_of (j := 1) rfl rfl
  have a2 : ∀ {i c s t : Int}, atI (bagL l i c s t) 2 = some (.int c) := at_of (j := 2) rfl rfl
  have a3 : ∀ {i c s t : Int}, atI (bagL l i c s t) 3 = some (.int s) := at_of (j := 3) rfl rfl
  have a4 : ∀ {i c s t : Int}, atI (bagL l i c s t) 4 = some (.int t) := at_of (j := 4) rfl rfl
  refine seq_key (fun σ' H' => ∃ (i c s : Int) (u : Option V), σ' = [some (.ref b), some (.int m), u, none, none] ∧ 0 ≤ i ∧ 0 ≤ c ∧ 0 ≤ s ∧ s < 2147483647 ∧ Apart b H H' ∧ H' b = some (.lst (bagL l i c s t)) ∧ H' l = some (.lst (ns.map V.int))) ?_ (fun k => ?_)
  · rintro σ' H' ⟨i, c, s, u, rfl, hi, hc, hs, hs2, hA, h1, h2⟩
    have hbL : SqL K H' b (bagL l i c s t) := SqL.of h1
    refine seq_key (fun σ' H2 => σ' = [some (.ref b), some (.int m), u, none, none] ∧ H' = H2) ?_ (fun k => ?_)
    · rintro _ _ ⟨rfl, rfl⟩
      -- the count, the seed, the draw
      refine ⟨_, rfl, b, _, _, _, rfl, rfl, hbL, a4, _, _, rfl, rfl, _, rfl, b, _, _, _, rfl, rfl, h1, rfl, ?_⟩
      refine ⟨_, rfl, b, _, _, _, rfl, rfl, SqL.of upd_same, at_of (j := 3) rfl rfl, _, rfl, b, _, _, _, rfl, rfl, SqL.of upd_same, at_of (j := 4) rfl rfl, _, _, rfl, rfl, .inr ⟨by decide, by decide⟩, _, _, rfl, rfl, _, _, rfl, rfl, (by show (0 : Int) < 2147483647; decide), ?_⟩
      have d0 : 0 ≤ (s + (t + 1) * 7919) % 2147483647 := Int.emod_nonneg _ (by decide)
      have d1 : (s + (t + 1) * 7919) % 2147483647 < 2147483647 := Int.emod_lt_of_pos _ (by decide)
      have d2 : -(2 ^ 64) < (s + (t + 1) * 7919) % 2147483647 ∧ (s + (t + 1) * 7919) % 2147483647 < 2 ^ 64 := ⟨by omega, by omega⟩
      refine ⟨_, rfl, _, rfl, _, _, rfl, rfl, .inr d2, _, _, rfl, rfl, (by show (0 : Int) < 2147483629; decide), _, rfl, _, _, rfl, rfl, .inr d2, _, rfl, _, _, rfl, rfl, .inl ⟨by decide, by decide⟩, _, _, rfl, rfl, _, _, rfl, rfl, _, _, rfl, rfl, (by show (0 : Int) < 2147483647; decide), ?_⟩
      refine ⟨_, rfl, b, _, _, _, rfl, rfl, upd_same, rfl, ?_⟩
      refine ⟨_, rfl, b, _, _, _, rfl, rfl, SqL.of upd_same, at_of (j := 3) rfl rfl, _, _, rfl, rfl, ⟨by decide, by decide⟩, _, rfl, b, _, _, _, rfl, rfl, SqL.of upd_same, at_of (j := 3) rfl rfl, _, _, rfl, rfl, (by show (0 : Int) < 8191; decide), _, _, rfl, rfl, .inr ⟨by decide, by decide⟩, _, _, rfl, rfl, _, rfl, _, _, rfl, rfl, hm, ?_⟩
      refine q _ _ (Int.emod_nonneg _ (Int.ne_of_gt hm)) (Int.emod_lt_of_pos _ hm) ((hA.trans (Apart.set _)).trans (Apart.set _)) ?_
      refine Bag.put (i := i) (c := c) (s := s) (t := t + 1) (ns := ns) (i' := i) (c' := c) (t' := t + 1) upd_same ?_ hi hc (Int.emod_nonneg _ (by decide)) (Int.emod_lt_of_pos _ (by decide))
      rw [upd_ne (ne_of h2 h1 bag_ne)]
      exact h2
    · refine ⟨_, rfl, b, _, _, _, rfl, rfl, hbL, a2, _, _, rfl, rfl, _, rfl, ?_⟩
      refine ite2 (fun c0 => ?_) (fun c0 => ?_)
      · refine ⟨_, rfl, b, _, _, _, rfl, rfl, hbL, a2, _, rfl, _, _, rfl, rfl, hm, ?_⟩
        refine ⟨_, rfl, b, _, _, _, rfl, rfl, hbL, a2, _, rfl, _, _, rfl, rfl, wide_div hm hm2 (by decide) (by decide), _, rfl, b, _, _, _, rfl, rfl, h1, rfl, ?_⟩
        refine ⟨_, rfl, ?_⟩
        refine q _ _ (Int.emod_nonneg _ (Int.ne_of_gt hm)) (Int.emod_lt_of_pos _ hm) (hA.trans (Apart.set _)) ?_
        exact Bag.put h1 h2 hi (Int.ediv_nonneg hc (Int.le_of_lt hm)) hs hs2
      · exact k _ _ ⟨rfl, rfl⟩
  · refine ⟨_, rfl, b, _, _, _, rfl, rfl, hbL, a2, rfl, _, rfl, ?_⟩
    refine ite2 (fun c0 => ?_) (fun c0 => ?_)
    · refine ⟨_, rfl, b, _, _, _, rfl, rfl, hbL, a1, _, rfl, b, _, _, _, rfl, rfl, hbL, a0, l, _, rfl, .inl (SqL.of h2), _, _, rfl, rfl, _, rfl, ?_⟩
      refine ite2 (fun c1 => ?_) (fun c1 => ?_)
      · have c2 : i < (((ns.map V.int).length : Nat) : Int) := of_decide_eq_true c1
        rw [List.length_map] at c2
        obtain ⟨z, hz⟩ : ∃ z : Int, (ns.map V.int)[i.toNat]? = some (.int z) := by
          rw [List.getElem?_map, List.getElem?_eq_getElem (by omega)]
          exact ⟨_, rfl⟩
        refine ⟨_, rfl, b, _, _, _, rfl, rfl, hbL, a0, _, rfl, b, _, _, _, rfl, rfl, hbL, a1, l, _, _, _, rfl, rfl, SqL.of h2, at_of (j := i.toNat) (by omega) hz, ?_⟩
        refine ⟨_, rfl, b, _, _, _, rfl, rfl, hbL, a1, _, _, rfl, rfl, _, rfl, b, _, _, _, rfl, rfl, h1, rfl, ?_⟩
        have g1 : SqL K (upd H b (.lst (bagL l (i + 1) c s t))) b (bagL l (i + 1) c s t) := SqL.of upd_same
        have g2 : upd H b (.lst (bagL l (i + 1) c s t)) l = some (.lst (ns.map V.int)) := by
          rw [upd_ne (ne_of h2 h1 bag_ne)]
          exact h2
        refine ⟨_, rfl, _, _, rfl, rfl, ⟨by decide, by decide, by decide⟩, _, _, rfl, rfl, _, rfl, ?_⟩
        refine ite2 (fun c3 => ?_) (fun c3 => ?_)
        · have c4 : (10 : Int) ^ (18 : Int).toNat ≤ z := of_decide_eq_true c3
          have c5 : (0 : Int) ≤ z := Int.le_trans (by decide) c4
          refine ⟨_, rfl, _, rfl, b, _, _, _, rfl, rfl, upd_same, rfl, ?_⟩
          refine k _ _ ⟨i + 1, z, s, _, rfl, by omega, c5, hs, hs2, (Apart.set _).trans (Apart.set _), upd_same, ?_⟩
          rw [upd_ne (ne_of h2 h1 bag_ne)]
          exact g2
        · refine ⟨_, rfl, b, _, _, _, rfl, rfl, g1, a3, _, _, rfl, rfl, .inr ⟨by decide, by decide⟩, _, rfl, _, _, rfl, rfl, (by show (0 : Int) < 2147483549; decide), _, _, rfl, rfl, .inr ⟨by decide, by decide⟩, _, _, rfl, rfl, _, _, rfl, rfl, _, _, rfl, rfl, (by show (0 : Int) < 2147483647; decide), ?_⟩
          refine ⟨_, rfl, b, _, _, _, rfl, rfl, upd_same, rfl, ?_⟩
          refine k _ _ ⟨i + 1, c, _, _, rfl, by omega, hc, Int.emod_nonneg _ (by decide), Int.emod_lt_of_pos _ (by decide), (Apart.set _).trans (Apart.set _), upd_same, ?_⟩
          rw [upd_ne (ne_of h2 h1 bag_ne)]
          exact g2
      · exact k _ _ ⟨i, c, s, _, rfl, hi, hc, hs, hs2, Apart.refl b H, h1, h2⟩
    · exact k _ _ ⟨i, c, s, _, rfl, hi, hc, hs, hs2, Apart.refl b H, h1, h2⟩
theorem Apart.seq {K : PySem.W.Frag} {b a : Addr} {H H' : Hp} {xs : List V} (e : Apart b H H') (n : a ≠ b) (h : SqL K H a xs) : SqL K H' a xs := by
  rcases h with (h | ⟨o, h⟩) | h
  · exact .inl (.inl (e _ _ n h))
  · exact .inl (.inr ⟨o, e _ _ n h⟩)
  · exact .inr h
theorem ok_of (T : Txt K mg A) : FnOk P w K mg base CX0 2 A.f_of A.fd_of ["_law_bag_here", "_law_some"] (spOf K) := by
  refine T.d_of.F.ok sc_of (fun vs H Q E h => ?_) (fun cdv ar outer s H vs Q E hr h => ?_)
  · obtain ⟨b, l, a, xs, rfl, _⟩ := h
    rfl
  obtain ⟨b, l, a, xs, rfl, hB, hS, hn, h0, h1, q⟩ := h
  refine ⟨_, (pss_one (ps_ret (pe_ix (r := rIx K) ix_seq (pv 1) (pe_call (ok_pull T) (hr.mono (by decide)) rfl T.d_pull.m T.d_pull.F.kp T.d_pull.b .nil pass0 (pa_cons (pv 0) (pa_cons (pe_callB (r := rLenK K) call_len_seq (by rfl) T.len (by decide +kernel) (pa_cons (pv 1) pa_nil)) pa_nil))) (fun _ _ => rfl)))), ?_⟩
  refine ⟨_, rfl, _, rfl, _, rfl, a, _, rfl, .inl hS, b, l, _, rfl, hB, by omega, Nat.lt_of_le_of_lt (show ((xs.length : Nat) : Int).natAbs ≤ 1000 by omega) (by decide), fun r H' r0 r1 ap bg => ?_⟩
  have hi : r.toNat < xs.length := by omega
  refine .inl ⟨a, _, _, _, rfl, rfl, ap.seq hn hS, at_of (j := r.toNat) (by omega) (List.getElem?_eq_getElem hi), ?_⟩
  exact q r.toNat _ H' (List.getElem?_eq_getElem hi) ap bg

/-! ### the comparison -/
/-- two flat values are one -/
def Flat : V → Prop
  | .non => True
  | .bl _ => True
  | .int _ => True
  | .str _ => True
  | _ => False
/-- x and y hold the same data, at most n lists one in another -/
def EqD (K : PySem.W.Frag) (H : Hp) : Nat → V → V → Prop
  | 0, x, y => x = y ∧ Flat x
  | n + 1, x, y => (x = y ∧ Flat x) ∨ (∃ (a b : Addr) (xs ys : List V), x = .ref a ∧ y = .ref b ∧ H a = some (.lst xs) ∧ H b = some (.lst ys) ∧ Paired (EqD K H n) xs ys ∧ xs.length ≤ 100000) ∨
    (∃ (a b : Addr) (xs ys : List V), x = .ref a ∧ y = .ref b ∧ H a = some (.tup xs) ∧ H b = some (.tup ys) ∧ Paired (EqD K H n) xs ys ∧ xs.length ≤ 100000)
theorem EqD.flat {K : PySem.W.Frag} {H : Hp} {x : V} (h : Flat x) : ∀ {n : Nat}, EqD K H n x x
  | 0 => ⟨rfl, h⟩
  | _ + 1 => .inl ⟨rfl, h⟩
theorem paired_imp {α β : Type} {R S : α → β → Prop} (f : ∀ a b, R a b → S a b) : ∀ {xs : List α} {ys : List β}, Paired R xs ys → Paired S xs ys
  | _, _, .nil => .nil
  | _, _, .cons h t => .cons (f _ _ h) (paired_imp f t)
theorem EqD.mono {K : PySem.W.Frag} {H H' : Hp} (e : Same H H') : ∀ {n : Nat} {x y : V}, EqD K H n x y → EqD K H' n x y
  | 0, _, _, h => h
  | n + 1, x, y, h => by
    rcases h with h | ⟨a, b, xs, ys, h1, h2, h3, h4, h5, h6⟩ | ⟨a, b, xs, ys, h1, h2, h3, h4, h5, h6⟩
    · exact .inl h
    · exact .inr (.inl ⟨a, b, xs, ys, h1, h2, e _ _ h3, e _ _ h4, paired_imp (fun _ _ z => EqD.mono e z) h5, h6⟩)
    · exact .inr (.inr ⟨a, b, xs, ys, h1, h2, e _ _ h3, e _ _ h4, paired_imp (fun _ _ z => EqD.mono e z) h5, h6⟩)
theorem paired_len {α β : Type} {R : α → β → Prop} : ∀ {xs : List α} {ys : List β}, Paired R xs ys → xs.length = ys.length
  | _, _, .nil => rfl
  | _, _, .cons _ t => congrArg (· + 1) (paired_len t)
theorem paired_at {α β : Type} {R : α → β → Prop} : ∀ {xs : List α} {ys : List β} {i : Nat} {y : β}, Paired R xs ys → ys[i]? = some y → ∃ x, xs[i]? = some x ∧ R x y
  | _, _, _, _, .nil, e => by cases e
  | x :: _, _, 0, _, .cons r _, e => by cases e; exact ⟨x, rfl, r⟩
  | _, _, i + 1, y, .cons _ t, e => by
    obtain ⟨x, h1, h2⟩ := paired_at (i := i) (y := y) t (by simpa using e)
    exact ⟨x, by simpa using h1, h2⟩
def spSame (K : PySem.W.Frag) (n : Nat) : Sp := fun vs H Q _ => ∃ (x y : V), vs = [x, y] ∧ EqD K H n x y ∧ ∀ (H' : Hp), Same H H' → Q (.bl true) H'
theorem kt_lt {t : String} {b : Bool} (h1 : kitB t "list" = some false) (h2 : kitB t "tuple" = some b) : PySem.W.kitAny K (.type t) [.type "list", .type "tuple"] = some b :=
  kitAny_cons (kit_ty h1) (fun _ => by
    cases b with
    | true => exact kitAny_cons (kit_ty h2) (fun z => nomatch z) (fun _ => rfl)
    | false => exact kitAny_cons (kit_ty h2) (fun _ => kitAny_nil) (fun z => nomatch z)) (fun z => nomatch z)
theorem kt_l : PySem.W.kitAny K (.type "list") [.type "list", .type "tuple"] = some true := kitAny_cons (b := true) (kit_ty (by decide +kernel)) (fun z => Bool.noConfusion z) (fun _ => rfl)
theorem kt_t : PySem.W.kitAny K (.type "tuple") [.type "list", .type "tuple"] = some true := kt_lt (by decide +kernel) (by decide +kernel)
theorem cls2 : Paired ClsV [V.ty "list", V.ty "tuple"] [Value.type "list", Value.type "tuple"] := .cons (.ty _) (.cons (.ty _) .nil)
theorem isi_flat {v : V} (h : Flat v) (hn : v ≠ .non) : ∃ (t : String) (a b c : Bool), (∀ H, TyX K H v (.type t)) ∧ kitB t "list" = some false ∧ kitB t "tuple" = some false ∧ kitB t "bool" = some a ∧ kitB t "int" = some b ∧ kitB t "str" = some c := by
  cases v with
  | non => exact absurd rfl hn
  | bl b => exact ⟨"bool", true, true, false, fun _ => .base (.bl b), by decide +kernel, by decide +kernel, by decide +kernel, by decide +kernel, by decide +kernel⟩
  | int i => exact ⟨"int", false, true, false, fun _ => .base (.int i), by decide +kernel, by decide +kernel, by decide +kernel, by decide +kernel, by decide +kernel⟩
  | str x => exact ⟨"str", false, false, true, fun _ => .base (.str x), by decide +kernel, by decide +kernel, by decide +kernel, by decide +kernel, by decide +kernel⟩
  | byt _ => exact h.elim
  | flt _ => exact h.elim
  | ref _ => exact h.elim
  | ty _ => exact h.elim
theorem scal_flat {v : V} (h : Flat v) : scal v v = true := by
  cases v <;> first | rfl | exact h.elim
theorem ne_bl (a : Bool) : (!decide (V.bl a = V.bl a)) = false := by rw [decide_eq_true rfl]; rfl
theorem ok_same_step (T : Txt K mg A) (n : Nat) (G : ∀ m, n = m + 1 → FnOk P w K mg base CX0 n A.f_same A.fd_same ["_law_found", "_law_due"] (spSame K m)) : FnOk P w K mg base CX0 (n + 1) A.f_same A.fd_same ["_law_found", "_law_due"] (spSame K n) := by
  refine T.d_same.F.ok sc_same (fun vs H Q E h => ?_) (fun cdv ar outer s H vs Q E hr h => ?_)
  · obtain ⟨x, y, rfl, _⟩ := h
    rfl
  obtain ⟨x, y, rfl, hE, q⟩ := h
  by_cases hf : Flat x ∧ x = y
  · obtain ⟨hf, rfl⟩ := hf
    have G : FnOk P w K mg base CX0 n A.f_same A.fd_same ["_law_found", "_law_due"] (fun _ _ _ _ => False) := ⟨fun _ _ _ _ h => h.elim, fun _ _ _ _ _ _ _ _ _ _ _ _ _ h => h.elim⟩
    refine ⟨_, (pss_cons (ps_if (PW.pt (pw_or (pt_cmpR op_isN (pv 1) pe_non (nomark _)) (pw_or1 (pt_cmpR op_isN (pv 0) pe_non (nomark _))))) (pss_one (ps_ret (pe_and (pe_cmpR op_isN (pv 0) pe_non (nomark _)) (pe_one (pe_cmpR op_isN (pv 1) pe_non (nomark _)))))) pss_nil)
    (pss_cons (ps_if (pt_val (pe_callB (r := rIsiT K) call_isiT (by rfl) T.isinstance (by decide +kernel) (pa_cons (pv 1) (pa_cons (pe_tup (pa_cons (pe_bltn (v := .ty "list") (u := .type "list") (by rfl) T.list (by decide +kernel) rfl) (pa_cons (pe_bltn (v := .ty "tuple") (u := .type "tuple") (by rfl) T.tuple (by decide +kernel) rfl) pa_nil))) pa_nil)))) (pss_cons (ps_if (PW.pt (pw_or (pt_cmpR op_ne (pe_callB (r := rIsi K) call_isi (by rfl) T.isinstance (by decide +kernel) (pa_cons (pv 0) (pa_cons (pe_bltn (v := .ty "list") (u := .type "list") (by rfl) T.list (by decide +kernel) rfl) pa_nil))) (pe_callB (r := rIsi K) call_isi (by rfl) T.isinstance (by decide +kernel) (pa_cons (pv 1) (pa_cons (pe_bltn (v := .ty "list") (u := .type "list") (by rfl) T.list (by decide +kernel) rfl) pa_nil))) (nomark _)) (pw_or1 (pt_cmpR op_ne (pe_callB (r := rIsi K) call_isi (by rfl) T.isinstance (by decide +kernel) (pa_cons (pv 0) (pa_cons (pe_bltn (v := .ty "tuple") (u := .type "tuple") (by rfl) T.tuple (by decide +kernel) rfl) pa_nil))) (pe_callB (r := rIsi K) call_isi (by rfl) T.isinstance (by decide +kernel) (pa_cons (pv 1) (pa_cons (pe_bltn (v := .ty "tuple") (u := .type "tuple") (by rfl) T.tuple (by decide +kernel) rfl) pa_nil))) (nomark _))))) (pss_one (ps_ret pe_bl)) pss_nil)
    (pss_one (ps_ret (pe_and (pe_cmpR op_eq (pe_callB (r := rLenK K) call_len_seq (by rfl) T.len (by decide +kernel) (pa_cons (pv 0) pa_nil)) (pe_callB (r := rLenK K) call_len_seq (by rfl) T.len (by decide +kernel) (pa_cons (pv 1) pa_nil)) (nomark _)) (pe_one (pe_callB (r := rAll K) (cr_all rfl) (by rfl) T.all (by decide +kernel) (pa_cons (pe_lc (own := [("_law_k", 2)]) (g := gName 2) (tt := tYes) rfl sc_same.nd (pi_range1 rfl T.range (pa_cons (pe_callB (r := rLenK K) call_len_seq (by rfl) T.len (by decide +kernel) (pa_cons (pv 1) pa_nil)) pa_nil)) (blkOk_by (own := [("_law_k", 2)]) (N := ["_law_found", "_law_due", "_law_k"]) (sc := defScope s_same) (by decide +kernel)) (fun _ _ _ _ _ => (pg_name (i := 2) sc_same.nd rfl (Or.inl rfl))) (fun _ _ _ _ _ => pts_nil) (fun _ _ _ _ _ => (pe_call G hr rfl T.d_same.m T.d_same.F.kp T.d_same.b .nil pass0 (pa_cons (pe_ix (r := rIx K) ix_seq (pv 0) (pv 2) (fun _ _ => rfl)) (pa_cons (pe_ix (r := rIx K) ix_seq (pv 1) (pv 2) (fun _ _ => rfl)) pa_nil))))) pa_nil))))))) pss_nil)
    (pss_cons (ps_if (PW.pt (pw_or (pt_cmpR op_ne (pe_callB (r := rIsi K) call_isi (by rfl) T.isinstance (by decide +kernel) (pa_cons (pv 1) (pa_cons (pe_bltn (v := .ty "bool") (u := .type "bool") (by rfl) T.bool (by decide +kernel) rfl) pa_nil))) (pe_callB (r := rIsi K) call_isi (by rfl) T.isinstance (by decide +kernel) (pa_cons (pv 0) (pa_cons (pe_bltn (v := .ty "bool") (u := .type "bool") (by rfl) T.bool (by decide +kernel) rfl) pa_nil))) (nomark _)) (pw_or1 (pt_cmpR op_ne (pe_callB (r := rIsi K) call_isi (by rfl) T.isinstance (by decide +kernel) (pa_cons (pv 1) (pa_cons (pe_bltn (v := .ty "int") (u := .type "int") (by rfl) T.int (by decide +kernel) rfl) pa_nil))) (pe_callB (r := rIsi K) call_isi (by rfl) T.isinstance (by decide +kernel) (pa_cons (pv 0) (pa_cons (pe_bltn (v := .ty "int") (u := .type "int") (by rfl) T.int (by decide +kernel) rfl) pa_nil))) (nomark _))))) (pss_one (ps_ret pe_bl)) pss_nil)
    (pss_one (ps_ret (pe_and (pe_cmpR op_eq (pe_callB (r := rIsi K) call_isi (by rfl) T.isinstance (by decide +kernel) (pa_cons (pv 1) (pa_cons (pe_bltn (v := .ty "str") (u := .type "str") (by rfl) T.str (by decide +kernel) rfl) pa_nil))) (pe_callB (r := rIsi K) call_isi (by rfl) T.isinstance (by decide +kernel) (pa_cons (pv 0) (pa_cons (pe_bltn (v := .ty "str") (u := .type "str") (by rfl) T.str (by decide +kernel) rfl) pa_nil))) (nomark _)) (pe_one (pe_cmpR op_eq (pv 0) (pv 1) (nomark _))))))))), ?_⟩
    by_cases hn : x = .non
    · subst hn
      refine ⟨_, rfl, rfl, _, rfl, iteT (iteT ?_)⟩
      refine ⟨_, rfl, rfl, _, rfl, iteT ⟨_, rfl, rfl, ?_⟩⟩
      exact q _ (Same.refl H)
    · have d0 : decide (x = V.non) = false := decide_eq_false hn
      refine ⟨_, rfl, rfl, _, rfl, ?_⟩
      rw [d0]
      refine iteF ⟨_, rfl, rfl, _, rfl, ?_⟩
      rw [d0]
      refine iteF ?_
      obtain ⟨t, a, b, c, ty, k1, k2, k3, k4, k5⟩ := isi_flat (K := K) hf hn
      refine ⟨_, rfl, sl_small (by decide), fun p hp => ⟨_, p, _, _, _, false, rfl, upd_same, cls2, ty _, kt_lt k1 k2, _, rfl, iteF ?_⟩⟩
      refine ⟨_, rfl, _, _, _, _, _, rfl, .ty _, ty _, kit_ty k3, _, rfl, _, _, _, _, _, rfl, .ty _, ty _, kit_ty k3, rfl, _, rfl, ?_⟩
      rw [ne_bl]
      refine iteF ⟨_, rfl, _, _, _, _, _, rfl, .ty _, ty _, kit_ty k4, _, rfl, _, _, _, _, _, rfl, .ty _, ty _, kit_ty k4, rfl, _, rfl, ?_⟩
      rw [ne_bl]
      refine iteF ⟨_, rfl, _, _, _, _, _, rfl, .ty _, ty _, kit_ty k5, _, rfl, _, _, _, _, _, rfl, .ty _, ty _, kit_ty k5, rfl, _, rfl, ?_⟩
      rw [decide_eq_true rfl]
      refine iteT ⟨_, rfl, _, rfl, scal_flat hf, ?_⟩
      rw [decide_eq_true rfl]
      exact q _ (Same.new hp _)
  · -- two lists, or two tuples
    obtain ⟨m, rfl, b1, a, b, xs, ys, T1, rfl, rfl, hP, hl⟩ : ∃ (m : Nat), n = m + 1 ∧ ∃ (tl : Bool) (a b : Addr) (xs ys : List V) (_ : H a = some (if tl then HO.lst xs else HO.tup xs) ∧ H b = some (if tl then HO.lst ys else HO.tup ys)), x = .ref a ∧ y = .ref b ∧ Paired (EqD K H m) xs ys ∧ xs.length ≤ 100000 := by
      cases n with
      | zero => exact absurd ⟨hE.2, hE.1⟩ hf
      | succ m =>
        rcases hE with h | ⟨a, b, xs, ys, h1, h2, h3, h4, h5, h6⟩ | ⟨a, b, xs, ys, h1, h2, h3, h4, h5, h6⟩
        · exact absurd ⟨h.2, h.1⟩ hf
        · exact ⟨m, rfl, true, a, b, xs, ys, ⟨h3, h4⟩, h1, h2, h5, h6⟩
        · exact ⟨m, rfl, false, a, b, xs, ys, ⟨h3, h4⟩, h1, h2, h5, h6⟩
    obtain ⟨ha, hb⟩ := T1
    have G := G m rfl
    have hlen := paired_len hP
    have seq : ∀ {H' : Hp} {a : Addr} {xs : List V}, H' a = some (if b1 then HO.lst xs else HO.tup xs) → SqL K H' a xs ∨ SqT K H' a xs := fun {H' a xs} h => by
      cases b1 with
      | true => exact .inl (SqL.of h)
      | false => exact .inr (SqT.of h)
    have ixs : ∀ {H' : Hp} {a : Addr} {xs : List V} {i : Nat} {v : V} {Q : VK}, H' a = some (if b1 then HO.lst xs else HO.tup xs) → xs[i]? = some v → Q v H' → rIx K (.ref a) (.int (0 + (i : Int))) H' Q := fun {H' a xs i v Q} h e k => by
      cases b1 with
      | true => exact .inl ⟨a, _, _, _, rfl, rfl, SqL.of h, at_of (j := i) (by omega) e, k⟩
      | false => exact .inr (.inl ⟨a, _, _, _, rfl, rfl, SqT.of h, at_of (j := i) (by omega) e, k⟩)
    obtain ⟨t, ty, k1, k2, k3⟩ : ∃ t : String, (∀ (H' : Hp) (a : Addr) (xs : List V), H' a = some (if b1 then HO.lst xs else HO.tup xs) → TyX K H' (.ref a) (.type t)) ∧ PySem.W.kitAny K (.type t) [.type "list", .type "tuple"] = some true ∧ (∃ c, kitB t "list" = some c) ∧ (∃ c, kitB t "tuple" = some c) := by
      cases b1 with
      | true => exact ⟨"list", fun _ _ _ h => .base (.lst h), kt_l, ⟨true, by decide +kernel⟩, ⟨false, by decide +kernel⟩⟩
      | false => exact ⟨"tuple", fun _ _ _ h => .base (.tup h), kt_t, ⟨false, by decide +kernel⟩, ⟨true, by decide +kernel⟩⟩
    obtain ⟨⟨c1, k2⟩, ⟨c2, k3⟩⟩ := And.intro k2 k3
    refine ⟨_, (pss_cons (ps_if (PW.pt (pw_or (pt_cmpR op_isN (pv 1) pe_non (nomark _)) (pw_or1 (pt_cmpR op_isN (pv 0) pe_non (nomark _))))) (pss_one (ps_ret (pe_and (pe_cmpR op_isN (pv 0) pe_non (nomark _)) (pe_one (pe_cmpR op_isN (pv 1) pe_non (nomark _)))))) pss_nil)
    (pss_cons (ps_if (pt_val (pe_callB (r := rIsiT K) call_isiT (by rfl) T.isinstance (by decide +kernel) (pa_cons (pv 1) (pa_cons (pe_tup (pa_cons (pe_bltn (v := .ty "list") (u := .type "list") (by rfl) T.list (by decide +kernel) rfl) (pa_cons (pe_bltn (v := .ty "tuple") (u := .type "tuple") (by rfl) T.tuple (by decide +kernel) rfl) pa_nil))) pa_nil)))) (pss_cons (ps_if (PW.pt (pw_or (pt_cmpR op_ne (pe_callB (r := rIsi K) call_isi (by rfl) T.isinstance (by decide +kernel) (pa_cons (pv 0) (pa_cons (pe_bltn (v := .ty "list") (u := .type "list") (by rfl) T.list (by decide +kernel) rfl) pa_nil))) (pe_callB (r := rIsi K) call_isi (by rfl) T.isinstance (by decide +kernel) (pa_cons (pv 1) (pa_cons (pe_bltn (v := .ty "list") (u := .type "list") (by rfl) T.list (by decide +kernel) rfl) pa_nil))) (nomark _)) (pw_or1 (pt_cmpR op_ne (pe_callB (r := rIsi K) call_isi (by rfl) T.isinstance (by decide +kernel) (pa_cons (pv 0) (pa_cons (pe_bltn (v := .ty "tuple") (u := .type "tuple") (by rfl) T.tuple (by decide +kernel) rfl) pa_nil))) (pe_callB (r := rIsi K) call_isi (by rfl) T.isinstance (by decide +kernel) (pa_cons (pv 1) (pa_cons (pe_bltn (v := .ty "tuple") (u := .type "tuple") (by rfl) T.tuple (by decide +kernel) rfl) pa_nil))) (nomark _))))) (pss_one (ps_ret pe_bl)) pss_nil)
    (pss_one (ps_ret (pe_and (pe_cmpR op_eq (pe_callB (r := rLenK K) call_len_seq (by rfl) T.len (by decide +kernel) (pa_cons (pv 0) pa_nil)) (pe_callB (r := rLenK K) call_len_seq (by rfl) T.len (by decide +kernel) (pa_cons (pv 1) pa_nil)) (nomark _)) (pe_one (pe_callB (r := rAll K) (cr_all rfl) (by rfl) T.all (by decide +kernel) (pa_cons (pe_lc (own := [("_law_k", 2)]) (g := gName 2) (tt := tYes) rfl sc_same.nd (pi_range1 rfl T.range (pa_cons (pe_callB (r := rLenK K) call_len_seq (by rfl) T.len (by decide +kernel) (pa_cons (pv 1) pa_nil)) pa_nil)) (blkOk_by (own := [("_law_k", 2)]) (N := ["_law_found", "_law_due", "_law_k"]) (sc := defScope s_same) (by decide +kernel)) (fun _ _ _ _ _ => (pg_name (i := 2) sc_same.nd rfl (Or.inl rfl))) (fun _ _ _ _ _ => pts_nil) (fun _ _ _ _ _ => (pe_call G hr rfl T.d_same.m T.d_same.F.kp T.d_same.b .nil pass0 (pa_cons (pe_ix (r := rIx K) ix_seq (pv 0) (pv 2) (fun _ _ => rfl)) (pa_cons (pe_ix (r := rIx K) ix_seq (pv 1) (pv 2) (fun _ _ => rfl)) pa_nil))))) pa_nil))))))) pss_nil)
    (pss_cons (ps_if (PW.pt (pw_or (pt_cmpR op_ne (pe_callB (r := rIsi K) call_isi (by rfl) T.isinstance (by decide +kernel) (pa_cons (pv 1) (pa_cons (pe_bltn (v := .ty "bool") (u := .type "bool") (by rfl) T.bool (by decide +kernel) rfl) pa_nil))) (pe_callB (r := rIsi K) call_isi (by rfl) T.isinstance (by decide +kernel) (pa_cons (pv 0) (pa_cons (pe_bltn (v := .ty "bool") (u := .type "bool") (by rfl) T.bool (by decide +kernel) rfl) pa_nil))) (nomark _)) (pw_or1 (pt_cmpR op_ne (pe_callB (r := rIsi K) call_isi (by rfl) T.isinstance (by decide +kernel) (pa_cons (pv 1) (pa_cons (pe_bltn (v := .ty "int") (u := .type "int") (by rfl) T.int (by decide +kernel) rfl) pa_nil))) (pe_callB (r := rIsi K) call_isi (by rfl) T.isinstance (by decide +kernel) (pa_cons (pv 0) (pa_cons (pe_bltn (v := .ty "int") (u := .type "int") (by rfl) T.int (by decide +kernel) rfl) pa_nil))) (nomark _))))) (pss_one (ps_ret pe_bl)) pss_nil)
    (pss_one (ps_ret (pe_and (pe_cmpR op_eq (pe_callB (r := rIsi K) call_isi (by rfl) T.isinstance (by decide +kernel) (pa_cons (pv 1) (pa_cons (pe_bltn (v := .ty "str") (u := .type "str") (by rfl) T.str (by decide +kernel) rfl) pa_nil))) (pe_callB (r := rIsi K) call_isi (by rfl) T.isinstance (by decide +kernel) (pa_cons (pv 0) (pa_cons (pe_bltn (v := .ty "str") (u := .type "str") (by rfl) T.str (by decide +kernel) rfl) pa_nil))) (nomark _)) (pe_one (pe_cmpR op_eq (pv 0) (pv 1) (nomark _))))))))), ?_⟩
    refine ⟨_, rfl, rfl, _, rfl, iteF ?_⟩
    refine ⟨_, rfl, rfl, _, rfl, iteF ?_⟩
    refine ⟨_, rfl, sl_small (by decide), fun p hp => ?_⟩
    have s1 : Same H (upd H p (.tup [V.ty "list", V.ty "tuple"])) := Same.new hp _
    refine ⟨_, p, _, _, _, true, rfl, upd_same, cls2, ty _ _ _ (s1 _ _ hb), k1, _, rfl, iteT ?_⟩
    refine ⟨_, rfl, _, _, _, _, _, rfl, .ty _, ty _ _ _ (s1 _ _ ha), kit_ty k2, _, rfl, _, _, _, _, _, rfl, .ty _, ty _ _ _ (s1 _ _ hb), kit_ty k2, rfl, _, rfl, ?_⟩
    rw [ne_bl]
    refine iteF ⟨_, rfl, _, _, _, _, _, rfl, .ty _, ty _ _ _ (s1 _ _ ha), kit_ty k3, _, rfl, _, _, _, _, _, rfl, .ty _, ty _ _ _ (s1 _ _ hb), kit_ty k3, rfl, _, rfl, ?_⟩
    rw [ne_bl]
    refine iteF ⟨_, rfl, a, _, rfl, seq (s1 _ _ ha), _, rfl, b, _, rfl, seq (s1 _ _ hb), rfl, _, rfl, ?_⟩
    rw [hlen, decide_eq_true rfl]
    refine iteT ⟨_, rfl, b, _, rfl, seq (s1 _ _ hb), _, rfl, by omega, by omega, fun D hD => ?_⟩
    have s2 := s1.set (s1.free hD)
    refine lc_range (lo := 0) (n := ((ys.length : Nat) : Int).toNat) (fun i H' => Same H H' ∧ H' D = some (.lst (List.replicate i (V.bl true)))) ⟨s2 _, upd_same⟩ ?_ ?_
    · rintro i H' hi ⟨s3, hD'⟩
      have hi : i < ys.length := by omega
      obtain ⟨v, hv, he⟩ := paired_at hP (List.getElem?_eq_getElem hi)
      refine ⟨rfl, ?_⟩
      refine ⟨_, rfl, _, rfl, ixs (s3 _ _ ha) hv ⟨_, rfl, _, rfl, ixs (s3 _ _ hb) (List.getElem?_eq_getElem hi) ?_⟩⟩
      refine ⟨_, _, rfl, he.mono s3, fun H2 s4 => ?_⟩
      refine ⟨_, s4 _ _ hD', by rw [List.length_replicate]; exact sl_lt (by omega), (s3.trans s4).set (s1.free hD) _, ?_⟩
      rw [upd_same, List.replicate_succ']
    · rintro H' ⟨s3, hD'⟩
      refine ⟨D, List.replicate ys.length true, rfl, SqL.of (by rw [hD', List.map_replicate]; rfl), ?_⟩
      have e : (List.replicate ys.length true).all id = true := by
        rw [List.all_replicate]
        cases ys.length <;> rfl
      rw [e]
      exact q _ s3
theorem ok_same_at (T : Txt K mg A) : ∀ n : Nat, FnOk P w K mg base CX0 (n + 1) A.f_same A.fd_same ["_law_found", "_law_due"] (spSame K n)
  | 0 => ok_same_step T 0 fun m e => nomatch e
  | n + 1 => ok_same_step T (n + 1) fun m e => by
    have e2 : m = n := by omega
    subst e2
    exact ok_same_at T m
/-- data of at most nine levels -/
theorem ok_same (T : Txt K mg A) : FnOk P w K mg base CX0 10 A.f_same A.fd_same ["_law_found", "_law_due"] (spSame K 9) := ok_same_at T 9
end

/-! ## Fractions in the heap -/
open RM in
/-- the tuple of a fraction -/
def FR (x : Rat) : List V := [.int x.num, .int ((x.den : Nat) : Int)]
/-- a new tuple, all else as it was -/
def NewT (H : Hp) (Q : VK) (xs : List V) : Prop := ∀ (p : Addr) (H' : Hp), Same H H' → H p = none → H' p = some (.tup xs) → Q (.ref p) H'
theorem NewT.lay {H H1 : Hp} {Q : VK} {xs : List V} {p : Addr} (q : NewT H Q xs) (e : Same H H1) (h : H1 p = none) : Q (.ref p) (upd H1 p (.tup xs)) := q p _ (e.set (e.free h) _) (e.free h) upd_same
theorem fr_of {x : Rat} {n d : Int} (h1 : n = x.num) (h2 : d = ((x.den : Nat) : Int)) : ([.int n, .int d] : List V) = FR x := by
  rw [h1, h2]; rfl
theorem w_mul {i j : Int} {a b : Nat} (ha : i.natAbs < 2 ^ a) (hb : j.natAbs < 2 ^ b) (h : a + b + 2 ≤ 1000000) : CMulW i j :=
  wide_mul (a := a + 1) (b := b + 1) (Nat.lt_of_lt_of_le ha (RM.pow_le (by omega))) (Nat.lt_of_lt_of_le hb (RM.pow_le (by omega))) (by omega) (by omega) (by omega)
theorem w_div {i j : Int} {b : Nat} (h : 0 < j) (hb : j.natAbs < 2 ^ b) (h9 : b ≤ 8999) : CDivW i j :=
  wide_div h (Nat.lt_of_lt_of_le hb (RM.pow_le (show b ≤ b + 1 by omega))) (by omega) (by omega)
def rIxTV (H : Hp) (p : Addr) (xs : List V) (i : Nat) (v : V) : Prop := H p = some (.tup xs) ∧ xs[i]? = some v
def spGcd : Sp := fun vs H Q _ => ∃ (a b : Int), vs = [.int a, .int b] ∧ 0 ≤ b ∧ Q (.int ((Int.gcd a b : Nat) : Int)) H
def spLow : Sp := fun vs H Q _ => ∃ (a b : Int), vs = [.int a, .int b] ∧ 0 < b ∧ b.natAbs < 2 ^ 8000 ∧ NewT H Q (FR (Rat.divInt a b))
section
variable {P : Program} {w : World} {K : PySem.W.Frag} {mg : Str → Option Value} {base : Heap} {A : Ad}
theorem abs_is (i : Int) : (if i < 0 then -i else i) = ((i.natAbs : Nat) : Int) := by
  split <;> omega
theorem gcd_zero' (i : Int) : ((i.natAbs : Nat) : Int) = ((Int.gcd i 0 : Nat) : Int) := by rw [Int.gcd_zero]
theorem ok_gcd (T : Txt K mg A) : FnOk P w K mg base CX0 1 A.f_gcd A.fd_gcd ["_law_a", "_law_b"] spGcd := by
  refine T.d_gcd.F.ok sc_gcd (fun vs H Q E h => ?_) (fun cdv ar outer s H vs Q E hr h => ?_)
  · obtain ⟨a, b, rfl, _⟩ := h
    rfl
  obtain ⟨a, b, rfl, hb, q⟩ := h
  refine ⟨_, (pss_cons (ps_while PassesOwn.never (pt_cmpR op_ne (pv 1) pe_int (nomark _)) (pss_one (ps_par (i := 0) (j := 1) (by rfl) sc_gcd.nd rfl rfl (by decide) rfl rfl (pa_cons (pv 1) (pa_cons (pe_op op_mod (pv 0) (pv 1)) pa_nil)) (by rfl))))
    (pss_one (ps_ret (pe_callB call_abs (by rfl) T.abs (by decide +kernel) (pa_cons (pv 0) pa_nil))))), ?_⟩
  refine while_by (fun σ H' => H' = H ∧ ∃ x y : Int, σ = [some (.int x), some (.int y)] ∧ 0 ≤ y ∧ Int.gcd x y = Int.gcd a b) (fun σ _ => match σ with | [_, some (.int y)] => y.toNat | _ => 0) ⟨rfl, a, b, rfl, hb, rfl⟩ ?_ (fun σ H Q Q' m ⟨v, e, h1, k, e2, q⟩ => ⟨v, e, h1, k, e2, m _ _ q⟩)
  rintro σ _ ⟨rfl, x, y, rfl, hy, hg⟩
  refine ⟨_, rfl, rfl, _, rfl, ?_⟩
  by_cases h0 : y = 0
  · subst h0
    rw [decide_eq_true rfl]
    refine iteF ⟨_, rfl, _, rfl, ?_⟩
    rw [abs_is, gcd_zero', hg]
    exact q
  · have d0 : decide (V.int y = V.int 0) = false := decide_eq_false fun z => h0 (by injection z)
    rw [d0]
    refine iteT ⟨_, rfl, _, rfl, _, rfl, _, _, rfl, rfl, (by show 0 < y; omega), _, _, rfl, ?_⟩
    have hm := Int.emod_nonneg x h0
    have hl := Int.emod_lt_of_pos x (show 0 < y by omega)
    refine ⟨⟨rfl, y, x % y, rfl, hm, by rw [RM.gcd_step]; exact hg⟩, ?_⟩
    show (x % y).toNat < y.toNat
    omega
theorem ok_low (T : Txt K mg A) : FnOk P w K mg base CX0 2 A.f_low A.fd_low ["_law_a", "_law_b"] spLow := by
  refine T.d_low.F.ok sc_low (fun vs H Q E h => ?_) (fun cdv ar outer s H vs Q E hr h => ?_)
  · obtain ⟨a, b, rfl, _⟩ := h
    rfl
  obtain ⟨a, b, rfl, hb, hz, q⟩ := h
  have g0 : 0 < ((Int.gcd a b : Nat) : Int) := RM.gcd_posi (by omega)
  have g1 : ((Int.gcd a b : Nat) : Int).natAbs < 2 ^ 8000 := by
    refine Nat.lt_of_le_of_lt ?_ hz
    rw [RM.nat_abs]
    exact Nat.le_of_dvd (by omega) (Int.gcd_dvd_natAbs_right ..)
  refine ⟨_, (pss_cons (ps_set (i := 2) sc_low.nd rfl (Or.inl rfl) (pe_call (ok_gcd T) (hr.mono (by decide)) rfl T.d_gcd.m T.d_gcd.F.kp T.d_gcd.b .nil pass0 (pa_cons (pv 0) (pa_cons (pv 1) pa_nil))))
    (pss_one (ps_ret (pe_tup (pa_cons (pe_op op_fdivW (pv 0) (pv 2)) (pa_cons (pe_op op_fdivW (pv 1) (pv 2)) pa_nil)))))), ?_⟩
  refine ⟨_, rfl, _, rfl, a, b, rfl, by omega, ?_⟩
  refine ⟨_, rfl, _, rfl, _, _, rfl, rfl, w_div g0 g1 (by decide), _, rfl, _, rfl, _, _, rfl, rfl, w_div g0 g1 (by decide), slr rfl, fun p hp => ?_⟩
  show Q (.ref p) (upd H p (.tup [.int (a / ((Int.gcd a b : Nat) : Int)), .int (b / ((Int.gcd a b : Nat) : Int))]))
  rw [← RM.num_pos hb, ← RM.den_pos hb]
  exact q.lay (Same.refl H) hp
end

/-! ## What stays -/
theorem ix0 {x : Rat} : atI (FR x) 0 = some (.int x.num) := at_of (j := 0) rfl rfl
theorem ix1 {x : Rat} : atI (FR x) 1 = some (.int ((x.den : Nat) : Int)) := at_of (j := 1) rfl rfl
/-- a fraction stands at v -/
def IsR (H : Hp) (v : V) (x : Rat) : Prop := ∃ p, v = .ref p ∧ H p = some (.tup (FR x))
theorem IsR.mono {H H' : Hp} {v : V} {x : Rat} (h : IsR H v x) (e : Same H H') : IsR H' v x := by
  obtain ⟨p, h1, h2⟩ := h
  exact ⟨p, h1, e _ _ h2⟩
def RL (H : Hp) (vs : List V) (qs : List Rat) : Prop := Paired (IsR H) vs qs
theorem RL.mono {H H' : Hp} {vs : List V} {qs : List Rat} (h : RL H vs qs) (e : Same H H') : RL H' vs qs := paired_imp (fun _ _ z => z.mono e) h
theorem paired_at1 {α β : Type} {R : α → β → Prop} : ∀ {xs : List α} {ys : List β} {i : Nat} {x : α}, Paired R xs ys → xs[i]? = some x → ∃ y, ys[i]? = some y ∧ R x y
  | _, _, _, _, .nil, e => by cases e
  | _, y :: _, 0, _, .cons r _, e => by cases e; exact ⟨y, rfl, r⟩
  | _, _, i + 1, x, .cons _ t, e => by
    obtain ⟨y, h1, h2⟩ := paired_at1 (i := i) (x := x) t (by simpa using e)
    exact ⟨y, by simpa using h1, h2⟩
/-- tuples stay -/
def KeepT (H H' : Hp) : Prop := ∀ p xs, H p = some (.tup xs) → H' p = some (.tup xs)
theorem _root_.L2.Same.kt {H H' : Hp} (e : Same H H') : KeepT H H' := fun p xs h => e p _ h
theorem Apart.kt {b : Addr} {H H' : Hp} (e : Apart b H H') {l : Addr} (B : Bag H b l) : KeepT H H' := fun p xs h => e p _ (B.nt h) h
theorem KeepT.trans {H H1 H2 : Hp} (x : KeepT H H1) (y : KeepT H1 H2) : KeepT H H2 := fun p xs h => y p xs (x p xs h)
theorem KeepT.refl (H : Hp) : KeepT H H := fun _ _ h => h
theorem kt_list {H : Hp} {D : Addr} {xs : List V} {o : HO} (h : H D = some (.lst xs)) : KeepT H (upd H D o) := fun p ys e => by
  rw [upd_ne (ne_of e h (fun z => nomatch z))]
  exact e
theorem IsR.keep {H H' : Hp} {v : V} {x : Rat} (h : IsR H v x) (e : KeepT H H') : IsR H' v x := by
  obtain ⟨p, h1, h2⟩ := h
  exact ⟨p, h1, e _ _ h2⟩
theorem RL.keep {H H' : Hp} {vs : List V} {qs : List Rat} (h : RL H vs qs) (e : KeepT H H') : RL H' vs qs := paired_imp (fun _ _ z => z.keep e) h
theorem paired_snoc {α β : Type} {R : α → β → Prop} {x : α} {y : β} (r : R x y) : ∀ {xs : List α} {ys : List β}, Paired R xs ys → Paired R (xs ++ [x]) (ys ++ [y])
  | _, _, .nil => .cons r .nil
  | _, _, .cons h t => .cons h (paired_snoc r t)

/-! ## The program's fractions -/
def CDivZ (_ j : Int) : Prop := j ≠ 0 ∧ j.natAbs.log2 < 9000
section
variable {X : Cx}
theorem op_fdivZ : OpR X (binaryOp .FloorDiv) (rI CDivZ fun i j => .int (i.fdiv j)) := opI fun _ _ _ _ _ _ _ hc q => PyProof.Rows.floordiv_int hc.1 q (.inl (PyProof.noPylong_of_log2 hc.2))
theorem iop_mulW : OpR X (inplaceOp .Mult) (rI CMulW fun i j => .int (i * j)) := opI fun _ _ _ _ _ _ _ hc q => PyProof.Rows.imul_int q hc.ok
/-- f(e, ..) of a def by its positional promise -/
theorem pe_callN {CX : CXT} {k : Nat} {f : Addr} {sp : Sp} {E : XK} {x : Str} {p pos : Pos} {e : Expr} {es : List Expr} {t : TA} (F : FnR X.prog X.w X.K X.mg X.base CX k f sp) (hr : Room k X.A) (hg : Gl X x) (hm : X.mg x = some (.ref f)) (hk : PySem.W.keepIn X.K (.ref f) = true) (hx : Passes CX X E)
    (ha : PA X (e :: es) t) (hdb : (x == ("__debug__" : Str)) = false := by decide) (he : starEach (e :: es) X.env = (false, eval e X.env) :: starEach es X.env := by rfl) (hpl : (backTo pos (starEach es X.env)).any (·.1) = false := by rfl) :
    PE X (.Call (.Name x p) (e :: es) [] pos) (fun σ H Q => t σ H fun vs H1 => sp vs H1 Q E) := by
  refine ⟨fun pins s σ H Q I h => ?_⟩
  refine PySem.wpAny_Call_Name_kw (ld_glob I hg hm ?_ hdb)
  refine PySem.W.callWith_K (h₀ := X.base) I.ok.mod.kin hk (thn (ha.run pos pins s σ H _ I h) fun us s1 ⟨vs, H1, I1, r, q⟩ => ⟨I1.kIn, ?_⟩) he hpl
  exact PySem.wpAny_call (run_fnR F hr hx I1 r q)
theorem pe_callN0 {CX : CXT} {k : Nat} {f : Addr} {sp : Sp} {E : XK} {x : Str} {p pos : Pos} (F : FnR X.prog X.w X.K X.mg X.base CX k f sp) (hr : Room k X.A) (hg : Gl X x) (hm : X.mg x = some (.ref f)) (hk : PySem.W.keepIn X.K (.ref f) = true) (hx : Passes CX X E)
    (hdb : (x == ("__debug__" : Str)) = false := by decide) : PE X (.Call (.Name x p) [] [] pos) (fun σ H Q => sp [] H Q E) := by
  refine ⟨fun pins s σ H Q I h => ?_⟩
  refine PySem.wpAny_Call_Name_kw (ld_glob I hg hm ?_ hdb)
  exact PySem.W.callWith_K0 I.kIn hk (PySem.wpAny_call (run_fnR F hr hx I .nil h))
end
theorem w_divZ {i j : Int} {b : Nat} (h : j ≠ 0) (hb : j.natAbs < 2 ^ b) (h9 : b ≤ 8999) : CDivZ i j :=
  ⟨h, Nat.lt_of_lt_of_le (PySem.Flt.log2_lt_of (show 0 < b + 1 by omega) (Nat.lt_of_lt_of_le hb (RM.pow_le (show b ≤ b + 1 by omega)))) (by omega)⟩
section
variable {P : Program} {w : World} {K : PySem.W.Frag} {mg : Str → Option Value} {base : Heap} {A : Ad}
def spGcdP : Sp := fun vs H Q _ => ∃ (a b : Int), vs = [.int a, .int b] ∧ Q (.int ((Int.gcd a b : Nat) : Int)) H
theorem gcd_abs (a b : Int) : Int.gcd ((a.natAbs : Nat) : Int) ((b.natAbs : Nat) : Int) = Int.gcd a b := by
  unfold Int.gcd
  rw [Int.natAbs_natCast, Int.natAbs_natCast]
theorem ok_common_divisor (T : Txt K mg A) : FnOk P w K mg base CX0 1 A.f_common_divisor A.fd_common_divisor ["one", "other"] spGcdP := by
  refine T.d_common_divisor.F.ok sc_common_divisor (fun vs H Q E h => ?_) (fun cdv ar outer s H vs Q E hr h => ?_)
  · obtain ⟨a, b, rfl, _⟩ := h
    rfl
  obtain ⟨a, b, rfl, q⟩ := h
  refine ⟨_, (pss_cons (ps_par (i := 0) (j := 1) (by rfl) sc_common_divisor.nd rfl rfl (by decide) rfl rfl (pa_cons (pe_callB call_abs (by rfl) T.abs (by decide +kernel) (pa_cons (pv 0) pa_nil)) (pa_cons (pe_callB call_abs (by rfl) T.abs (by decide +kernel) (pa_cons (pv 1) pa_nil)) pa_nil)) (by rfl))
    (pss_cons (ps_while PassesOwn.never (pt_truth (pv 1) (by intro _; rfl)) (pss_one (ps_par (i := 0) (j := 1) (by rfl) sc_common_divisor.nd rfl rfl (by decide) rfl rfl (pa_cons (pv 1) (pa_cons (pe_op op_mod (pv 0) (pv 1)) pa_nil)) (by rfl))))
    (pss_one (ps_ret (pv 0))))), ?_⟩
  refine ⟨_, rfl, _, rfl, _, rfl, _, rfl, _, _, rfl, ?_⟩
  dsimp only
  refine while_by (fun σ H' => H' = H ∧ ∃ x y : Int, σ = [some (.int x), some (.int y)] ∧ 0 ≤ x ∧ 0 ≤ y ∧ Int.gcd x y = Int.gcd a b) (fun σ _ => match σ with | [_, some (.int y)] => y.toNat | _ => 0)
    ⟨rfl, (if a < 0 then -a else a), (if b < 0 then -b else b), rfl, by rw [abs_is]; omega, by rw [abs_is]; omega, by rw [abs_is, abs_is, gcd_abs]⟩ ?_ ?_
  case refine_2 => exact fun σ H Q Q' m ⟨v, e, k, h1, h2⟩ => ⟨v, e, k, h1, m _ _ h2⟩
  rintro σ _ ⟨rfl, x, y, rfl, hx, hy, hg⟩
  refine ⟨_, rfl, (y != 0), rfl, ?_⟩
  by_cases h0 : y = 0
  · subst h0
    refine iteF ⟨_, rfl, ?_⟩
    have e : x = ((Int.gcd x 0 : Nat) : Int) := by rw [Int.gcd_zero]; omega
    rw [e, hg]
    exact q
  · have d0 : (y != 0) = true := by simp [h0]
    rw [d0]
    refine iteT ⟨_, rfl, _, rfl, _, rfl, _, _, rfl, rfl, (by show 0 < y; omega), _, _, rfl, ?_⟩
    have hm := Int.emod_nonneg x h0
    have hl := Int.emod_lt_of_pos x (show 0 < y by omega)
    refine ⟨⟨rfl, y, x % y, rfl, hy, hm, by rw [RM.gcd_step]; exact hg⟩, ?_⟩
    show (x % y).toNat < y.toNat
    omega
end

def spNumber : Sp := fun vs H Q _ => ∃ n : Int, vs = [.int n] ∧ Q (.bl true) H
/-- a fraction in lowest terms -/
def frP : List Int → Bool
  | [a, b] => decide (0 < b) && decide (Int.gcd a b = 1)
  | _ => false
def spIsFr : Sp := fun vs H Q _ => ∃ (p : Addr) (xs : List Int), vs = [.ref p] ∧ H p = some (.tup (xs.map V.int)) ∧ xs.length ≤ 100 ∧ ∀ H', Same H H' → Q (.bl (frP xs)) H'
section
variable {P : Program} {w : World} {K : PySem.W.Frag} {mg : Str → Option Value} {base : Heap} {A : Ad}
theorem ok_is_number (T : Txt K mg A) : FnOk P w K mg base CX0 1 A.f_is_number A.fd_is_number ["value"] spNumber := by
  refine T.d_is_number.F.ok sc_is_number (fun vs H Q E h => ?_) (fun cdv ar outer s H vs Q E hr h => ?_)
  · obtain ⟨n, rfl, _⟩ := h
    rfl
  obtain ⟨n, rfl, q⟩ := h
  refine ⟨_, (pss_one (ps_ret (pe_and (pe_callB (r := rIsi K) call_isi (by rfl) T.isinstance (by decide +kernel) (pa_cons (pv 0) (pa_cons (pe_bltn (v := .ty "int") (u := .type "int") (by rfl) T.int (by decide +kernel) rfl) pa_nil))) (pe_one (pe_not (pe_callB (r := rIsi K) call_isi (by rfl) T.isinstance (by decide +kernel) (pa_cons (pv 0) (pa_cons (pe_bltn (v := .ty "bool") (u := .type "bool") (by rfl) T.bool (by decide +kernel) rfl) pa_nil)))))))), ?_⟩
  have ty : ∀ H, TyX K H (.int n) (.type "int") := fun _ => .base (.int n)
  refine ⟨_, rfl, _, _, _, _, _, rfl, .ty _, ty _, kit_ty (by decide +kernel : kitB "int" "int" = some true), _, rfl, iteT ?_⟩
  exact ⟨_, rfl, _, _, _, _, _, rfl, .ty _, ty _, kit_ty (by decide +kernel : kitB "int" "bool" = some false), _, rfl, q⟩
theorem ok_is_fraction (T : Txt K mg A) : FnOk P w K mg base CX0 3 A.f_is_fraction A.fd_is_fraction ["value"] spIsFr := by
  refine T.d_is_fraction.F.ok sc_is_fraction (fun vs H Q E h => ?_) (fun cdv ar outer s H vs Q E hr h => ?_)
  · obtain ⟨p, xs, rfl, _⟩ := h
    rfl
  obtain ⟨p, xs, rfl, hp, hl, q⟩ := h
  have hlen : (xs.map V.int).length = xs.length := List.length_map ..
  refine ⟨_, (pss_cons (ps_if (PW.pt (pw_or (pt_cmpR op_ne (pe_callB (r := rLenK K) call_len_seq (by rfl) T.len (by decide +kernel) (pa_cons (pv 0) pa_nil)) pe_int (nomark _)) (pw_or1 (pt_not (pt_val (pe_callB (r := rAll K) (cr_all rfl) (by rfl) T.all (by decide +kernel) (pa_cons (pe_lc (own := [("item", 3)]) (g := gName 3) (tt := tYes) rfl sc_is_fraction.nd (pi_tup (pv 0)) (blkOk_by (own := [("item", 3)]) (N := ["value", "numerator", "denominator", "item"]) (sc := defScope s_is_fraction) (by decide +kernel)) (fun _ _ _ _ _ => (pg_name (i := 3) sc_is_fraction.nd rfl (Or.inl rfl))) (fun _ _ _ _ _ => pts_nil) (fun _ _ _ _ _ => (pe_call (ok_is_number T) (hr.mono (by decide)) rfl T.d_is_number.m T.d_is_number.F.kp T.d_is_number.b .nil pass0 (pa_cons (pv 3) pa_nil)))) pa_nil))))))) (pss_one (ps_ret pe_bl)) pss_nil)
    (pss_cons (ps_asg (pv 0) (pg_tup rfl (pgs_cons (pg_name (i := 1) sc_is_fraction.nd rfl (Or.inl rfl)) (pgs_cons (pg_name (i := 2) sc_is_fraction.nd rfl (Or.inl rfl)) pgs_nil))))
    (pss_one (ps_ret (pe_and (pe_cmpR op_gt (pv 2) pe_int (nomark _)) (pe_one (pe_cmpR op_eq (pe_call (ok_common_divisor T) (hr.mono (by decide)) rfl T.d_common_divisor.m T.d_common_divisor.F.kp T.d_common_divisor.b .nil pass0 (pa_cons (pv 1) (pa_cons (pv 2) pa_nil))) pe_int (nomark _)))))))), ?_⟩
  refine ⟨_, rfl, p, _, rfl, .inr (SqT.of hp), rfl, _, rfl, ?_⟩
  rw [hlen]
  by_cases h2 : xs.length = 2
  · have d2 : decide (V.int ((xs.length : Nat) : Int) = V.int (2 : Int)) = true := decide_eq_true (by rw [h2]; rfl)
    rw [d2]
    refine iteF ?_
    refine ⟨_, rfl, p, rfl, ⟨_, SqT.of hp⟩, fun D hD => ?_⟩
    refine lc_tup (K := K) (xs := xs.map V.int) (fun i H' => Same H H' ∧ H' D = some (.lst (List.replicate i (V.bl true)))) ⟨Same.new hD _, upd_same⟩ (fun i H' _ h => SqT.of (h.1 _ _ hp)) ?_ ?_
    · rintro i x H' hi ⟨e, hD'⟩
      obtain ⟨u, rfl⟩ := int_at hi
      have : i < (xs.map V.int).length := (List.getElem?_eq_some_iff.mp hi).1
      refine ⟨rfl, ⟨_, rfl, u, rfl, _, hD', by rw [List.length_replicate]; exact sl_lt (by omega), e.set hD _, ?_⟩⟩
      rw [upd_same, List.replicate_succ']
    rintro H1 ⟨e, hD'⟩
    rw [hlen, h2] at hD'
    refine ⟨D, List.replicate 2 true, rfl, SqL.of (by rw [hD']; rfl), _, rfl, iteF ?_⟩
    match xs, hp, q, h2 with
    | [a, b], hp, q, _ =>
      refine ⟨_, rfl, p, _, rfl, SqT.of (e _ _ hp), rfl, _, _, rfl, _, _, rfl, rfl, ?_⟩
      have q := q H1 e
      refine ⟨_, rfl, _, _, rfl, rfl, _, rfl, ?_⟩
      have gq : decide (V.int ((Int.gcd a b : Nat) : Int) = V.int (1 : Int)) = decide (Int.gcd a b = 1) := decide_eq_decide.mpr ⟨fun z => by injection z with z; omega, fun z => by rw [z]; rfl⟩
      have q1 : Q (.bl (decide (0 < b) && decide (Int.gcd a b = 1))) H1 := q
      refine ite2 (fun c => ?_) (fun c => ?_)
      · rw [c, Bool.true_and] at q1
        refine ⟨_, rfl, _, rfl, a, b, rfl, rfl, ?_⟩
        rw [gq]
        exact q1
      · rw [Bool.eq_false_iff.mpr c, Bool.false_and] at q1
        exact q1
  · have d2 : decide (V.int ((xs.length : Nat) : Int) = V.int (2 : Int)) = false := decide_eq_false (fun z => h2 (by injection z with z; omega))
    rw [d2]
    have e : frP xs = false := by
      match xs, h2 with
      | [], _ => rfl
      | [_], _ => rfl
      | [_, _], h2 => exact absurd rfl h2
      | _ :: _ :: _ :: _, _ => rfl
    have q1 := q H (Same.refl H)
    rw [e] at q1
    exact iteT (iteT q1)
end

-- CUT
/-! ## Errors of the program's own: made by the __init__ of the class above, raised, caught by one of two classes, their fields read -/
namespace EX
open PySem PySem.Spec PyProof.Rows L2
section
variable {X : Cx} {e : Expr} {es : List Expr} {ta : TA} {p p1 p2 pos : Pos}
/-- C.m(e, ..), m a def of the class C -/
theorem pe_indef {CX : CXT} {x m : Str} {C g : Addr} {mc : Value} {k : Nat} {fd : FuncData} {ps : List Str} {sp : Sp} {E : XK} {ds : List Value} {dvs : List V} {pl : Sem Bool} (r : ClX.CRead X.K C mc) (c : ClX.CVal X.K C mc m (.ref g) (.ref g))
    (hk : PySem.W.keepIn X.K (.ref g) = true) (F : FnOk X.prog X.w X.K X.mg X.base CX k g fd ps sp) (hr : Room k X.A) (hb : Binds X.K fd ps ds) (hd : Vals dvs ds) (hx : Passes CX X E) (hg : Gl X x) (hm : X.mg x = some (.ref C)) (ha : PA X (e :: es) ta)
    (hdb : (x == ("__debug__" : Str)) = false := by decide)
    (hc : eval (.Call (.Attribute (.Name x p1) m p2) (e :: es) [] pos) X.env = (do
      let ov ← eval (.Name x p1) X.env
      standAt p2.atName
      let (f, first) ← holding [ov] (getMethod ov m pl)
      callWith pos f first (backTo pos (starEach (e :: es) X.env)) (backToKw pos (keywordEach [] X.env))) := by rfl)
    (he : starEach (e :: es) X.env = (false, eval e X.env) :: starEach es X.env := by rfl) (hpl : (backTo pos (starEach es X.env)).any (·.1) = false := by rfl) :
    PE X (.Call (.Attribute (.Name x p1) m p2) (e :: es) [] pos) (tCall sp dvs E ta) := by
  refine ⟨fun pins s σ H Q I h => ?_⟩
  refine PySem.W.methodCall_KW (ld_glob I hg hm ?_ hdb) hc
  refine PySem.W.method_cls I.kIn r.ga (ClX.getcval_ok I r c fun s1 I1 => ?_)
  refine PySem.W.callWith_K (h₀ := X.base) I1.ok.mod.kin hk (thn (ha.run pos pins s1 σ H _ I1 h) fun us s2 ⟨vs, H2, I2, rv, q⟩ => ⟨I2.kIn, ?_⟩) he hpl
  exact run_fn F hr hb hd hx I2 rv q
/-- C(), C's __init__ keeping sp -/
def tMk0 (C : Addr) (sp : Sp) : L2.St → Hp → XK → Prop := fun _ H Q => ∀ a, H a = none → sp [.ref a] (upd H a (exo a C none))
  (fun v H2 => v = .non ∧ ∃ (d : Addr) (fs : List (Str × V)), H2 a = some (exo a C (some d)) ∧ H2 d = some (exd d fs) ∧ H d = none ∧ Q (.ref C) (some d) (upd (del H2 a) d (.xd fs))) (fun _ _ _ => False)
theorem pmk_own0 {CX : CXT} {x : Str} {C fI : Addr} {k : Nat} {fd : FuncData} {ps : List Str} {sp : Sp} (T : OexC X.K C) (iC : PySem.W.findIn X.K (.ref C) "__init__" = some (some (.ref fI))) (tI : PySem.W.typeIn X.K (.ref fI) = some (.type "function"))
    (F1 : FnOk X.prog X.w X.K X.mg X.base CX k fI fd ps sp) (hr : Room (k + 1) X.A) (hb : Binds X.K fd ps []) (hx : Passes CX X (fun _ _ _ => False)) (hg : Gl X x) (hm : X.mg x = some (.ref C)) (hdb : (x == ("__debug__" : Str)) = false := by decide) :
    PMk X (.Call (.Name x p) [] [] pos) (tMk0 C sp) := by
  intro pins s σ H Q I h
  obtain ⟨nm, q, N, bs, bm, sn, sub, ab, col, dd, k0, k1, k2, k3, k5, hC, hbm⟩ := T.cls
  refine wpAny_Call_Name_kw (ld_glob I hg hm ?_ hdb)
  refine PySem.W.callWith_K0 I.kIn T.kC ?_
  obtain ⟨hp, g, dr, tk, os⟩ := s
  have up : hp.objs.size ≤ hp.objs.size + 1 := Nat.le_succ _
  have free : H (hp.objs.size + 1) = none := I.hok.fresh up
  have hq := h (hp.objs.size + 1) free
  have kk : ∀ b o, hp.get? b = some o → ((hp.push (PySem.W.kdv_tup [])).push (PySem.HandSPX.excO C hp.objs.size)).get? b = some o := fun b o z => Heap.get?_push_of_some _ (Heap.get?_push_of_some _ z)
  have here : ((hp.push (PySem.W.kdv_tup [])).push (PySem.HandSPX.excO C hp.objs.size)).get? (hp.objs.size + 1) = some (PySem.HandSPX.excO C hp.objs.size) := by heap_get
  have J : Inv X pins σ (upd H (hp.objs.size + 1) (exo (hp.objs.size + 1) C none)) ⟨(hp.push (PySem.W.kdv_tup [])).push (PySem.HandSPX.excO C hp.objs.size), g, dr, tk, os⟩ := I.laid (t' := tk) kk up (exo_ok here)
  have one : (1 : Nat) = ps.length := F1.len _ _ _ _ hq
  refine wpAny_call (PySem.HandSPX.call_own F.excBase_ValueError (fun Y => PySem.HandSPX.refsVE_contains Y bm hbm) (I.kIn _ _ hC) (PySem.W.looks_findIn I.kIn iC) (fun self => PySem.W.bind_fn I.kIn self tI) (Nat.zero_le _)
    (codeAny_mono (F1.run _ X.stack _ _ ⟨[Value.ref (hp.objs.size + 1)], []⟩ [Value.ref (hp.objs.size + 1)] [V.ref (hp.objs.size + 1)] _ (fun _ _ _ => False) (hr.make C [] []) (J.env0.make C [] []) ?_ (.cons rfl .nil) hq) fun r s' hq' => ?_))
  · exact hb _ [Value.ref (hp.objs.size + 1)] J.kIn (by simpa using one)
  cases r with
  | error er => exact hx pins σ _ _ er s' J hq'
  | ok fl =>
    cases fl with
    | ret u =>
      obtain ⟨v, H2, os2, bare2, un2, hok2, rv, ev, d, fs, ea, ed, hd1, q2⟩ := hq'
      subst ev
      obtain ⟨h2, g2, d2, t2, os'⟩ := s'
      exact ⟨rv, mk_end (raises_own T.exC T.tyC) I up kk un2 hok2 os2 bare2 ea ed hd1 q2⟩
    | next => exact False.elim hq'
    | brk => exact False.elim hq'
    | cont => exact False.elim hq'
/-- e.f, e the exception that the context bears -/
theorem pe_field {a C : Addr} {oe : Obj} {cls : Value} {d : Option Addr} {te : TE} {n : Str} (T : XfC X.K C) (hno : PySem.W.findIn X.K (.ref C) n = some none) (hz : Zc cls d oe) (hf : ∃ vs, oe.data = .fields vs) (hp : (a, oe) ∈ X.pn) (he : PE X e te)
    (hb : attributeBase e n X.env (eval e X.env) = eval e X.env := by rfl) : PE X (.Attribute e n pos) (tXf a cls d C n te) := by
  refine ⟨fun pins s σ H Q I h => attr_of hb (thn (he.run pins s σ H _ I h) fun u s1 hh => ?_)⟩
  obtain ⟨x, H1, I1, rx, ex, ec, dd, fs, v, ed, ea, l, q⟩ := hh
  subst ex ec ed
  cases rx
  have at_ := (I1.pin (a, oe) (List.mem_append_left _ hp)).1
  obtain ⟨vs, hd⟩ := hf
  have hx : ObjOk X.prog X.w H1 s1.heap dd (.xd fs) := I1.hok dd _ ea
  obtain ⟨mA, hns, hr⟩ := hx
  obtain ⟨od, ho, hl⟩ := lookIn_ns hns
  obtain ⟨u, hu, ru⟩ := RelO.some_of (v := v) (o := mA n) (by rw [← l]; exact hr n)
  have J : PySem.W.InstAt s1.heap a oe C (some od) := by
    refine ⟨at_, hz.1, ?_, by rw [hz.2]; exact ho⟩
    unfold PySem.W.notCls
    rw [hd]
  exact HandSPX.exc_get I1.kIn J T.ga T.gg T.exC (PySem.W.findObj_own T.hdC hno rfl (by rw [hl, hu])) (handed_of ru) ⟨v, H1, I1.tok _, ru, q⟩
end
end EX

/-! ## except (x1, x2) as n, and a def called there -/
namespace EX
open PySem PySem.Spec PyProof.Rows L2
/-- what the clause wishes: one of the two classes fits, and the suite's reading -/
def wTwo (K : PySem.W.Frag) (c1 c2 : Value) (i : Nat) (ts : Addr → Value → Option Addr → TS) (D : Ends) : WX := fun cls d σ H =>
  PySem.W.exmAny K cls [c1, c2] = some true ∧ ∀ a, H a = none → i < σ.length →
    ts a cls d { nx := fun σ' H' => D.nx (σ'.set i none) H', rt := D.rt, bk := fun σ' H' => D.bk (σ'.set i none) H', ct := fun σ' H' => D.ct (σ'.set i none) H' } (σ.set i (some (.ref a))) H
theorem up_push {h h3 : Heap} (k : h.UpToSlots h3) (o : Obj) : h.UpToSlots (h3.push o) := fun b u e n => by
  obtain ⟨sl, q⟩ := k b u e n
  exact ⟨sl, Heap.get?_push_of_some _ q⟩
theorem fly_push {B h : Heap} {l : List Env} {e : Addr} {Z : Obj → Prop} (f : HandSPX.FlyingZ B l e Z h) (o : Obj) : HandSPX.FlyingZ B l e Z (h.push o) := by
  obtain ⟨k1, k2, k3, oe, vs, T, oT, ts, he, hz, hd, h1, hnT, hTe, hT, hdT, h3⟩ := f
  exact ⟨fun b u z => Heap.get?_push_of_some _ (k1 b u z), k2, k3.of_keeps fun b u z _ => ⟨u, Heap.get?_push_of_some _ z, rfl⟩, oe, vs, T, oT, ts, Heap.get?_push_of_some _ he, hz, hd, h1, hnT, hTe, Heap.get?_push_of_some _ hT, hdT, h3⟩
section
variable {X : Cx} {x1 x2 n : Str} {c1 c2 : Addr} {i kk : Nat} {body suite : List Stmt} {b₀ : Stmt} {np1 np2 tp pos pos' : Pos} {tb : WX → TS} {ts : Addr → Value → Option Addr → TS}
theorem ps_try_two (hs : X.stack = X.env :: X.outer) (hf : X.env.frame = some X.env.locals) (hN : X.N.Nodup) (hi : X.N[i]? = some n) (hln : X.env.kindOf n = some .local)
    (hg1 : Gl X x1) (hm1 : X.mg x1 = some (.ref c1)) (hd1 : (x1 == ("__debug__" : Str)) = false) (hg2 : Gl X x2) (hm2 : X.mg x2 = some (.ref c2)) (hd2 : (x2 == ("__debug__" : Str)) = false)
    (hb : ∀ (W : WX) (pn : List (Addr × Obj)) (xe : Value → Shared → Prop), Takes (X.tr pn xe) W → PassesOwn (model X.prog X.w) X.A X.env xe → PSs (X.tr pn xe) body (tb W))
    (hsu : ∀ (a : Addr) (oe : Obj) (cls : Value) (d : Option Addr) (pn : List (Addr × Obj)), Zc cls d oe → (∃ vs, oe.data = .fields vs) → PSs (X.suite a ((a, oe) :: pn)) (b₀ :: suite) (ts a cls d)) :
    PS X (.Try body [.ExceptHandler (some (.Tuple [.Name x1 np1, .Name x2 np2] kk tp)) (some n) (b₀ :: suite) pos'] [] [] pos) (fun D σ H => tb (wTwo X.K (.ref c1) (.ref c2) i ts D) D σ H) := by
  refine ⟨fun pins s σ H D I h => ?_⟩
  have ok := I.ok
  have hfr : X.A.frames = some (X.env :: X.outer) := by rw [ok.frames, hs]
  refine wpAny_Try_except ?_
  refine wpAny_mono ((hb (wTwo X.K (.ref c1) (.ref c2) i ts D) (X.pn ++ pins) (fun e t1 => wpAny (model X.prog X.w) X.A (noteFrame e X.env) (fun _ t2 => wpAny (model X.prog X.w) X.A (setFlight e none) (fun _ t3 =>
    wpAny (model X.prog X.w) X.A (handleBy e X.env [.ExceptHandler (some (.Tuple [.Name x1 np1, .Name x2 np2] kk tp)) (some n) (b₀ :: suite) pos']) (SP X pins D) X.xe t3) X.xe t2) X.xe t1) (fun u s' xx => ?_) PassesOwn.looking).run [] s σ H D (I.toTry _) h) (fun f s1 hsp => ?_) (fun e s1 he => he)
  · obtain ⟨a, B, sI, pins', σ', H', cls, d, rfl, J', nb, up, sky, na, os, ag, hx, hyes⟩ := xx
    have J : Inv X pins σ' H' sI := J'.ofTry ok
    have sky' : Sky B (X.env :: X.outer) a (Zc cls d) X.env.locals s'.heap := by rw [← hs]; exact sky
    show wpAny (model X.prog X.w) X.A (noteFrame (.ref a) X.env) _ _ _
    refine Sky.land Zc.steady hfr hf sky' fun h3 fl3 up3 => ?_
    have J3 : Inv X pins σ' H' { s' with heap := h3 } := J.landed nb fl3.1 (up.trans up3) os ag
    obtain ⟨oe3, vs3, he3, hz3, hd3⟩ := fl3.there
    have apart : ∀ {h : Heap} {o : Obj} {vs : Array Value}, h.FunFrames B (X.env :: X.outer) → h.get? a = some o → o.data = .fields vs → a ∉ frs (X.env :: X.outer) := fun {h o vs} ff e dd hm => by
      obtain ⟨_, o', e', hnf⟩ := ff.mem hm
      rw [e] at e'
      cases e'
      exact hnf _ dd
    have nfr := apart fl3.2.2.1 he3 hd3
    have nL : a ≠ X.env.locals := fun z => nfr (List.mem_filterMap.mpr ⟨X.env, List.mem_cons_self, by rw [hf, z]⟩)
    have nF : a ∉ X.fs := fun hm => by
      obtain ⟨e, he, q⟩ := List.mem_filterMap.mp hm
      exact nfr (List.mem_filterMap.mpr ⟨e, List.mem_cons_of_mem _ he, q⟩)
    have S3 := J3.suite he3 hd3 na nL nF
    refine wpAny_handleBy_cons (codeAny_handlers_test ?_) (by intro q; cases q)
    refine wpAny_Tuple_spliced (Calls.spliced_cons (ld_glob (X := X.suite a ((a, oe3) :: (X.pn ++ pins))) S3 hg1 hm1 (Calls.spliced_cons (ld_glob (X := X.suite a ((a, oe3) :: (X.pn ++ pins))) S3 hg2 hm2 (Calls.spliced_nil ⟨by show 2 ≤ sizeLine; decide, ?_⟩) hd2)) hd1))
    have fl4 := fly_push fl3 { cls := .type "tuple", data := .seq [Value.ref c1, Value.ref c2].toArray }
    have up4 := up_push up3 { cls := .type "tuple", data := .seq [Value.ref c1, Value.ref c2].toArray }
    have ht := Heap.get?_push_size h3 (o := { cls := .type "tuple", data := .seq [Value.ref c1, Value.ref c2].toArray }) rfl
    generalize h3.push { cls := .type "tuple", data := .seq [Value.ref c1, Value.ref c2].toArray } = h4 at fl4 up4 ht
    obtain ⟨oe4, vs4, he4, hz4, hd4⟩ := fl4.there
    have J4 : Inv X pins σ' H' { s' with heap := h4 } := J.landed nb fl4.1 (up.trans up4) os ag
    have LT : PySem.W.Looks (model X.prog X.w) h4 (typeOf (.ref a)) cls := fun A Q E s k q => wpAny_typeOf_ref (k _ _ he4) (by rw [hz4.1]; exact q)
    have LM := PySem.W.exm_tup2 (M := model X.prog X.w) J4.kIn LT ht hx
    refine LM.here ?_
    refine codeAny_handlers_suite_as ?_
    refine HandSPX.lands_againZ fl4 fun h5 fl5 up5 => ?_
    have J5 : Inv X pins σ' H' { s' with heap := h5 } := J.landed nb fl5.1 ((up.trans up4).trans up5) os ag
    obtain ⟨oe5, vs5, he5, hz5, hd5⟩ := fl5.there
    have S5 := J5.suite he5 hd5 na nL nF
    refine store_ok (X := X.suite a ((a, oe5) :: (X.pn ++ pins))) (v := .ref a) S5 hN hi (.inl hln) rfl (fun s6 S6 => ?_) (.inr hln)
    refine wpAny_mono ((hsu a oe5 cls d (X.pn ++ pins) hz5 ⟨_, hd5⟩).run [] s6 _ H' _ S6 (hyes a na (by rw [J.len]; exact (List.getElem?_eq_some_iff.mp hi).1))) (fun f s7 hsp => ?_) (fun _ _ z => False.elim z)
    have fin : ∀ {σ7 : L2.St} {H7 : Hp} {Q : Shared → Prop}, Inv (X.suite a ((a, oe5) :: (X.pn ++ pins))) [] σ7 H7 s7 → (∀ s8, Inv X pins (σ7.set i none) H7 s8 → Q s8) →
        wpAny (model X.prog X.w) X.A (do bindName X.env n .none; unbindBehindTheSuite X.env n pos') (fun _ s8 => Q s8) X.xe s7 := fun {σ7 H7 Q} S7 hq => gone_ok (S7.unsuite ok) hN hi hln hq
    cases f with
    | next =>
      obtain ⟨σ7, H7, S7, q7⟩ := hsp
      exact fin S7 fun s8 J8 => ⟨_, _, J8, q7⟩
    | brk =>
      obtain ⟨σ7, H7, S7, q7⟩ := hsp
      exact fin S7 fun s8 J8 => ⟨_, _, J8, q7⟩
    | cont =>
      obtain ⟨σ7, H7, S7, q7⟩ := hsp
      exact fin S7 fun s8 J8 => ⟨_, _, J8, q7⟩
    | ret u =>
      obtain ⟨v7, σ7, H7, S7, r7, q7⟩ := hsp
      exact fin S7 fun s8 J8 => ⟨_, _, _, J8, r7, q7⟩
  · cases f with
    | next =>
      obtain ⟨σ1, H1, J1, q1⟩ := hsp
      exact wpAny_execs_nil ⟨_, _, J1.ofTry ok, q1⟩
    | brk =>
      obtain ⟨σ1, H1, J1, q1⟩ := hsp
      exact ⟨_, _, J1.ofTry ok, q1⟩
    | cont =>
      obtain ⟨σ1, H1, J1, q1⟩ := hsp
      exact ⟨_, _, J1.ofTry ok, q1⟩
    | ret u =>
      obtain ⟨v1, σ1, H1, J1, r1, q1⟩ := hsp
      exact ⟨_, _, _, J1.ofTry ok, r1, q1⟩
end
end EX

/-! ## A def called in the suite, which gets the caught error -/
namespace EX
open PySem PySem.Spec PyProof.Rows L2
section
variable {X : Cx} {k : Nat} {f : Addr} {name qual : Str} {params : Arguments} {body : List Stmt} {scope : Scope} {dV kV doc pm cdv ct oc : Value} {an od : Option Addr} {osl : Array (Option Value)} {N ps : List Str} {pr : Addr × Obj}
theorem pe_callP {x : Str} {e : Expr} {es : List Expr} {ta : TA} {t : TS} {q pos : Pos} (lk : X.K.lookup f = some ⟨oc, od, .func (PySem.W.fnOf name qual params body scope dV kV doc pm an cdv ct), osl⟩) (hcd : PySem.W.codeIn X.K cdv qual = true) (S : FnScope N ps scope)
    (hb : L2.Binds X.K (PySem.W.fnOf name qual params body scope dV kV doc pm an cdv ct) ps []) (hr : L2H.RoomH (k + 1) X.A) (hp : pr ∈ X.pn) (hg : Gl X x) (hm : X.mg x = some (.ref f)) (hk : PySem.W.keepIn X.K (.ref f) = true)
    (hbody : ∀ (A : Around) (outer : List Env) (s : Shared) (H : Hp), L2H.RoomH k (A.deeper (envOfC qual scope s.heap.objs.size f cdv)) → PSs (L2H.cxH C8.CX0 X.prog X.w X.K X.mg X.base N qual scope f cdv A outer s H C8.E0 pr) body t)
    (ha : PA X (e :: es) ta) (hdb : (x == ("__debug__" : Str)) = false := by decide) (he : starEach (e :: es) X.env = (false, eval e X.env) :: starEach es X.env := by rfl) (hpl : (backTo pos (starEach es X.env)).any (·.1) = false := by rfl) :
    PE X (.Call (.Name x q) (e :: es) [] pos) (fun σ H Q => ta σ H fun vs H1 => vs.length = ps.length ∧ t { nx := fun _ H' => Q .non H', rt := Q } (L2.start N vs) H1) := by
  refine ⟨fun pins s σ H Q I h => wpAny_Call_Name_kw (ld_glob I hg hm ?_ hdb)⟩
  refine PySem.W.callWith_K (h₀ := X.base) I.ok.mod.kin hk (thn (ha.run pos pins s σ H _ I h) fun us s1 ⟨vs, H1, I1, rv, hl, q⟩ => ⟨I1.kIn, ?_⟩) he hpl
  have hlu : us.length = ps.length := by rw [← rv.length]; exact hl
  have b := hb s1 us I1.kIn (by rw [List.append_nil]; exact hlu)
  rw [List.append_nil] at b
  have P1 := I1.pin pr (List.mem_append_left _ hp)
  have hpin : L2H.PinOk X.stack H1 s1 pr := ⟨P1.1, P1.2.1, fun hm => (List.mem_cons.mp (I1.stkSub pr.1 hm)).elim P1.2.2.1 P1.2.2.2.1, P1.2.2.2.2⟩
  have lim : s1.heap.NoLimit := I1.nolimit
  have hkind : ∀ y ∈ ps.zip us, scope.names.lookup y.1 = some .local ∨ (scope.names.lookup y.1 = some .cell ∧ ((cellsFrom (s1.heap.objs.size + 1) scope.names []).lookup y.1).isSome = true) := fun ⟨n, v⟩ hy => by
    rcases S.par n (List.of_mem_zip hy).1 with z | z
    · exact .inl z
    · exact .inr ⟨z, PySem.W.cellsFrom_some _ _ _ (.inl z)⟩
  have run : codeAny (model X.prog X.w) X.A (.call (.ref f) ⟨us, []⟩) (CR C8.CX0 X.stack X.prog X.w H1 s1 Q C8.E0) s1 := by
    refine codeAny_call_function hr.depth (I1.kIn _ _ lk) rfl S.co S.gen rfl (PySem.W.codeRec_of I1.kIn hcd) (b _ _ _ _ ?_)
    refine wpAny_newFunctionEnv_cells S.kind hkind fun env he s2 z => ?_
    subst he
    refine ⟨lim.keeps z.toInCall.keep, codeAny_func ?_⟩
    have J := L2H.inv_startH (CX := C8.CX0) (E := C8.E0) S hpin I1.env0 hl rv z
    refine wpAny_mono ((hbody X.A X.stack s1 H1 (hr.deeper _)).run [] s2 (L2.start N vs) H1 _ J q) (fun fl s' hs => ?_) fun e s' hs => hs
    cases fl with
    | ret u =>
      obtain ⟨v, σ', H', J', rv', q'⟩ := hs
      exact ⟨v, H', J'.os, J'.bare, J'.base, J'.hok, rv', q'⟩
    | next =>
      obtain ⟨σ', H', J', q'⟩ := hs
      exact ⟨V.non, H', J'.os, J'.bare, J'.base, J'.hok, rfl, q'⟩
    | brk =>
      obtain ⟨_, _, _, z⟩ := hs
      exact False.elim z
    | cont =>
      obtain ⟨_, _, _, z⟩ := hs
      exact False.elim z
  refine wpAny_call (codeAny_mono run fun r s' hq => ?_)
  cases r with
  | error e => exact (show False from hq).elim
  | ok fl =>
    cases fl with
    | ret u => exact I1.after hq
    | next => exact False.elim hq
    | brk => exact False.elim hq
    | cont => exact False.elim hq
end
end EX

-- CUT2
/-! ## What the text holds of its errors -/
structure AdX where
  cG : Addr
  cM : Addr
  cI : Addr
  fG : Addr
  fdG : FuncData
  fI : Addr
  fdI : FuncData
structure ExT (K : PySem.W.Frag) (mg : Str → Option Value) (B : AdX) : Prop where
  gG : mg "GrainError" = some (.ref B.cG)
  gM : mg "MissingError" = some (.ref B.cM)
  gC : mg "InvalidFraction" = some (.ref B.cI)
  crG : ClX.CRead K B.cG (.type "type")
  cvG : ClX.CVal K B.cG (.type "type") "__init__" (.ref B.fG) (.ref B.fG)
  FG : FunD K "__init__" "GrainError.__init__" (defArgs s_GrainError___init__) (defBody s_GrainError___init__) (defScope s_GrainError___init__) [.str "grainerror", .str "a value is wrong"] [] B.fG B.fdG
  bG : Binds K B.fdG ["self", "word", "message"] []
  oC : OexC K B.cI
  iC : PySem.W.findIn K (.ref B.cI) "__init__" = some (some (.ref B.fI))
  tC : PySem.W.typeIn K (.ref B.fI) = some (.type "function")
  FC : Fun K "__init__" "InvalidFraction.__init__" s_InvalidFraction___init__ B.fI B.fdI
  bC : Binds K B.fdI ["self"] []
  veI : PySem.W.findCls K (.type "ValueError") (.type "type") "__init__" = some (.val (.builtin "ValueError.__init__"))
  vErr : mg "ValueError" = none
  exm : PySem.W.exmAny K (.ref B.cI) [.ref B.cG, .ref B.cM] = some true
  xf : XfC K B.cI
  noW : PySem.W.findIn K (.ref B.cI) "word" = some none
theorem EX.pe_nev {X : Cx} {e : Expr} : PE X e (fun _ _ _ => False) := ⟨fun _ _ _ _ _ _ h => h.elim⟩
/-- the object at a is given its word -/
def Worded (H : Hp) (a C d : Addr) (wd : Str) : Hp := upd (upd H d (exd d [("word", .str wd)])) a (exo a C (some d))
def spGrain (K : PySem.W.Frag) : Sp := fun vs H Q _ => ∃ (a C : Addr) (wd msg : Str), vs = [.ref a, .str wd, .str msg] ∧ OexC K C ∧ PySem.W.findIn K (.ref C) "word" = some none ∧ H a = some (exo a C none) ∧ ∀ d, H d = none → d ≠ a → Q .non (Worded H a C d wd)
def spInvalid (B : AdX) : Sp := fun vs H Q _ => ∃ (a : Addr), vs = [.ref a] ∧ H a = some (exo a B.cI none) ∧ ∀ d, H d = none → d ≠ a → Q .non (Worded H a B.cI d "invalidfraction")
/-- the error of a fraction -/
def ErrF (B : AdX) (H : Hp) (E : XK) : Prop := ∀ d H', Same H H' → H d = none → H' d = some (.xd [("word", .str "invalidfraction")]) → E (.ref B.cI) (some d) H'
def spRed (B : AdX) : Sp := fun vs H Q E => ∃ (a b : Int), vs = [.int a, .int b] ∧ b.natAbs < 2 ^ 8000 ∧ (b ≠ 0 → NewT H Q (FR (Rat.divInt a b))) ∧ (b = 0 → ErrF B H E)
section
variable {P : Program} {w : World} {K : PySem.W.Frag} {mg : Str → Option Value} {base : Heap} {A : Ad} {B : AdX}
theorem ok_init_grain (ET : ExT K mg B) : FnOk P w K mg base CX0 1 B.fG B.fdG ["self", "word", "message"] (spGrain K) := by
  refine ET.FG.ok sc_GrainError___init__ (fun vs H Q E h => ?_) (fun cdv ar outer s H vs Q E hr h => ?_)
  · obtain ⟨a, C, wd, msg, rfl, _⟩ := h
    rfl
  obtain ⟨a, C, wd, msg, rfl, T, hno, ha, q⟩ := h
  refine ⟨_, pss_cons (ps_expr (pe_veinit (by rfl) ET.vErr ET.veI (pa_cons (pv 0) (pa_cons (pv 2) pa_nil)))) (pss_one (ps_ost (pv 0) (pv 1))), ?_⟩
  refine ⟨_, rfl, _, rfl, a, C, _, rfl, by show 1 ≤ 1000; decide, T, ha, ?_⟩
  exact ⟨_, rfl, _, rfl, a, C, rfl, T, hno, .inl ⟨ha, fun d h1 h2 => q d h1 h2⟩⟩
theorem ok_init_invalid (ET : ExT K mg B) : FnOk P w K mg base CX0 2 B.fI B.fdI ["self"] (spInvalid B) := by
  refine ET.FC.ok sc_InvalidFraction___init__ (fun vs H Q E h => ?_) (fun cdv ar outer s H vs Q E hr h => ?_)
  · obtain ⟨a, rfl, _⟩ := h
    rfl
  obtain ⟨a, rfl, ha, q⟩ := h
  refine ⟨_, pss_one (ps_expr (EX.pe_indef ET.crG ET.cvG ET.FG.kp (ok_init_grain ET) (hr.mono (by decide)) ET.bG .nil pass0 (by rfl) ET.gG (pa_cons (pv 0) (pa_cons pe_str (pa_cons pe_str pa_nil))))), ?_⟩
  exact ⟨_, rfl, a, B.cI, _, _, rfl, ET.oC, ET.noW, ha, fun d h1 h2 => q d h1 h2⟩
theorem ok_reduced (T : Txt K mg A) (ET : ExT K mg B) : FnOk P w K mg base (L2.CX P w) 4 A.f_reduced A.fd_reduced ["numerator", "denominator"] (spRed B) := by
  refine T.d_reduced.F.okX sc_reduced (fun vs H Q E h => ?_) (fun cdv ar outer s H vs Q E hr h => ?_)
  · obtain ⟨a, b, rfl, _⟩ := h
    rfl
  obtain ⟨a, b, rfl, hz, q, e⟩ := h
  refine ⟨_, (pss_cons (ps_if (pt_cmpR op_eq (pv 1) pe_int (nomark _)) (pss_one (ps_raise rfl (takes_of rfl rfl rfl rfl) (EX.pmk_own0 ET.oC ET.iC ET.tC (ok_init_invalid ET) (hr.mono (by decide)) ET.bC pass0 (by rfl) ET.gC))) pss_nil)
    (pss_cons (ps_set (i := 2) sc_reduced.nd rfl (Or.inl rfl) (pe_call (ok_common_divisor T) (hr.mono (by decide)) rfl T.d_common_divisor.m T.d_common_divisor.F.kp T.d_common_divisor.b .nil pass0 (pa_cons (pv 0) (pa_cons (pv 1) pa_nil))))
    (pss_cons (ps_if (pt_cmpR op_lt (pv 1) pe_int (nomark _)) (pss_one (ps_set (i := 2) sc_reduced.nd rfl (Or.inl rfl) (pe_un un_neg (pv 2)))) pss_nil)
    (pss_one (ps_ret (pe_tup (pa_cons (pe_op op_fdivZ (pv 0) (pv 2)) (pa_cons (pe_op op_fdivZ (pv 1) (pv 2)) pa_nil)))))))), ?_⟩
  refine ⟨_, rfl, rfl, _, rfl, ?_⟩
  by_cases hb : b = 0
  · have e := e hb
    rw [decide_eq_true (by rw [hb] : V.int b = V.int 0)]
    refine iteT fun x hx => ?_
    refine ⟨x, rfl, upd_same, fun d h1 h2 => ⟨rfl, d, [("word", .str "invalidfraction")], upd_same, ?_, ?_, ?_⟩⟩
    · show Worded _ x B.cI d "invalidfraction" d = _
      unfold Worded
      rw [upd_ne h2, upd_same]
    · rw [upd_ne h2] at h1
      exact h1
    · rw [upd_ne h2] at h1
      refine e d _ (fun c u hc => ?_) h1 upd_same
      have n1 : c ≠ d := ne_of_none hc h1
      have n2 : c ≠ x := ne_of_none hc hx
      rw [upd_ne n1, del_ne n2]
      unfold Worded
      rw [upd_ne n2, upd_ne n1, upd_ne n2]
      exact hc
  have q := q hb
  have g0 : 0 < ((Int.gcd a b : Nat) : Int) := RM.gcd_posi hb
  have g1 : ((Int.gcd a b : Nat) : Int).natAbs < 2 ^ 8000 := by
    refine Nat.lt_of_le_of_lt ?_ hz
    rw [RM.nat_abs]
    exact Nat.le_of_dvd (by omega) (Int.gcd_dvd_natAbs_right ..)
  rw [decide_eq_false (fun z => hb (by injection z) : ¬ V.int b = V.int 0)]
  refine iteF ?_
  refine ⟨_, rfl, _, rfl, a, b, rfl, ?_⟩
  dsimp only [gName]
  refine seq_key (fun σ' H' => H' = H ∧ ∃ g : Int, σ' = [some (.int a), some (.int b), some (.int g)] ∧ g ≠ 0 ∧ g.natAbs < 2 ^ 8000 ∧ a.fdiv g = (Rat.divInt a b).num ∧ b.fdiv g = (((Rat.divInt a b).den : Nat) : Int)) ?_ (fun k => ?_)
  · rintro _ _ ⟨rfl, g, rfl, hg, hg2, e1, e2⟩
    refine ⟨_, rfl, _, rfl, _, _, rfl, rfl, w_divZ hg hg2 (by decide), _, rfl, _, rfl, _, _, rfl, rfl, w_divZ hg hg2 (by decide), slr rfl, fun p hp => ?_⟩
    show Q (.ref p) (upd _ p (.tup [.int (a.fdiv g), .int (b.fdiv g)]))
    rw [e1, e2]
    exact q.lay (Same.refl _) hp
  · refine ⟨_, rfl, _, _, rfl, rfl, _, rfl, ?_⟩
    refine ite2 (fun c => ?_) (fun c => ?_)
    · have c' : b < 0 := of_decide_eq_true c
      refine ⟨_, rfl, _, rfl, ?_⟩
      exact k _ _ ⟨rfl, _, rfl, by omega, by rw [Int.natAbs_neg]; exact g1, (RM.num_neg c').symm, (RM.den_neg c').symm⟩
    · have c' : ¬ b < 0 := of_decide_eq_false (Bool.eq_false_iff.mpr c)
      refine k _ _ ⟨rfl, _, rfl, by omega, g1, ?_, ?_⟩
      · rw [RM.num_pos (by omega), Int.fdiv_eq_ediv_of_dvd (Int.gcd_dvd_left ..)]
      · rw [RM.den_pos (by omega), Int.fdiv_eq_ediv_of_dvd (Int.gcd_dvd_right ..)]
end

def spNegP : Sp := fun vs H Q _ => ∃ (v : V) (x : Rat), vs = [v] ∧ IsR H v x ∧ NewT H Q (FR (-x))
section
variable {P : Program} {w : World} {K : PySem.W.Frag} {mg : Str → Option Value} {base : Heap} {A : Ad} {B : AdX}
theorem ok_neg (T : Txt K mg A) : FnOk P w K mg base CX0 1 A.f_neg A.fd_neg ["_law_p"] spNegP := by
  refine T.d_neg.F.ok sc_neg (fun vs H Q E h => ?_) (fun cdv ar outer s H vs Q E hr h => ?_)
  · obtain ⟨v, x, rfl, _⟩ := h
    rfl
  obtain ⟨_, x, rfl, ⟨p, rfl, hp⟩, q⟩ := h
  refine ⟨_, (pss_one (ps_ret (pe_tup (pa_cons (pe_op op_sub pe_int (pe_ix (r := rIxT K) ix_tup (pv 0) pe_int (fun _ _ => rfl))) (pa_cons (pe_ix (r := rIxT K) ix_tup (pv 0) pe_int (fun _ _ => rfl)) pa_nil))))), ?_⟩
  refine ⟨_, rfl, p, _, _, _, rfl, rfl, SqT.of hp, ix0, _, _, rfl, rfl, _, rfl, p, _, _, _, rfl, rfl, SqT.of hp, ix1, slr rfl, fun t ht => ?_⟩
  show Q (.ref t) (upd H t (.tup [.int (0 - x.num), .int ((x.den : Nat) : Int)]))
  rw [fr_of (x := -x) (by rw [Rat.neg_num]; omega) (by rw [Rat.neg_den])]
  exact q.lay (Same.refl H) ht
end

-- CUT3
/-! ## _law_try -/
/-- what it makes of the lambda's reading -/
def TTry (B : AdX) : (XK → Hp → VK → Prop) → Hp → VK → Prop := fun tl H Q =>
  tl (fun cls d H' => cls = .ref B.cI ∧ ∃ dd, d = some dd ∧ H' dd = some (.xd [("word", .str "invalidfraction")]) ∧ ∀ p H2, Same H' H2 → H2 p = some (.tup [.str "invalidfraction", .non]) → Q (.ref p) H2) H
    (fun v H' => ∀ p, H' p = none → Q (.ref p) (upd H' p (.tup [.str "", v])))
abbrev tryCx (X : Cx) (A : Ad) (cdg : Value) (s : Shared) (H : Hp) : Cx := (cxOf C8.CX0 X.prog X.w X.K X.mg X.base ["_law_ask", "_law_e"] "_law_try" (defScope s_try) A.f_try cdg X.A X.stack s H C8.E0).nox
section
variable {K : PySem.W.Frag} {mg : Str → Option Value} {A : Ad} {B : AdX}
theorem try_gives (T : Txt K mg A) (ET : ExT K mg B) {X : Cx} (hK : X.K = K) (hm : X.mg = mg) (hr : Room 4 X.A) (cdg : Value) (q : Str) :
    LamX.GivesTo X ["_law_ask", "_law_e"] "_law_try" (defScope s_try) A.f_try cdg (defBody s_try) "_law_ask" q (TTry B) := by
  subst hK hm
  obtain ⟨oc, od, kV, doc, pm, an, cdv, ct, osl, hfd, lk, hcd⟩ := T.d_field.F.ex
  have bf := T.d_field.b
  have gF := T.d_field.m
  have kF := T.d_field.F.kp
  rw [hfd] at lk bf
  have XF := ET.xf
  have noW := ET.noW
  intro f c' s H Q tl act hc h
  refine ⟨_, pss_one (EX.ps_try_two (X := tryCx X A cdg s H) (i := 1) (n := "_law_e") (x1 := "GrainError") (x2 := "MissingError") (c1 := B.cG) (c2 := B.cM)
      (tb := fun W D σ H => ∃ Ech : XK, (∀ cls d σ' H', Ech cls d H' → W cls d σ' H') ∧ σ[0]? = some (some (.ref f)) ∧ H c' = some (LamX.CodeO c' q) ∧ tl Ech H (fun v H' => 2 ≤ sizeLine ∧ ∀ p, H' p = none → D.rt (.ref p) (upd H' p (.tup [.str "", v]))))
      rfl rfl sc_try.nd rfl rfl (by rfl) ET.gG (by decide) (by rfl) ET.gM (by decide) (fun W pn xe tk _ => ?_)
      (fun a oe cls d pn hz hf => pss_one (ps_ret (pe_tup (pa_cons (EX.pe_field (X := (tryCx X A cdg s H).suite a ((a, oe) :: pn)) XF noW hz hf List.mem_cons_self (pv 1)) (pa_cons (EX.pe_callP (X := (tryCx X A cdg s H).suite a ((a, oe) :: pn)) (k := 0) (pr := (a, oe)) lk hcd sc_field bf (L2H.roomH_mark ((Room.deeper hr _).mono (by decide)) _) List.mem_cons_self (by rfl) gF kF (fun A' outer s H hr' => (pss_cons (ps_if (pt_cmpR (r := rIn X.K false) op_in_seq (EX.pe_field XF noW hz hf (List.mem_singleton_self _) (pv 0)) (pe_tup (pa_cons pe_str (pa_cons pe_str pa_nil))) (by with_unfolding_all rfl)) (pss_one ps_never) pss_nil)
    (pss_cons (ps_if (pt_cmpR (r := rIn X.K false) op_in_seq (EX.pe_field XF noW hz hf (List.mem_singleton_self _) (pv 0)) (pe_tup (pa_cons pe_str (pa_cons pe_str (pa_cons pe_str (pa_cons pe_str (pa_cons pe_str (pa_cons pe_str (pa_cons pe_str pa_nil)))))))) (by with_unfolding_all rfl)) (pss_one ps_never) pss_nil)
    (pss_cons (ps_if (pt_cmpR (r := rIn X.K false) op_in_seq (EX.pe_field XF noW hz hf (List.mem_singleton_self _) (pv 0)) (pe_tup (pa_cons pe_str (pa_cons pe_str pa_nil))) (by with_unfolding_all rfl)) (pss_one ps_never) pss_nil)
    (pss_cons (ps_if (pt_cmpR (r := rIn X.K false) op_in_seq (EX.pe_field XF noW hz hf (List.mem_singleton_self _) (pv 0)) (pe_tup (pa_cons pe_str (pa_cons pe_str pa_nil))) (by with_unfolding_all rfl)) (pss_one ps_never) pss_nil)
    (pss_one (ps_ret (pe_ifExp (pt_cmpR op_eq (EX.pe_field XF noW hz hf (List.mem_singleton_self _) (pv 0)) pe_str (nomark _)) EX.pe_nev pe_non)))))))) (pa_cons (pv 1) pa_nil)) pa_nil)))))), ?_⟩
  · refine ⟨fun pins s' σ H' D I h' => ?_⟩
    obtain ⟨Ech, hW, h1, h2, h3⟩ := h'
    refine PSs.run (t := tRet (tTup (tCons (tC (V.str "")) (tCons (fun σZ HZ Q => σZ[0]? = some (some (V.ref f)) ∧ HZ c' = some (LamX.CodeO c' q) ∧ tl Ech HZ Q) tNil)))) ?_ pins s' σ H' D I ⟨h1, h2, h3⟩
    exact pss_one (ps_ret (pe_tup (pa_cons pe_str (pa_cons (act W pn xe Ech _ _ tk hW) pa_nil))))
  · refine ⟨fun cls d H' => cls = .ref B.cI ∧ ∃ dd, d = some dd ∧ H' dd = some (.xd [("word", .str "invalidfraction")]) ∧ ∀ p H2, Same H' H2 → H2 p = some (.tup [.str "invalidfraction", .non]) → Q (.ref p) H2, ?_, rfl, hc, ?_⟩
    · rintro cls d σ' H' ⟨rfl, dd, rfl, hdd, q⟩
      refine ⟨ET.exm, fun a ha hl => ?_⟩
      have hs : (σ'.set 1 (some (V.ref a)))[1]? = some (some (V.ref a)) := by simp [hl]
      refine ⟨_, hs, rfl, rfl, dd, _, _, rfl, hdd, rfl, _, hs, rfl, ?_⟩
      refine ⟨_, rfl, rfl, rfl, dd, _, _, rfl, hdd, rfl, slr rfl, fun t1 ht1 => ⟨t1, _, rfl, .inr (SqT.of upd_same), rfl, rfl, false, by decide +kernel, iteF ?_⟩⟩
      have E1 := Same.new ht1 (.tup [V.str "unknownplayer", V.str "brokenrule"])
      refine ⟨_, rfl, rfl, rfl, dd, _, _, rfl, (E1 _ _ hdd), rfl, slr rfl, fun t2 ht2 => ⟨t2, _, rfl, .inr (SqT.of upd_same), rfl, rfl, false, by decide +kernel, iteF ?_⟩⟩
      have E2 := E1.trans (Same.new ht2 (.tup [V.str "unknownpiece", V.str "duplicatepiece", V.str "invalidname", V.str "unknownname", V.str "inuse", V.str "cycle", V.str "unfit"]))
      refine ⟨_, rfl, rfl, rfl, dd, _, _, rfl, (E2 _ _ hdd), rfl, slr rfl, fun t3 ht3 => ⟨t3, _, rfl, .inr (SqT.of upd_same), rfl, rfl, false, by decide +kernel, iteF ?_⟩⟩
      have E3 := E2.trans (Same.new ht3 (.tup [V.str "invalidstatement", V.str "parseerror"]))
      refine ⟨_, rfl, rfl, rfl, dd, _, _, rfl, (E3 _ _ hdd), rfl, slr rfl, fun t4 ht4 => ⟨t4, _, rfl, .inr (SqT.of upd_same), rfl, rfl, false, by decide +kernel, iteF ?_⟩⟩
      have E4 := E3.trans (Same.new ht4 (.tup [V.str "toolarge", V.str "invalidcommand"]))
      refine ⟨_, rfl, rfl, rfl, dd, _, _, rfl, E4 _ _ hdd, rfl, rfl, false, by decide +kernel, iteF ?_⟩
      refine ⟨slr rfl, fun p hp => ?_⟩
      exact q p _ (E4.trans (Same.new hp _)) upd_same
    · unfold TTry at h
      have e : (fun (v : V) (H' : Hp) => 2 ≤ sizeLine ∧ ∀ (p : Addr), H' p = none → Q (V.ref p) (upd H' p (HO.tup [V.str (Str.ofString ""), v]))) = fun (v : V) (H' : Hp) => ∀ (p : Addr), H' p = none → Q (V.ref p) (upd H' p (HO.tup [V.str (Str.ofString ""), v])) := by
        funext v H'
        exact propext ⟨fun z => z.2, fun z => ⟨by decide, z⟩⟩
      show tl _ H (fun (v : V) (H' : Hp) => 2 ≤ sizeLine ∧ ∀ (p : Addr), H' p = none → Q (V.ref p) (upd H' p (HO.tup [V.str (Str.ofString ""), v])))
      rw [e]
      exact h
end

-- CUT4
/-! ## The law -/
def qn : Str := "law.<locals>.<lambda>"
def spLaw (K : PySem.W.Frag) (Pt : Addr) : Sp := fun vs H Q _ => ∃ (a : Addr) (ns : List Int), vs = [.ref a] ∧ SqL K H a (ns.map V.int) ∧ H Pt = some (.tbl #[]) ∧ ns.length ≤ 63 ∧ ∀ H', Q (.bl true) H'
theorem Bag.ext {H H' : Hp} {b l : Addr} (B : Bag H b l) (e : LamX.ExtN H H') : Bag H' b l := by
  obtain ⟨ns, i, c, s, t, h1, h2, h⟩ := B.ex
  exact ⟨ns, i, c, s, t, e _ _ h1 (fun _ z => nomatch z), e _ _ h2 (fun _ z => nomatch z), h⟩
theorem tabs_apart {T : List (Addr × Str)} {H H' : Hp} {b l : Addr} (t : LamX.Tabs T H) (B : Bag H b l) (e : Apart b H H') : LamX.Tabs T H' := fun p hp => by
  obtain ⟨ps, h1, h2, h3⟩ := t p hp
  obtain ⟨xs, hb⟩ := B.there
  refine ⟨ps, e _ _ (ne_of h1 hb fun z => nomatch z) h1, h2, fun pos cv hc => ?_⟩
  obtain ⟨c, e1, e2⟩ := h3 pos cv hc
  exact ⟨c, e1, e _ _ (ne_of e2 hb fun z => by unfold LamX.CodeO at z; cases z) e2⟩
theorem lowP (x : Rat) : frP [x.num, ((x.den : Nat) : Int)] = true := by
  show (decide (0 < ((x.den : Nat) : Int)) && decide (Int.gcd x.num ((x.den : Nat) : Int) = 1)) = true
  rw [decide_eq_true (RM.den_p x), Bool.true_and]
  refine decide_eq_true ?_
  have := x.reduced
  unfold Int.gcd
  rw [Int.natAbs_natCast]
  exact this
theorem byP (x : Rat) {n : Int} (h : 0 < n) : frP [x.num * n, ((x.den : Nat) : Int) * n] = decide (V.int n = V.int 1) := by
  show (decide (0 < ((x.den : Nat) : Int) * n) && decide (Int.gcd (x.num * n) (((x.den : Nat) : Int) * n) = 1)) = _
  rw [decide_eq_true (Int.mul_pos (RM.den_p x) h), Bool.true_and, Int.gcd_mul_right]
  have e : Int.gcd x.num ((x.den : Nat) : Int) = 1 := by
    unfold Int.gcd
    rw [Int.natAbs_natCast]
    exact x.reduced
  rw [e, Nat.one_mul]
  exact decide_eq_decide.mpr ⟨fun z => by rw [show n = 1 by omega], fun z => by injection z with z; omega⟩
theorem neg_low {a b : Int} (h : ¬ 0 < b) : -(Rat.divInt a ((b.natAbs : Nat) : Int)) = Rat.divInt a b := by
  rw [show ((b.natAbs : Nat) : Int) = -b by omega, Rat.divInt_neg', Rat.neg_divInt, Int.neg_neg]
theorem eqB {K : PySem.W.Frag} {H : Hp} {n : Nat} {i j : Bool} (h : i = j) : EqD K H n (.bl i) (.bl j) := by
  rw [h]
  exact EqD.flat (x := .bl j) True.intro
theorem eqI {K : PySem.W.Frag} {H : Hp} {n : Nat} (i : Int) : EqD K H n (.int i) (.int i) := EqD.flat (x := .int i) True.intro
theorem eqR {K : PySem.W.Frag} {H : Hp} {v u : V} {x : Rat} {n : Nat} (h : IsR H v x) (g : IsR H u x) : EqD K H (n + 1) v u := by
  obtain ⟨p, rfl, hp⟩ := h
  obtain ⟨r, rfl, hr⟩ := g
  exact .inr (.inr ⟨p, r, _, _, rfl, rfl, hp, hr, .cons (eqI _) (.cons (eqI _) .nil), by show 2 ≤ 100000; decide⟩)
theorem eqL {K : PySem.W.Frag} {H : Hp} {a b : Addr} {xs ys : List V} {n : Nat} (h : H a = some (.lst xs)) (g : H b = some (.lst ys)) (hp : Paired (EqD K H n) xs ys) (hl : xs.length ≤ 100000) : EqD K H (n + 1) (.ref a) (.ref b) :=
  .inr (.inl ⟨a, b, xs, ys, rfl, rfl, h, g, hp, hl⟩)
theorem b46 {i : Int} (h : i.natAbs < 2 ^ 60) : i.natAbs < 2 ^ 200 := Nat.lt_of_lt_of_le h (RM.pow_le (by decide))
theorem b8000 {i : Int} (h : i.natAbs < 2 ^ 200) : i.natAbs < 2 ^ 8000 := Nat.lt_of_lt_of_le h (RM.pow_le (by decide))

section
variable {P : Program} {w : World} {K : PySem.W.Frag} {mg : Str → Option Value} {base : Heap} {A : Ad} {B : AdX}
set_option maxHeartbeats 0 in
theorem ok_law (T : Txt K mg A) (ET : ExT K mg B) {c Pt : Addr} (hcode : A.fd_law.code = .ref c) (TB : LamX.TabB base mg c Pt) : FnOk P w K mg base CX0 12 A.f_law A.fd_law ["_law_script"] (spLaw K Pt) := by
  obtain ⟨oc, od, kV, doc, pm, an, cdv, ct, osl, hfd, lk, hcd⟩ := T.d_law.F.ex
  obtain ⟨oc2, od2, kV2, doc2, pm2, an2, cdvT, ct2, osl2, hfdT, lkT, hcT⟩ := T.d_try.F.ex
  have bT := T.d_try.b
  rw [hfdT] at lkT bT
  have hc : cdv = .ref c := by
    rw [hfd] at hcode
    exact hcode
  subst hc
  rw [hfd] at lk ⊢
  refine fn_of lk hcd sc_law (fun vs H Q E h => ?_) fun ar outer s H vs Q E hr h => ?_
  · obtain ⟨a, ns, rfl, _⟩ := h
    rfl
  suffices hh : ∃ t, PSs (cxOf CX0 P w K mg base ["_law_script", "_law_bag_here", "_law_turn", "_law_most", "_law_due", "_law_good", "_law_told", "_law_a", "_law_b", "_law_by"] "law" (defScope s_law) A.f_law (.ref c) ar outer s H E).nox (defBody s_law) t ∧ t { nx := fun _ H' => Q .non H', rt := Q } (L2.start ["_law_script", "_law_bag_here", "_law_turn", "_law_most", "_law_due", "_law_good", "_law_told", "_law_a", "_law_b", "_law_by"] vs) H by
    obtain ⟨t, h1, h2⟩ := hh
    exact ⟨t, h1.nox, h2⟩
  obtain ⟨a0, ns, rfl, hS, hT0, h63, q⟩ := h
  refine ⟨_, (pss_cons (ps_set (i := 1) sc_law.nd rfl (Or.inl rfl) (pe_call (ok_bag T) (hr.mono (by decide)) rfl T.d_bag.m T.d_bag.F.kp T.d_bag.b .nil pass0 (pa_cons (pv 0) pa_nil)))
    (pss_cons (ps_for PassesOwn.never rfl (pi_range1 rfl T.range (pa_cons pe_int pa_nil)) (pg_name (i := 2) sc_law.nd rfl (Or.inl rfl)) (pss_cons (ps_set (i := 3) sc_law.nd rfl (Or.inl rfl) (pe_call (ok_of T) (hr.mono (by decide)) rfl T.d_of.m T.d_of.F.kp T.d_of.b .nil pass0 (pa_cons (pv 1) (pa_cons (pe_lst (pa_cons pe_int (pa_cons pe_int (pa_cons (pe_op op_pow pe_int pe_int) pa_nil)))) pa_nil))))
    (pss_cons (ps_asg (pe_tup (pa_cons (pe_op op_sub (pe_call (ok_pull T) (hr.mono (by decide)) rfl T.d_pull.m T.d_pull.F.kp T.d_pull.b .nil pass0 (pa_cons (pv 1) (pa_cons (pe_op op_add (pe_op op_mul pe_int (pv 3)) pe_int) pa_nil))) (pv 3)) (pa_cons (pe_op op_sub (pe_call (ok_pull T) (hr.mono (by decide)) rfl T.d_pull.m T.d_pull.F.kp T.d_pull.b .nil pass0 (pa_cons (pv 1) (pa_cons (pe_op op_add (pe_op op_mul pe_int (pv 3)) pe_int) pa_nil))) (pv 3)) pa_nil))) (pg_tup rfl (pgs_cons (pg_name (i := 7) sc_law.nd rfl (Or.inr rfl)) (pgs_cons (pg_name (i := 8) sc_law.nd rfl (Or.inr rfl)) pgs_nil))))
    (pss_cons (ps_set (i := 9) sc_law.nd rfl (Or.inr rfl) (pe_op op_add pe_int (pe_call (ok_pull T) (hr.mono (by decide)) rfl T.d_pull.m T.d_pull.F.kp T.d_pull.b .nil pass0 (pa_cons (pv 1) (pa_cons (pv 3) pa_nil)))))
    (pss_cons (ps_if (pt_cmpR op_eq (pv 8) pe_int (nomark _)) (pss_cons (ps_if (pt_cmpR (r := rNeD K) (op_neD hr.units) (LamX.pe_lamcall (T := [(Pt, qn)]) (k := 4) (Ng := ["_law_ask", "_law_e"]) (by rfl) T.d_try.m T.d_try.F.kp lkT hcT bT sc_try rfl (.inl rfl) (try_gives T ET rfl rfl (hr.mono (by decide)) _ _) TB rfl (List.mem_singleton_self _) (fun p hp _ => by rw [List.mem_singleton.mp hp]; rfl) (hr.mono (by decide)) (LamX.lamS_by (sc := defScope s_law) (by decide +kernel)) rfl (fun _ _ _ _ _ => rfl) (fun A' outer s H E f c' hr' => pe_call (E := E) (ok_reduced T ET) (hr'.mono (by decide)) rfl T.d_reduced.m T.d_reduced.F.kp T.d_reduced.b .nil (passes_call (takes_of rfl rfl rfl rfl) fun _ _ _ _ z => z) (pa_cons (pe_op op_mulW (pv 7) (pv 9)) (pa_cons (pv 8) pa_nil)))) (pe_tup (pa_cons pe_str (pa_cons pe_non pa_nil))) (nomark _)) (pss_one (ps_ret pe_bl)) pss_nil)
    (pss_one ps_continue)) pss_nil)
    (pss_cons (ps_set (i := 4) sc_law.nd rfl (Or.inl rfl) (pe_call (ok_low T) (hr.mono (by decide)) rfl T.d_low.m T.d_low.F.kp T.d_low.b .nil pass0 (pa_cons (pv 7) (pa_cons (pe_callB call_abs (by rfl) T.abs (by decide +kernel) (pa_cons (pv 8) pa_nil)) pa_nil))))
    (pss_cons (ps_set (i := 4) sc_law.nd rfl (Or.inl rfl) (pe_ifExp (pt_cmpR op_gt (pv 8) pe_int (nomark _)) (pv 4) (pe_call (ok_neg T) (hr.mono (by decide)) rfl T.d_neg.m T.d_neg.F.kp T.d_neg.b .nil pass0 (pa_cons (pv 4) pa_nil))))
    (pss_cons (ps_if (pt_not (pt_val (pe_call (ok_same T) (hr.mono (by decide)) rfl T.d_same.m T.d_same.F.kp T.d_same.b .nil pass0 (pa_cons (pe_lst (pa_cons (pe_call (ok_reduced T ET) (hr.mono (by decide)) rfl T.d_reduced.m T.d_reduced.F.kp T.d_reduced.b .nil (passes_call (E := C8.E0) takes0 fun _ _ _ _ z => z) (pa_cons (pv 7) (pa_cons (pv 8) pa_nil))) (pa_cons (pe_call (ok_reduced T ET) (hr.mono (by decide)) rfl T.d_reduced.m T.d_reduced.F.kp T.d_reduced.b .nil (passes_call (E := C8.E0) takes0 fun _ _ _ _ z => z) (pa_cons (pe_op op_mulW (pv 7) (pv 9)) (pa_cons (pe_op op_mulW (pv 8) (pv 9)) pa_nil))) (pa_cons (pe_call (ok_reduced T ET) (hr.mono (by decide)) rfl T.d_reduced.m T.d_reduced.F.kp T.d_reduced.b .nil (passes_call (E := C8.E0) takes0 fun _ _ _ _ z => z) (pa_cons (pe_op op_sub pe_int (pv 7)) (pa_cons (pe_op op_sub pe_int (pv 8)) pa_nil))) pa_nil)))) (pa_cons (pe_lst (pa_cons (pv 4) (pa_cons (pv 4) (pa_cons (pv 4) pa_nil)))) pa_nil))))) (pss_one (ps_ret pe_bl)) pss_nil)
    (pss_cons (ps_set (i := 5) sc_law.nd rfl (Or.inl rfl) (pe_and (pe_cmpR op_gt (pv 8) pe_int (nomark _)) (pe_one (pe_cmpR op_eq (pe_call (ok_gcd T) (hr.mono (by decide)) rfl T.d_gcd.m T.d_gcd.F.kp T.d_gcd.b .nil pass0 (pa_cons (pv 7) (pa_cons (pv 8) pa_nil))) pe_int (nomark _)))))
    (pss_cons (ps_set (i := 6) sc_law.nd rfl (Or.inl rfl) (pe_lst (pa_cons (pe_call (ok_is_fraction T) (hr.mono (by decide)) rfl T.d_is_fraction.m T.d_is_fraction.F.kp T.d_is_fraction.b .nil pass0 (pa_cons (pe_tup (pa_cons (pv 7) (pa_cons (pv 8) pa_nil))) pa_nil)) (pa_cons (pe_call (ok_is_fraction T) (hr.mono (by decide)) rfl T.d_is_fraction.m T.d_is_fraction.F.kp T.d_is_fraction.b .nil pass0 (pa_cons (pv 4) pa_nil)) (pa_cons (pe_call (ok_is_fraction T) (hr.mono (by decide)) rfl T.d_is_fraction.m T.d_is_fraction.F.kp T.d_is_fraction.b .nil pass0 (pa_cons (pe_tup (pa_cons (pe_op op_mulW (pe_ix (r := rIxT K) ix_tup (pv 4) pe_int (fun _ _ => rfl)) (pv 9)) (pa_cons (pe_op op_mulW (pe_ix (r := rIxT K) ix_tup (pv 4) pe_int (fun _ _ => rfl)) (pv 9)) pa_nil))) pa_nil)) (pa_cons (pe_call (ok_is_fraction T) (hr.mono (by decide)) rfl T.d_is_fraction.m T.d_is_fraction.F.kp T.d_is_fraction.b .nil pass0 (pa_cons (pe_tup (pa_cons (pv 7) pa_nil)) pa_nil)) (pa_cons (pe_call (ok_is_fraction T) (hr.mono (by decide)) rfl T.d_is_fraction.m T.d_is_fraction.F.kp T.d_is_fraction.b .nil pass0 (pa_cons (pe_tup (pa_cons (pv 7) (pa_cons (pv 8) (pa_cons pe_int pa_nil)))) pa_nil)) (pa_cons (pe_call (ok_is_fraction T) (hr.mono (by decide)) rfl T.d_is_fraction.m T.d_is_fraction.F.kp T.d_is_fraction.b .nil pass0 (pa_cons (pe_tup pa_nil) pa_nil)) pa_nil))))))))
    (pss_one (ps_if (pt_not (pt_val (pe_call (ok_same T) (hr.mono (by decide)) rfl T.d_same.m T.d_same.F.kp T.d_same.b .nil pass0 (pa_cons (pv 6) (pa_cons (pe_lst (pa_cons (pv 5) (pa_cons pe_bl (pa_cons (pe_cmpR op_eq (pv 9) pe_int (nomark _)) (pa_cons pe_bl (pa_cons pe_bl (pa_cons pe_bl pa_nil))))))) pa_nil))))) (pss_one (ps_ret pe_bl)) pss_nil))))))))))))
    (pss_one (ps_ret (pe_call (ok_same T) (hr.mono (by decide)) rfl T.d_same.m T.d_same.F.kp T.d_same.b .nil pass0 (pa_cons (pe_lst (pa_cons (pe_call (ok_reduced T ET) (hr.mono (by decide)) rfl T.d_reduced.m T.d_reduced.F.kp T.d_reduced.b .nil (passes_call (E := C8.E0) takes0 fun _ _ _ _ z => z) (pa_cons pe_int (pa_cons (pe_un un_neg pe_int) pa_nil))) (pa_cons (pe_call (ok_is_fraction T) (hr.mono (by decide)) rfl T.d_is_fraction.m T.d_is_fraction.F.kp T.d_is_fraction.b .nil pass0 (pa_cons (pe_tup (pa_cons pe_int (pa_cons pe_int pa_nil))) pa_nil)) (pa_cons (pe_call (ok_is_fraction T) (hr.mono (by decide)) rfl T.d_is_fraction.m T.d_is_fraction.F.kp T.d_is_fraction.b .nil pass0 (pa_cons (pe_tup (pa_cons pe_int (pa_cons pe_int pa_nil))) pa_nil)) pa_nil)))) (pa_cons (pe_lst (pa_cons (pe_tup (pa_cons pe_int (pa_cons pe_int pa_nil))) (pa_cons pe_bl (pa_cons pe_bl pa_nil)))) pa_nil))))))), ?_⟩
  have T0 : LamX.Tabs [(Pt, qn)] H := fun p hp => by
    rw [List.mem_singleton.mp hp]
    exact LamX.TabS.nil hT0
  refine ⟨_, rfl, a0, ns, rfl, hS, h63, fun b l H1 e1 hb hl B1 => ?_⟩
  refine ⟨8, rfl, by decide, by decide, ?_⟩
  refine for_range (n := 8) (fun _ σ H' => Bag H' b l ∧ LamX.Tabs [(Pt, qn)] H' ∧ ∃ u0 u2 u3 u4 u5 u6 u7 u8 u9 : Option V, σ = [u0, some (.ref b), u2, u3, u4, u5, u6, u7, u8, u9]) ⟨B1, T0.ext e1, _, _, _, _, _, _, _, _, _, rfl⟩ ?_ ?_
  · clear B1 e1 hb hl T0 hT0
    rintro i σ H1 hi ⟨B1, T1, u0, u2, u3, u4, u5, u6, u7, u8, u9, rfl⟩
    refine ⟨_, rfl, _, _, rfl, rfl, ⟨by decide, by decide, by decide⟩, slr rfl, fun L hL => ?_⟩
    refine ⟨b, l, L, _, rfl, B1.new hL _, SqL.of upd_same, B1.ne hL, by show 0 < 3; decide, by show 3 ≤ 1000; decide, fun j v H2 hj ap2 B2 => ?_⟩
    have T2 := tabs_apart (T1.ext (Same.new hL _)) (B1.new hL _) ap2
    obtain ⟨mo, rfl, mo1, mo2⟩ : ∃ mo : Int, v = .int mo ∧ 4 ≤ mo ∧ mo ≤ 100000000000000 := by
      match j, hj with
      | 0, hj => cases hj; exact ⟨4, rfl, by decide, by decide⟩
      | 1, hj => cases hj; exact ⟨30, rfl, by decide, by decide⟩
      | 2, hj => cases hj; exact ⟨_, rfl, by decide, by decide⟩
    clear hj T1 ap2
    refine ⟨_, rfl, _, rfl, _, _, rfl, rfl, .inl ⟨by decide, by decide⟩, _, _, rfl, rfl, b, l, _, rfl, B2, by show 0 < 2 * mo + 1; omega, b46 (show (2 * mo + 1).natAbs < 2 ^ 60 by omega), fun ra H3 a0 a1 ap3 B3 => ?_⟩
    have T3 := tabs_apart T2 B2 ap3
    refine ⟨_, rfl, _, _, rfl, rfl, _, rfl, _, rfl, _, _, rfl, rfl, .inl ⟨by decide, by decide⟩, _, _, rfl, rfl, b, l, _, rfl, B3, by show 0 < 2 * mo + 1; omega, b46 (show (2 * mo + 1).natAbs < 2 ^ 60 by omega), fun rb H4 b0 b1 ap4 B4 => ?_⟩
    have T4 := tabs_apart T3 B3 ap4
    have a1 : ra < 2 * mo + 1 := a1
    have b1 : rb < 2 * mo + 1 := b1
    refine ⟨_, rfl, _, _, rfl, rfl, slr rfl, fun t ht => ⟨t, [V.int (ra - mo), V.int (rb - mo)], rfl, SqT.of upd_same, rfl, _, _, rfl, _, _, rfl, rfl, ?_⟩⟩
    have e5 := Same.new ht (.tup [V.int (ra - mo), V.int (rb - mo)])
    generalize upd H4 t _ = H5 at e5
    have B5 := B4.same e5
    have T5 := T4.ext e5
    have hx : (ra - mo).natAbs < 2 ^ 60 := by omega
    have hy : (rb - mo).natAbs < 2 ^ 60 := by omega
    clear a0 a1 b0 b1 T2 T3 T4
    generalize ra - mo = x at *
    generalize rb - mo = y at *
    refine ⟨_, rfl, _, rfl, b, l, mo, rfl, B5, by omega, b46 (by omega), fun rn H6 n0 n1 ap6 B6 => ⟨_, _, rfl, rfl, ?_⟩⟩
    have T6 := tabs_apart T5 B5 ap6
    have hn0 : 0 < 1 + rn := by omega
    have hn : (1 + rn).natAbs < 2 ^ 60 := by omega
    show gName 9 (V.int (1 + rn)) _ _ _
    generalize 1 + rn = n at *
    have mxn : CMulW x n := w_mul hx hn (by decide)
    have myn : CMulW y n := w_mul hy hn (by decide)
    have byn : (y * n).natAbs < 2 ^ 8000 := Nat.lt_of_lt_of_le (RM.abs_mul_lt hy hn) (RM.pow_le (by decide))
    have hy8 : y.natAbs < 2 ^ 8000 := Nat.lt_of_lt_of_le hy (RM.pow_le (by decide))
    have back : ∀ {H'}, Bag H' b l → LamX.Tabs [(Pt, qn)] H' → ∀ u0 u2 u3 u4 u5 u6 u7 u8 u9 : Option V, Bag H' b l ∧ LamX.Tabs [(Pt, qn)] H' ∧ ∃ v0 v2 v3 v4 v5 v6 v7 v8 v9 : Option V, [u0, some (V.ref b), u2, u3, u4, u5, u6, u7, u8, u9] = [v0, some (.ref b), v2, v3, v4, v5, v6, v7, v8, v9] :=
      fun h1 h2 _ _ _ _ _ _ _ _ _ => ⟨h1, h2, _, _, _, _, _, _, _, _, _, rfl⟩
    refine ⟨_, rfl, rfl, _, rfl, ?_⟩
    refine ite2 (fun cz => ?_) (fun cz => ?_)
    · have hb : y = 0 := by
        have z := of_decide_eq_true cz
        injection z
      refine ⟨T6, fun H7 e7 T7 => ?_⟩
      refine ⟨_, rfl, _, rfl, _, _, rfl, rfl, mxn, _, rfl, x * n, y, rfl, hy8, fun z => absurd hb z, fun _ d H8 e8 d0 hd => ⟨rfl, d, rfl, hd, fun p H9 e9 hp => ?_⟩⟩
      refine ⟨slr rfl, fun p2 hp2 => ?_⟩
      have e10 := Same.new hp2 (.tup [V.str "invalidfraction", V.non])
      refine ⟨_, _, .tup (SqT.of (e10 _ _ hp)) (.cons (.str _) (.cons .non .nil)), .tup (SqT.of upd_same) (.cons (.str _) (.cons .non .nil)), by decide +kernel, by decide +kernel, _, rfl, ?_⟩
      refine iteF ?_
      exact back (((B6.ext e7).same e8).same (e9.trans e10)) ((T7.ext e8).ext (e9.trans e10)) _ _ _ _ _ _ _ _ _
    · have hb : y ≠ 0 := fun z => cz (decide_eq_true (by rw [z]))
      clear cz T5 B5
      have habs : ((y.natAbs : Nat) : Int).natAbs < 2 ^ 8000 := by
        rw [RM.nat_abs]
        exact hy8
      refine ⟨_, rfl, _, rfl, _, rfl, ?_⟩
      rw [abs_is]
      refine ⟨x, ((y.natAbs : Nat) : Int), rfl, by omega, habs, fun p H7 e7 _ hp => ?_⟩
      dsimp only [gName]
      refine seq_key (fun σ' H' => ∃ p, Same H6 H' ∧ H' p = some (.tup (FR (Rat.divInt x y))) ∧ σ' = [u0, some (V.ref b), some (V.int (0 + (i : Int))), some (V.int mo), some (V.ref p), u5, u6, some (V.int x), some (V.int y), some (V.int n)]) ?_ (fun k => ?_)
      · clear hp e7
        rintro σ' H7 ⟨p, e7, hp, rfl⟩
        -- the same fraction three times
        refine ⟨_, rfl, _, rfl, x, y, rfl, hy8, fun _ r1 H8 e8 _ h1 => ?_, fun z => absurd z hb⟩
        refine ⟨_, rfl, _, rfl, _, _, rfl, rfl, mxn, _, rfl, _, rfl, _, _, rfl, rfl, myn, x * n, y * n, rfl, byn, fun _ r2 H9 e9 _ h2 => ?_, fun z => absurd z (Int.mul_ne_zero hb (by omega))⟩
        refine ⟨_, rfl, _, _, rfl, rfl, _, rfl, _, _, rfl, rfl, 0 - x, 0 - y, rfl, by rw [show (0 : Int) - y = -y by omega, Int.natAbs_neg]; exact hy8, fun _ r3 H10 e10 _ h3 => ?_, fun z => absurd z (by omega)⟩
        rw [Rat.divInt_mul_right (by omega)] at h2
        rw [show (0 : Int) - x = -x by omega, show (0 : Int) - y = -y by omega, Rat.neg_divInt_neg] at h3
        refine ⟨slr rfl, fun l1 hl1 => ?_⟩
        have e11 := Same.new hl1 (.lst [V.ref r1, V.ref r2, V.ref r3])
        have g11 : upd H10 l1 (.lst [V.ref r1, V.ref r2, V.ref r3]) l1 = _ := upd_same
        generalize upd H10 l1 (.lst [V.ref r1, V.ref r2, V.ref r3]) = H11 at e11 g11
        refine ⟨_, rfl, _, rfl, _, rfl, slr rfl, fun l2 hl2 => ?_⟩
        have e12 := Same.new hl2 (.lst [V.ref p, V.ref p, V.ref p])
        have g12 : upd H11 l2 (.lst [V.ref p, V.ref p, V.ref p]) l2 = _ := upd_same
        generalize upd H11 l2 (.lst [V.ref p, V.ref p, V.ref p]) = H12 at e12 g12
        have E12 := (e8.trans (e9.trans (e10.trans (e11.trans e12))))
        have kp := E12 _ _ hp
        have k1 := (e9.trans (e10.trans (e11.trans e12))) _ _ h1
        have k2 := (e10.trans (e11.trans e12)) _ _ h2
        have k3 := (e11.trans e12) _ _ h3
        refine ⟨_, _, rfl, eqL (e12 _ _ g11) g12 (.cons (eqR ⟨r1, rfl, k1⟩ ⟨p, rfl, kp⟩) (.cons (eqR ⟨r2, rfl, k2⟩ ⟨p, rfl, kp⟩) (.cons (eqR ⟨r3, rfl, k3⟩ ⟨p, rfl, kp⟩) .nil))) (by show 3 ≤ 100000; decide), fun H13 e13 => ⟨_, rfl, iteF ?_⟩⟩
        have E13 := e7.trans (E12.trans e13)
        have hp13 := e13 _ _ kp
        clear k1 k2 k3 kp g11 g12 h1 h2 h3 E12 e13 e12 e11 e10 e9 e8
        -- whether it is in lowest terms
        dsimp only [tNext]
        refine seq_key (fun σ' H' => H13 = H' ∧ σ' = [u0, some (V.ref b), some (V.int (0 + (i : Int))), some (V.int mo), some (V.ref p), some (V.bl (frP [x, y])), u6, some (V.int x), some (V.int y), some (V.int n)]) ?_ (fun k => ?_)
        · rintro _ _ ⟨rfl, rfl⟩
          refine ⟨_, rfl, _, rfl, slr rfl, fun t1 ht1 => ⟨t1, [x, y], rfl, upd_same, by show 2 ≤ 100; decide, fun H14 e14 => ?_⟩⟩
          have E14 := (Same.new ht1 _).trans e14
          refine ⟨_, rfl, p, [(Rat.divInt x y).num, (((Rat.divInt x y).den : Nat) : Int)], rfl, E14 _ _ hp13, by show 2 ≤ 100; decide, fun H15 e15 => ?_⟩
          have E15 := E14.trans e15
          have bx : RM.Bd 60 (Rat.divInt x y) := RM.Bd.div hb hx hy
          refine ⟨_, rfl, p, _, _, _, rfl, rfl, SqT.of (E15 _ _ hp13), ix0, _, rfl, _, _, rfl, rfl, w_mul bx.1 hn (by decide), _, rfl, p, _, _, _, rfl, rfl, SqT.of (E15 _ _ hp13), ix1, _, rfl, _, _, rfl, rfl, w_mul bx.den hn (by decide), slr rfl, fun t2 ht2 => ⟨t2, [(Rat.divInt x y).num * n, (((Rat.divInt x y).den : Nat) : Int) * n], rfl, upd_same, by show 2 ≤ 100; decide, fun H16 e16 => ?_⟩⟩
          have E16 := E15.trans ((Same.new ht2 _).trans e16)
          refine ⟨_, rfl, slr rfl, fun t3 ht3 => ⟨t3, [x], rfl, upd_same, by show 1 ≤ 100; decide, fun H17 e17 => ?_⟩⟩
          have E17 := E16.trans ((Same.new ht3 _).trans e17)
          refine ⟨_, rfl, _, rfl, slr rfl, fun t4 ht4 => ⟨t4, [x, y, 1], rfl, upd_same, by show 3 ≤ 100; decide, fun H18 e18 => ?_⟩⟩
          have E18 := E17.trans ((Same.new ht4 _).trans e18)
          refine ⟨slr rfl, fun t5 ht5 => ⟨t5, [], rfl, upd_same, by show 0 ≤ 100; decide, fun H19 e19 => ?_⟩⟩
          have E19 := E18.trans ((Same.new ht5 _).trans e19)
          refine ⟨slr rfl, fun l3 hl3 => ?_⟩
          have e20 := Same.new hl3 (.lst [V.bl (frP [x, y]), V.bl (frP [(Rat.divInt x y).num, (((Rat.divInt x y).den : Nat) : Int)]), V.bl (frP [(Rat.divInt x y).num * n, (((Rat.divInt x y).den : Nat) : Int) * n]), V.bl (frP [x]), V.bl (frP [x, y, 1]), V.bl (frP [])])
          have g20 : upd H19 l3 (.lst [V.bl (frP [x, y]), V.bl (frP [(Rat.divInt x y).num, (((Rat.divInt x y).den : Nat) : Int)]), V.bl (frP [(Rat.divInt x y).num * n, (((Rat.divInt x y).den : Nat) : Int) * n]), V.bl (frP [x]), V.bl (frP [x, y, 1]), V.bl (frP [])]) l3 = _ := upd_same
          generalize upd H19 l3 (.lst [V.bl (frP [x, y]), V.bl (frP [(Rat.divInt x y).num, (((Rat.divInt x y).den : Nat) : Int)]), V.bl (frP [(Rat.divInt x y).num * n, (((Rat.divInt x y).den : Nat) : Int) * n]), V.bl (frP [x]), V.bl (frP [x, y, 1]), V.bl (frP [])]) = H20 at e20 g20
          refine ⟨_, rfl, _, rfl, _, rfl, rfl, slr rfl, fun l4 hl4 => ?_⟩
          have e21 := Same.new hl4 (.lst [V.bl (frP [x, y]), V.bl true, V.bl (decide (V.int n = V.int 1)), V.bl false, V.bl false, V.bl false])
          refine ⟨_, _, rfl, eqL (e21 _ _ g20) upd_same (.cons (eqB rfl) (.cons (eqB (lowP _)) (.cons (eqB (byP _ hn0)) (.cons (eqB rfl) (.cons (eqB rfl) (.cons (eqB rfl) .nil)))))) (by show 6 ≤ 100000; decide), fun H22 e22 => ⟨_, rfl, iteF ?_⟩⟩
          have E22 := (E13.trans E19).trans ((e20.trans e21).trans e22)
          exact back (B6.same E22) (T6.ext E22) _ _ _ _ _ _ _ _ _
        · refine ⟨_, rfl, _, _, rfl, rfl, _, rfl, ?_⟩
          refine ite2 (fun c1 => ?_) (fun c1 => ?_)
          · have c2 : 0 < y := of_decide_eq_true c1
            refine ⟨_, rfl, _, rfl, x, y, rfl, Int.le_of_lt c2, rfl, ?_⟩
            refine k _ _ ⟨rfl, ?_⟩
            have e : frP [x, y] = decide (V.int ((Int.gcd x y : Nat) : Int) = V.int 1) := by
              show (decide (0 < y) && decide (Int.gcd x y = 1)) = _
              rw [decide_eq_true c2, Bool.true_and]
              exact decide_eq_decide.mpr ⟨fun z => by rw [z]; rfl, fun z => by injection z with z; omega⟩
            rw [e]
            rfl
          · have c2 : ¬ 0 < y := fun z => c1 (decide_eq_true z)
            refine k _ _ ⟨rfl, ?_⟩
            have e : frP [x, y] = false := by
              show (decide (0 < y) && decide (Int.gcd x y = 1)) = _
              rw [decide_eq_false c2, Bool.false_and]
            rw [e]
            rfl
      · refine ⟨_, rfl, _, _, rfl, rfl, _, rfl, ?_⟩
        refine ite2 (fun c1 => ?_) (fun c1 => ?_)
        · have c2 : 0 < y := of_decide_eq_true c1
          rw [show ((y.natAbs : Nat) : Int) = y by omega] at hp
          refine ⟨_, rfl, ?_⟩
          exact k _ _ ⟨p, e7, hp, rfl⟩
        · have c2 : ¬ 0 < y := fun z => c1 (decide_eq_true z)
          refine ⟨_, rfl, _, _, rfl, ⟨p, rfl, hp⟩, fun p2 H8 e8 _ hp2 => ?_⟩
          rw [neg_low c2] at hp2
          exact k _ _ ⟨p2, e7.trans e8, hp2, rfl⟩
  · rintro σ H1 ⟨B1, T1, u0, u2, u3, u4, u5, u6, u7, u8, u9, rfl⟩
    refine ⟨_, rfl, 0, -7, rfl, by decide +kernel, fun _ r1 H2 e2 _ h1 => ?_, fun z => absurd z (by decide)⟩
    refine ⟨slr rfl, fun t1 ht1 => ⟨t1, [0, 1], rfl, upd_same, by show 2 ≤ 100; decide, fun H3 e3 => ?_⟩⟩
    refine ⟨slr rfl, fun t2 ht2 => ⟨t2, [0, 2], rfl, upd_same, by show 2 ≤ 100; decide, fun H4 e4 => ?_⟩⟩
    have E4 := ((Same.new ht1 _).trans e3).trans ((Same.new ht2 _).trans e4)
    refine ⟨slr rfl, fun l1 hl1 => ?_⟩
    have e5 := Same.new hl1 (.lst [V.ref r1, V.bl (frP [0, 1]), V.bl (frP [0, 2])])
    have g5 : upd H4 l1 (.lst [V.ref r1, V.bl (frP [0, 1]), V.bl (frP [0, 2])]) l1 = _ := upd_same
    generalize upd H4 l1 (.lst [V.ref r1, V.bl (frP [0, 1]), V.bl (frP [0, 2])]) = H5 at e5 g5
    refine ⟨slr rfl, fun t3 ht3 => ?_⟩
    have e6 := Same.new ht3 (.tup [V.int 0, V.int 1])
    have g6 : upd H5 t3 (.tup [V.int 0, V.int 1]) t3 = some (.tup (FR 0)) := upd_same
    generalize upd H5 t3 (.tup [V.int 0, V.int 1]) = H6 at e6 g6
    refine ⟨slr rfl, fun l2 hl2 => ?_⟩
    have e7 := Same.new hl2 (.lst [V.ref t3, V.bl true, V.bl false])
    have z : Rat.divInt 0 (-7) = 0 := by decide +kernel
    rw [z] at h1
    exact ⟨_, _, rfl, eqL ((e6.trans e7) _ _ g5) upd_same (.cons (eqR ⟨r1, rfl, ((E4.trans e5).trans (e6.trans e7)) _ _ h1⟩ ⟨t3, rfl, e7 _ _ g6⟩) (.cons (eqB (by decide)) (.cons (eqB (by decide)) .nil))) (by show 3 ≤ 100000; decide), fun H8 e8 => q _⟩
end

-- CUT5
/-! ## The law's head, with the table of its code -/
def noTab (K : PySem.W.Frag) : Bool := K.all fun p => match p.2.data with
  | .fields vs => vs.size != 0
  | _ => true
theorem look_mem {β : Type} {a : Nat} {b : β} : ∀ {l : List (Nat × β)}, l.lookup a = some b → (a, b) ∈ l
  | [], h => by cases h
  | (x, y) :: r, h => by
    rw [List.lookup_cons] at h
    by_cases c : a = x
    · subst c
      rw [show (a == a) = true by simp] at h
      cases h
      exact List.mem_cons_self
    · rw [show (a == x) = false by simpa using c] at h
      exact List.mem_cons_of_mem _ (look_mem h)
open PySem PySem.W PyProof.Rows in
theorem noTab_at {K : Frag} (h : noTab K = true) {P : Addr} {o : Obj} (l : K.lookup P = some o) (d : o.data = .fields #[]) : False := by
  have z := List.all_eq_true.mp h (P, o) (look_mem l)
  have z : (match o.data with | .fields vs => vs.size != 0 | _ => true) = true := z
  rw [d] at z
  exact absurd z (by decide)
open PySem PySem.W PyProof.Rows in
theorem walkT {l : OpenLaw} {n k : Nat} {q : Program} {loose : List Str} {XP : (Str → Option Value) → Heap → Prop} {YP : World → Heap → Prop} {d : DefRec} {K : Params → Frag} {sp : Frag → Addr → Sp} {x : Str}
    (hn : l.most = some n) (hn2 : n ≤ sizeLine) (hdf : d.params.defaults = []) (hr : Room k callerA) (hY : ∀ (w : World) (h : Heap), YP w h → (K w.params).In h) (hrec : ((recsOf q).any fun e => e.name == d.name) = true) (hnt : ∀ w : World, noTab (K w.params) = true)
    (F : ∀ (w : World) (mg : Str → Option Value) (fa : Addr) (h : Heap), (K w.params).In h → h.Ns mainGlobals mg → mg d.name = some (.ref fa) →
      ∃ fd : FuncData, (∀ (s : Shared) (u : Value), BindsTo s fd ⟨[u], []⟩ [(x, u)]) ∧ (∃ o, (K w.params).lookup fa = some o ∧ o.data = .func fd) ∧
        ∀ (c P : Addr), fd.code = .ref c → ∀ base : Heap, (K w.params).In base → base.Ns mainGlobals mg → LamX.TabB base mg c P → FnOk l.prog w (K w.params) mg base CX0 k fa fd [x] (sp (K w.params) P))
    (hsp : ∀ (K : Frag) (P : Addr) (H : Hp) (a : Addr) (ns : List Int), ns.length ≤ n → H P = some (.tbl #[]) → SqL K H a (ns.map V.int) → sp K P [.ref a] H (fun v _ => v = .bl true) fun _ _ _ => False) :
    WalkO q loose XP YP l.row.toRowW d [] (fun f vs => PySem.call f vs) := by
  refine Att.attach_callB hn hdf fun w s0 s1 mg mb fa o pm cd doc a vs ns G Y ho hd hcd hmg hobj hints hlen hbits hg => ?_
  have KX := hY w _ Y
  obtain ⟨fd, hb, ⟨oF, lF, dF⟩, hF⟩ := F w mg fa _ KX G.T.g hmg
  obtain ⟨dL, hmem, hn1⟩ := List.any_eq_true.mp hrec
  obtain ⟨a2, o2, fd2, c, P, m2, g2, d2, ec, hcode, htab⟩ := G.T.tab dL hmem
  rw [show dL.name = d.name from beq_iff_eq.mp hn1] at m2
  have e1 := hmg.symm.trans m2
  cases e1
  have e2 := (KX _ _ lF).symm.trans g2
  cases e2
  have e3 := dF.symm.trans d2
  cases e3
  have one : ∀ {p : Addr × Addr}, p ∈ [(c, P)] → p = (c, P) := fun h => List.mem_singleton.mp h
  refine LamX.law_callTs (cs := [(c, P)]) KX G.T.g G.T.b G.T.builtins G.T.nolimit hg (fun p hp => ?_) (fun p hp => ?_) (fun p hp => ?_) G.T.bmain hobj hints (Nat.le_trans hlen hn2) hr
    (fun base hK hns hTB => hF c P ec base hK hns (hTB (c, P) (List.mem_singleton_self _))) hb (fun H hH hS => hsp _ P H a ns hlen (hH (c, P) (List.mem_singleton_self _)) hS) fun _ _ _ z => z
  · rw [one hp]
    exact htab.2
  · rw [one hp]
    show (K w.params).lookup P = none
    cases z : (K w.params).lookup P with
    | none => rfl
    | some ob =>
      have z2 := (KX _ _ z).symm.trans htab.2
      cases z2
      exact (noTab_at (hnt w) z rfl).elim
  · rw [one hp]
    exact CodeHd.of hcode htab

-- CUT6
theorem all_mk {l : PySem.W.OpenLaw} {w : World} {K : PySem.W.Frag} {h : Heap} {mg : Str → Option Value} {fa f1 f2 f3 f4 f5 f6 f7 f8 f9 f10 f11 f12 f13 f14 : Addr} (X : K.In h) (G : h.Ns mainGlobals mg) (hfa : mg "law" = some (.ref fa))
    {od1 an1 od2 an2 od3 an3 od4 an4 od5 an5 od6 an6 od7 an7 od8 an8 od9 an9 od10 an10 od11 an11 od12 an12 od13 an13 od14 an14 : Option Addr} {sl1 sl2 sl3 sl4 sl5 sl6 sl7 sl8 sl9 sl10 sl11 sl12 sl13 sl14 : Array (Option Value)} {oc1 kV1 dc1 pm1 cd1 ct1 oc2 kV2 dc2 pm2 cd2 ct2 oc3 kV3 dc3 pm3 cd3 ct3 oc4 kV4 dc4 pm4 cd4 ct4 oc5 kV5 dc5 pm5 cd5 ct5 oc6 kV6 dc6 pm6 cd6 ct6 oc7 kV7 dc7 pm7 cd7 ct7 oc8 kV8 dc8 pm8 cd8 ct8 oc9 kV9 dc9 pm9 cd9 ct9 oc10 kV10 dc10 pm10 cd10 ct10 oc11 kV11 dc11 pm11 cd11 ct11 oc12 kV12 dc12 pm12 cd12 ct12 oc13 kV13 dc13 pm13 cd13 ct13 oc14 kV14 dc14 pm14 cd14 ct14 : Value}
    (a1 : PySem.W.nsIn K mainGlobals "common_divisor" = some (some (.ref f1))) (l1 : K.lookup f1 = some ⟨oc1, od1, .func (PySem.W.fnOf "common_divisor" "common_divisor" (defArgs s_common_divisor) (defBody s_common_divisor) (defScope s_common_divisor) .none kV1 dc1 pm1 an1 cd1 ct1), sl1⟩) (c1 : PySem.W.codeIn K cd1 "common_divisor" = true) (k1 : PySem.W.keepIn K (.ref f1) = true)
    (a2 : PySem.W.nsIn K mainGlobals "reduced" = some (some (.ref f2))) (l2 : K.lookup f2 = some ⟨oc2, od2, .func (PySem.W.fnOf "reduced" "reduced" (defArgs s_reduced) (defBody s_reduced) (defScope s_reduced) .none kV2 dc2 pm2 an2 cd2 ct2), sl2⟩) (c2 : PySem.W.codeIn K cd2 "reduced" = true) (k2 : PySem.W.keepIn K (.ref f2) = true)
    (a3 : PySem.W.nsIn K mainGlobals "is_number" = some (some (.ref f3))) (l3 : K.lookup f3 = some ⟨oc3, od3, .func (PySem.W.fnOf "is_number" "is_number" (defArgs s_is_number) (defBody s_is_number) (defScope s_is_number) .none kV3 dc3 pm3 an3 cd3 ct3), sl3⟩) (c3 : PySem.W.codeIn K cd3 "is_number" = true) (k3 : PySem.W.keepIn K (.ref f3) = true)
    (a4 : PySem.W.nsIn K mainGlobals "is_fraction" = some (some (.ref f4))) (l4 : K.lookup f4 = some ⟨oc4, od4, .func (PySem.W.fnOf "is_fraction" "is_fraction" (defArgs s_is_fraction) (defBody s_is_fraction) (defScope s_is_fraction) .none kV4 dc4 pm4 an4 cd4 ct4), sl4⟩) (c4 : PySem.W.codeIn K cd4 "is_fraction" = true) (k4 : PySem.W.keepIn K (.ref f4) = true)
    (a5 : PySem.W.nsIn K mainGlobals "_law_bag" = some (some (.ref f5))) (l5 : K.lookup f5 = some ⟨oc5, od5, .func (PySem.W.fnOf "_law_bag" "_law_bag" (defArgs s_bag) (defBody s_bag) (defScope s_bag) .none kV5 dc5 pm5 an5 cd5 ct5), sl5⟩) (c5 : PySem.W.codeIn K cd5 "_law_bag" = true) (k5 : PySem.W.keepIn K (.ref f5) = true)
    (a6 : PySem.W.nsIn K mainGlobals "_law_pull" = some (some (.ref f6))) (l6 : K.lookup f6 = some ⟨oc6, od6, .func (PySem.W.fnOf "_law_pull" "_law_pull" (defArgs s_pull) (defBody s_pull) (defScope s_pull) .none kV6 dc6 pm6 an6 cd6 ct6), sl6⟩) (c6 : PySem.W.codeIn K cd6 "_law_pull" = true) (k6 : PySem.W.keepIn K (.ref f6) = true)
    (a7 : PySem.W.nsIn K mainGlobals "_law_of" = some (some (.ref f7))) (l7 : K.lookup f7 = some ⟨oc7, od7, .func (PySem.W.fnOf "_law_of" "_law_of" (defArgs s_of) (defBody s_of) (defScope s_of) .none kV7 dc7 pm7 an7 cd7 ct7), sl7⟩) (c7 : PySem.W.codeIn K cd7 "_law_of" = true) (k7 : PySem.W.keepIn K (.ref f7) = true)
    (a8 : PySem.W.nsIn K mainGlobals "_law_same" = some (some (.ref f8))) (l8 : K.lookup f8 = some ⟨oc8, od8, .func (PySem.W.fnOf "_law_same" "_law_same" (defArgs s_same) (defBody s_same) (defScope s_same) .none kV8 dc8 pm8 an8 cd8 ct8), sl8⟩) (c8 : PySem.W.codeIn K cd8 "_law_same" = true) (k8 : PySem.W.keepIn K (.ref f8) = true)
    (a9 : PySem.W.nsIn K mainGlobals "_law_field" = some (some (.ref f9))) (l9 : K.lookup f9 = some ⟨oc9, od9, .func (PySem.W.fnOf "_law_field" "_law_field" (defArgs s_field) (defBody s_field) (defScope s_field) .none kV9 dc9 pm9 an9 cd9 ct9), sl9⟩) (c9 : PySem.W.codeIn K cd9 "_law_field" = true) (k9 : PySem.W.keepIn K (.ref f9) = true)
    (a10 : PySem.W.nsIn K mainGlobals "_law_try" = some (some (.ref f10))) (l10 : K.lookup f10 = some ⟨oc10, od10, .func (PySem.W.fnOf "_law_try" "_law_try" (defArgs s_try) (defBody s_try) (defScope s_try) .none kV10 dc10 pm10 an10 cd10 ct10), sl10⟩) (c10 : PySem.W.codeIn K cd10 "_law_try" = true) (k10 : PySem.W.keepIn K (.ref f10) = true)
    (a11 : PySem.W.nsIn K mainGlobals "_law_gcd" = some (some (.ref f11))) (l11 : K.lookup f11 = some ⟨oc11, od11, .func (PySem.W.fnOf "_law_gcd" "_law_gcd" (defArgs s_gcd) (defBody s_gcd) (defScope s_gcd) .none kV11 dc11 pm11 an11 cd11 ct11), sl11⟩) (c11 : PySem.W.codeIn K cd11 "_law_gcd" = true) (k11 : PySem.W.keepIn K (.ref f11) = true)
    (a12 : PySem.W.nsIn K mainGlobals "_law_low" = some (some (.ref f12))) (l12 : K.lookup f12 = some ⟨oc12, od12, .func (PySem.W.fnOf "_law_low" "_law_low" (defArgs s_low) (defBody s_low) (defScope s_low) .none kV12 dc12 pm12 an12 cd12 ct12), sl12⟩) (c12 : PySem.W.codeIn K cd12 "_law_low" = true) (k12 : PySem.W.keepIn K (.ref f12) = true)
    (a13 : PySem.W.nsIn K mainGlobals "_law_neg" = some (some (.ref f13))) (l13 : K.lookup f13 = some ⟨oc13, od13, .func (PySem.W.fnOf "_law_neg" "_law_neg" (defArgs s_neg) (defBody s_neg) (defScope s_neg) .none kV13 dc13 pm13 an13 cd13 ct13), sl13⟩) (c13 : PySem.W.codeIn K cd13 "_law_neg" = true) (k13 : PySem.W.keepIn K (.ref f13) = true)
    (a14 : PySem.W.nsIn K mainGlobals "law" = some (some (.ref f14))) (l14 : K.lookup f14 = some ⟨oc14, od14, .func (PySem.W.fnOf "law" "law" (defArgs s_law) (defBody s_law) (defScope s_law) .none kV14 dc14 pm14 an14 cd14 ct14), sl14⟩) (c14 : PySem.W.codeIn K cd14 "law" = true) (k14 : PySem.W.keepIn K (.ref f14) = true)
    (z_abs : PySem.W.nsIn K mainGlobals "abs" = some none) (z_all : PySem.W.nsIn K mainGlobals "all" = some none) (z_bool : PySem.W.nsIn K mainGlobals "bool" = some none) (z_int : PySem.W.nsIn K mainGlobals "int" = some none) (z_isinstance : PySem.W.nsIn K mainGlobals "isinstance" = some none) (z_len : PySem.W.nsIn K mainGlobals "len" = some none) (z_list : PySem.W.nsIn K mainGlobals "list" = some none) (z_range : PySem.W.nsIn K mainGlobals "range" = some none) (z_str : PySem.W.nsIn K mainGlobals "str" = some none) (z_tuple : PySem.W.nsIn K mainGlobals "tuple" = some none)
    {cG cM cI fG fI tG octG ocG ocI : _} {odG odI odtG anG anI : Option Addr} {slG slI sltG : Array (Option Value)} {kVG dcG pmG cdG ctG kVI dcI pmI cdI ctI : Value} {kd1 kd2 : Tok} {ntG : Nat} {nmI qI : Str} {NI : Addr} {bsI bmI : List Value} {snI : List Str} {subI : List Value} {abI : Bool} {colI : Option Bool} {ddI : Option Addr} {k0I k1I k2I k3I k5I : Option Value}
    (x_gG : PySem.W.nsIn K mainGlobals "GrainError" = some (some (.ref cG))) (x_gM : PySem.W.nsIn K mainGlobals "MissingError" = some (some (.ref cM))) (x_gI : PySem.W.nsIn K mainGlobals "InvalidFraction" = some (some (.ref cI)))
    (x_rG : PySem.W.readsIn K cG (.type "type") = true) (x_sG : PySem.W.specialIn K (.ref cG) "__getattribute__" = some (some (.builtin "type.__getattribute__"))) (x_vG : PySem.W.findCls K (.ref cG) (.type "type") "__init__" = some (.val (.ref fG)))
    (x_lG : K.lookup fG = some ⟨ocG, odG, .func (PySem.W.fnOf "__init__" "GrainError.__init__" (defArgs s_GrainError___init__) (defBody s_GrainError___init__) (defScope s_GrainError___init__) (.ref tG) kVG dcG pmG anG cdG ctG), slG⟩) (x_cG : PySem.W.codeIn K cdG "GrainError.__init__" = true) (x_kG : PySem.W.keepIn K (.ref fG) = true)
    (x_tG : K.lookup tG = some ⟨octG, odtG, .seq #[.str "grainerror" kd1, .str "a value is wrong" kd2] ntG, sltG⟩)
    (x_lC : K.lookup cI = some (excClassObj nmI qI cI NI bsI bmI true snI subI abI colI ddI k0I k1I k2I k3I k5I "ValueError.__new__")) (x_bm : PySem.HandSPX.refsVE bmI = true)
    (x_sa : PySem.W.findIn K (.ref cI) "__setattr__" = some (some (.builtin "object.__setattr__"))) (x_ex : PySem.W.subIn K (.ref cI) (.type "BaseException") = some true) (x_ty : PySem.W.typeIn K (.ref cI) = some (.type "type")) (x_kC : PySem.W.keepIn K (.ref cI) = true)
    (x_iC : PySem.W.findIn K (.ref cI) "__init__" = some (some (.ref fI))) (x_tC : PySem.W.typeIn K (.ref fI) = some (.type "function"))
    (x_lI : K.lookup fI = some ⟨ocI, odI, .func (PySem.W.fnOf "__init__" "InvalidFraction.__init__" (defArgs s_InvalidFraction___init__) (defBody s_InvalidFraction___init__) (defScope s_InvalidFraction___init__) .none kVI dcI pmI anI cdI ctI), slI⟩) (x_cI : PySem.W.codeIn K cdI "InvalidFraction.__init__" = true) (x_kI : PySem.W.keepIn K (.ref fI) = true)
    (x_ve : PySem.W.findCls K (.type "ValueError") (.type "type") "__init__" = some (.val (.builtin "ValueError.__init__"))) (x_vn : PySem.W.nsIn K mainGlobals "ValueError" = some none)
    (x_eG : PySem.W.subIn K (.ref cG) (.type "BaseException") = some true) (x_dG : PySem.W.hasDictIn K cG = true) (x_yG : PySem.W.typeIn K (.ref cG) = some (.type "type")) (x_eM : PySem.W.subIn K (.ref cM) (.type "BaseException") = some true) (x_dM : PySem.W.hasDictIn K cM = true) (x_yM : PySem.W.typeIn K (.ref cM) = some (.type "type"))
    (x_IG : PySem.W.subIn K (.ref cI) (.ref cG) = some true) (x_IM : PySem.W.subIn K (.ref cI) (.ref cM) = some false) (x_ga : PySem.W.findIn K (.ref cI) "__getattribute__" = some (some (.builtin "BaseException.__getattribute__"))) (x_gg : PySem.W.findIn K (.ref cI) "__getattr__" = some none) (x_hd : PySem.W.hasDictIn K cI = true) (x_nw : PySem.W.findIn K (.ref cI) "word" = some none) :
    ∃ fd : FuncData, (∀ (s : Shared) (v : Value), BindsTo s fd ⟨[v], []⟩ [("_law_script", v)]) ∧ (∃ o, K.lookup fa = some o ∧ o.data = .func fd) ∧ ∀ (c Pt : Addr), fd.code = .ref c → ∀ base : Heap, K.In base → base.Ns mainGlobals mg → LamX.TabB base mg c Pt → FnOk l.prog w K mg base CX0 12 fa fd ["_law_script"] (spLaw K Pt) := by
  have e := hfa.symm.trans (PySem.W.mg_of X G a14)
  cases e
  have F1 := fun_mk (st := s_common_divisor) l1 c1 k1
  have b1 := F1.binds (ps := ["one", "other"]) fun _ _ _ _ _ _ us hl => match us, hl with | [_, _], _ => rfl
  have F2 := fun_mk (st := s_reduced) l2 c2 k2
  have b2 := F2.binds (ps := ["numerator", "denominator"]) fun _ _ _ _ _ _ us hl => match us, hl with | [_, _], _ => rfl
  have F3 := fun_mk (st := s_is_number) l3 c3 k3
  have b3 := F3.binds (ps := ["value"]) fun _ _ _ _ _ _ us hl => match us, hl with | [_], _ => rfl
  have F4 := fun_mk (st := s_is_fraction) l4 c4 k4
  have b4 := F4.binds (ps := ["value"]) fun _ _ _ _ _ _ us hl => match us, hl with | [_], _ => rfl
  have F5 := fun_mk (st := s_bag) l5 c5 k5
  have b5 := F5.binds (ps := ["_law_script"]) fun _ _ _ _ _ _ us hl => match us, hl with | [_], _ => rfl
  have F6 := fun_mk (st := s_pull) l6 c6 k6
  have b6 := F6.binds (ps := ["_law_bag_here", "_law_many"]) fun _ _ _ _ _ _ us hl => match us, hl with | [_, _], _ => rfl
  have F7 := fun_mk (st := s_of) l7 c7 k7
  have b7 := F7.binds (ps := ["_law_bag_here", "_law_some"]) fun _ _ _ _ _ _ us hl => match us, hl with | [_, _], _ => rfl
  have F8 := fun_mk (st := s_same) l8 c8 k8
  have b8 := F8.binds (ps := ["_law_found", "_law_due"]) fun _ _ _ _ _ _ us hl => match us, hl with | [_, _], _ => rfl
  have F9 := fun_mk (st := s_field) l9 c9 k9
  have b9 := F9.binds (ps := ["_law_e"]) fun _ _ _ _ _ _ us hl => match us, hl with | [_], _ => rfl
  have F10 := fun_mk (st := s_try) l10 c10 k10
  have b10 := F10.binds (ps := ["_law_ask"]) fun _ _ _ _ _ _ us hl => match us, hl with | [_], _ => rfl
  have F11 := fun_mk (st := s_gcd) l11 c11 k11
  have b11 := F11.binds (ps := ["_law_a", "_law_b"]) fun _ _ _ _ _ _ us hl => match us, hl with | [_, _], _ => rfl
  have F12 := fun_mk (st := s_low) l12 c12 k12
  have b12 := F12.binds (ps := ["_law_a", "_law_b"]) fun _ _ _ _ _ _ us hl => match us, hl with | [_, _], _ => rfl
  have F13 := fun_mk (st := s_neg) l13 c13 k13
  have b13 := F13.binds (ps := ["_law_p"]) fun _ _ _ _ _ _ us hl => match us, hl with | [_], _ => rfl
  have F14 := fun_mk (st := s_law) l14 c14 k14
  have b14 := F14.binds (ps := ["_law_script"]) fun _ _ _ _ _ _ us hl => match us, hl with | [_], _ => rfl
  have T : Txt K mg ⟨f1, PySem.W.fnOf "common_divisor" "common_divisor" (defArgs s_common_divisor) (defBody s_common_divisor) (defScope s_common_divisor) .none kV1 dc1 pm1 an1 cd1 ct1, f2, PySem.W.fnOf "reduced" "reduced" (defArgs s_reduced) (defBody s_reduced) (defScope s_reduced) .none kV2 dc2 pm2 an2 cd2 ct2, f3, PySem.W.fnOf "is_number" "is_number" (defArgs s_is_number) (defBody s_is_number) (defScope s_is_number) .none kV3 dc3 pm3 an3 cd3 ct3, f4, PySem.W.fnOf "is_fraction" "is_fraction" (defArgs s_is_fraction) (defBody s_is_fraction) (defScope s_is_fraction) .none kV4 dc4 pm4 an4 cd4 ct4, f5, PySem.W.fnOf "_law_bag" "_law_bag" (defArgs s_bag) (defBody s_bag) (defScope s_bag) .none kV5 dc5 pm5 an5 cd5 ct5, f6, PySem.W.fnOf "_law_pull" "_law_pull" (defArgs s_pull) (defBody s_pull) (defScope s_pull) .none kV6 dc6 pm6 an6 cd6 ct6, f7, PySem.W.fnOf "_law_of" "_law_of" (defArgs s_of) (defBody s_of) (defScope s_of) .none kV7 dc7 pm7 an7 cd7 ct7, f8, PySem.W.fnOf "_law_same" "_law_same" (defArgs s_same) (defBody s_same) (defScope s_same) .none kV8 dc8 pm8 an8 cd8 ct8, f9, PySem.W.fnOf "_law_field" "_law_field" (defArgs s_field) (defBody s_field) (defScope s_field) .none kV9 dc9 pm9 an9 cd9 ct9, f10, PySem.W.fnOf "_law_try" "_law_try" (defArgs s_try) (defBody s_try) (defScope s_try) .none kV10 dc10 pm10 an10 cd10 ct10, f11, PySem.W.fnOf "_law_gcd" "_law_gcd" (defArgs s_gcd) (defBody s_gcd) (defScope s_gcd) .none kV11 dc11 pm11 an11 cd11 ct11, f12, PySem.W.fnOf "_law_low" "_law_low" (defArgs s_low) (defBody s_low) (defScope s_low) .none kV12 dc12 pm12 an12 cd12 ct12, f13, PySem.W.fnOf "_law_neg" "_law_neg" (defArgs s_neg) (defBody s_neg) (defScope s_neg) .none kV13 dc13 pm13 an13 cd13 ct13, fa, PySem.W.fnOf "law" "law" (defArgs s_law) (defBody s_law) (defScope s_law) .none kV14 dc14 pm14 an14 cd14 ct14⟩ := ⟨⟨F1, PySem.W.mg_of X G a1, b1⟩, ⟨F2, PySem.W.mg_of X G a2, b2⟩, ⟨F3, PySem.W.mg_of X G a3, b3⟩, ⟨F4, PySem.W.mg_of X G a4, b4⟩, ⟨F5, PySem.W.mg_of X G a5, b5⟩, ⟨F6, PySem.W.mg_of X G a6, b6⟩, ⟨F7, PySem.W.mg_of X G a7, b7⟩, ⟨F8, PySem.W.mg_of X G a8, b8⟩, ⟨F9, PySem.W.mg_of X G a9, b9⟩, ⟨F10, PySem.W.mg_of X G a10, b10⟩, ⟨F11, PySem.W.mg_of X G a11, b11⟩, ⟨F12, PySem.W.mg_of X G a12, b12⟩, ⟨F13, PySem.W.mg_of X G a13, b13⟩, ⟨F14, PySem.W.mg_of X G a14, b14⟩, PySem.W.mg_none_of X G z_abs, PySem.W.mg_none_of X G z_all, PySem.W.mg_none_of X G z_bool, PySem.W.mg_none_of X G z_int, PySem.W.mg_none_of X G z_isinstance, PySem.W.mg_none_of X G z_len, PySem.W.mg_none_of X G z_list, PySem.W.mg_none_of X G z_range, PySem.W.mg_none_of X G z_str, PySem.W.mg_none_of X G z_tuple⟩
  have FG : FunD K "__init__" "GrainError.__init__" (defArgs s_GrainError___init__) (defBody s_GrainError___init__) (defScope s_GrainError___init__) [.str "grainerror", .str "a value is wrong"] [] fG (PySem.W.fnOf "__init__" "GrainError.__init__" (defArgs s_GrainError___init__) (defBody s_GrainError___init__) (defScope s_GrainError___init__) (.ref tG) kVG dcG pmG anG cdG ctG) :=
    ⟨⟨_, _, _, _, _, _, _, _, _, _, rfl, x_lG, x_cG, .inr ⟨by simp, tG, _, [.str "grainerror" kd1, .str "a value is wrong" kd2], _, rfl, x_tG, rfl, .cons ⟨_, rfl⟩ (.cons ⟨_, rfl⟩ .nil)⟩, .inl rfl⟩, x_kG⟩
  have bG : Binds K (PySem.W.fnOf "__init__" "GrainError.__init__" (defArgs s_GrainError___init__) (defBody s_GrainError___init__) (defScope s_GrainError___init__) (.ref tG) kVG dcG pmG anG cdG ctG) ["self", "word", "message"] [] := by
    obtain ⟨ds, v, b⟩ := FG.binds1 (ps := ["self", "word", "message"]) 3 2 (by simp) rfl (fun T kV doc pm an cdv ct us its h1 h2 => match us, h1, its, h2 with | [_, _, _], _, [_, _], _ => ⟨_, rfl, rfl⟩)
    cases v
    exact b
  have FI := fun_mk (st := s_InvalidFraction___init__) x_lI x_cI x_kI
  have bI := FI.binds (ps := ["self"]) fun _ _ _ _ _ _ us hl => match us, hl with | [_], _ => rfl
  have em : PySem.W.exmAny K (.ref cI) [.ref cG, .ref cM] = some true := by
    unfold PySem.W.exmAny PySem.W.exmAny PySem.W.exmAny
    rw [PySem.W.exm_ref x_eG x_dG x_yG x_IG, PySem.W.exm_ref x_eM x_dM x_yM x_IM]
    rfl
  have ET : ExT K mg ⟨cG, cM, cI, fG, (PySem.W.fnOf "__init__" "GrainError.__init__" (defArgs s_GrainError___init__) (defBody s_GrainError___init__) (defScope s_GrainError___init__) (.ref tG) kVG dcG pmG anG cdG ctG), fI, (PySem.W.fnOf "__init__" "InvalidFraction.__init__" (defArgs s_InvalidFraction___init__) (defBody s_InvalidFraction___init__) (defScope s_InvalidFraction___init__) .none kVI dcI pmI anI cdI ctI)⟩ := ⟨PySem.W.mg_of X G x_gG, PySem.W.mg_of X G x_gM, PySem.W.mg_of X G x_gI, ⟨x_rG, x_sG⟩, ⟨x_vG, rfl⟩, FG, bG, ⟨⟨_, _, _, _, _, _, _, _, _, _, _, _, _, _, _, x_lC, x_bm⟩, x_sa, x_ex, x_ty, x_kC⟩, x_iC, x_tC, FI, bI, x_ve, PySem.W.mg_none_of X G x_vn, em, ⟨x_ga, x_gg, x_ex, x_hd⟩, x_nw⟩
  exact ⟨PySem.W.fnOf "law" "law" (defArgs s_law) (defBody s_law) (defScope s_law) .none kV14 dc14 pm14 an14 cd14 ct14, fun s v => .of_eq rfl, ⟨_, l14, rfl⟩, fun c Pt hc base _ _ TB => ok_law T ET hc TB⟩
end Toy
open PySem PySem.W PyProof.Rows L2 in
set_option maxRecDepth 100000 in
set_option maxHeartbeats 0 in
theorem PySem.Challenge.cw_graincourse_k02_lowest_terms_holds : PySem.Challenge.rw_graincourse_k02_lowest_terms.Holds := by
  w_on; o_law; k_head; (case hw => w_witness2)
  k_fill
  refine Toy.walkT (l := PySem.Challenge.rw_graincourse_k02_lowest_terms) (n := 63) (k := 12) (x := "_law_script") (sp := Toy.spLaw) rfl (by decide) rfl ⟨rfl, by decide, by decide⟩ (fun w h Y => PySem.W.km_in_of Y) ?rec ?tab ?F (fun _ _ _ a ns hl hT hS => ⟨a, ns, rfl, hS, hT, hl, fun _ => rfl⟩)
  case rec => first | rfl | decide +kernel
  case tab => intro w; first | rfl | decide +kernel | k_is
  case F =>
    intro w mg fa h KX G hmg
    refine' Toy.all_mk KX G hmg ?a1 ?l1 ?c1 ?k1 ?a2 ?l2 ?c2 ?k2 ?a3 ?l3 ?c3 ?k3 ?a4 ?l4 ?c4 ?k4 ?a5 ?l5 ?c5 ?k5 ?a6 ?l6 ?c6 ?k6 ?a7 ?l7 ?c7 ?k7 ?a8 ?l8 ?c8 ?k8 ?a9 ?l9 ?c9 ?k9 ?a10 ?l10 ?c10 ?k10 ?a11 ?l11 ?c11 ?k11 ?a12 ?l12 ?c12 ?k12 ?a13 ?l13 ?c13 ?k13 ?a14 ?l14 ?c14 ?k14 ?z_abs ?z_all ?z_bool ?z_int ?z_isinstance ?z_len ?z_list ?z_range ?z_str ?z_tuple ?x_gG ?x_gM ?x_gI ?x_rG ?x_sG ?x_vG ?x_lG ?x_cG ?x_kG ?x_tG ?x_lC ?x_bm ?x_sa ?x_ex ?x_ty ?x_kC ?x_iC ?x_tC ?x_lI ?x_cI ?x_kI ?x_ve ?x_vn ?x_eG ?x_dG ?x_yG ?x_eM ?x_dM ?x_yM ?x_IG ?x_IM ?x_ga ?x_gg ?x_hd ?x_nw
    (case a1 => k_is)
    (case l1 => k_is)
    (case c1 => k_is)
    (case k1 => k_is)
    (case a2 => k_is)
    (case l2 => k_is)
    (case c2 => k_is)
    (case k2 => k_is)
    (case a3 => k_is)
    (case l3 => k_is)
    (case c3 => k_is)
    (case k3 => k_is)
    (case a4 => k_is)
    (case l4 => k_is)
    (case c4 => k_is)
    (case k4 => k_is)
    (case a5 => k_is)
    (case l5 => k_is)
    (case c5 => k_is)
    (case k5 => k_is)
    (case a6 => k_is)
    (case l6 => k_is)
    (case c6 => k_is)
    (case k6 => k_is)
    (case a7 => k_is)
    (case l7 => k_is)
    (case c7 => k_is)
    (case k7 => k_is)
    (case a8 => k_is)
    (case l8 => k_is)
    (case c8 => k_is)
    (case k8 => k_is)
    (case a9 => k_is)
    (case l9 => k_is)
    (case c9 => k_is)
    (case k9 => k_is)
    (case a10 => k_is)
    (case l10 => k_is)
    (case c10 => k_is)
    (case k10 => k_is)
    (case a11 => k_is)
    (case l11 => k_is)
    (case c11 => k_is)
    (case k11 => k_is)
    (case a12 => k_is)
    (case l12 => k_is)
    (case c12 => k_is)
    (case k12 => k_is)
    (case a13 => k_is)
    (case l13 => k_is)
    (case c13 => k_is)
    (case k13 => k_is)
    (case a14 => k_is)
    (case l14 => k_is)
    (case c14 => k_is)
    (case k14 => k_is)
    (case z_abs => k_is)
    (case z_all => k_is)
    (case z_bool => k_is)
    (case z_int => k_is)
    (case z_isinstance => k_is)
    (case z_len => k_is)
    (case z_list => k_is)
    (case z_range => k_is)
    (case z_str => k_is)
    (case z_tuple => k_is)
    (case x_gG => k_is)
    (case x_gM => k_is)
    (case x_gI => k_is)
    (case x_rG => k_is)
    (case x_sG => k_is)
    (case x_vG => k_is)
    (case x_lG => k_is)
    (case x_cG => k_is)
    (case x_kG => k_is)
    (case x_tG => k_is)
    (case x_lC => k_is)
    (case x_bm => decide +kernel)
    (case x_sa => k_is)
    (case x_ex => k_is)
    (case x_ty => k_is)
    (case x_kC => k_is)
    (case x_iC => k_is)
    (case x_tC => k_is)
    (case x_lI => k_is)
    (case x_cI => k_is)
    (case x_kI => k_is)
    (case x_ve => k_is)
    (case x_vn => k_is)
    (case x_eG => k_is)
    (case x_dG => k_is)
    (case x_yG => k_is)
    (case x_eM => k_is)
    (case x_dM => k_is)
    (case x_yM => k_is)
    (case x_IG => k_is)
    (case x_IM => k_is)
    (case x_ga => k_is)
    (case x_gg => k_is)
    (case x_hd => k_is)
    (case x_nw => k_is)


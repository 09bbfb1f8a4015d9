import PyProof.Rows.All
import Wide.All
import OpenK.AllK
import Wide.FinOn
import HandS.Base
import HandS.Call
import HandS.List
import HandS.Comp
import HandS.Ends
import HandS.Dict
import HandS.Iter
import HandS.Text
import HandS.Words
import HandS.WordsList
import HandS.Wide
import HandS.IsInst
import HandS.More
import HandS.Star
import HandS.Flow
import HandS.NoneIn
import PySem.Challenge.RW_graincourse_k03_sums_and_products
set_option Elab.async false
set_option maxRecDepth 100000
set_option exponentiation.threshold 100000
set_option linter.all false

namespace Toy
open PySem L2
def top (i : Nat) : Stmt := PySem.Challenge.pw_graincourse_k03_sums_and_products.main.body.getD i (.Pass ⟨0, 0, 0, 0⟩)
abbrev s_GrainError___init__ : Stmt := inClass (top 1) 0
abbrev s_InvalidFraction___init__ : Stmt := inClass (top 2) 0
abbrev s_common_divisor : Stmt := top 4
abbrev s_reduced : Stmt := top 5
abbrev s_plus : Stmt := top 6
abbrev s_times : Stmt := top 7
abbrev s_total : Stmt := top 8
abbrev s_negative : Stmt := top 9
abbrev s_order : Stmt := top 10
abbrev s_bag : Stmt := top 12
abbrev s_pull : Stmt := top 13
abbrev s_of : Stmt := top 14
abbrev s_same : Stmt := top 15
abbrev s_gcd : Stmt := top 16
abbrev s_low : Stmt := top 17
abbrev s_add : Stmt := top 18
abbrev s_sum : Stmt := top 19
abbrev s_mul : Stmt := top 20
abbrev s_neg : Stmt := top 21
abbrev s_less : Stmt := top 22
abbrev s_ratio : Stmt := top 23
abbrev s_law : Stmt := top 24
theorem sc_GrainError___init__ : FnScope ["self", "word", "message"] ["self", "word", "message"] (defScope s_GrainError___init__) := ⟨rfl, rfl, rfl, by decide +kernel, rfl, by decide +kernel, by decide +kernel⟩
theorem sc_InvalidFraction___init__ : FnScope ["self"] ["self"] (defScope s_InvalidFraction___init__) := ⟨rfl, rfl, rfl, by decide +kernel, rfl, by decide +kernel, by decide +kernel⟩
theorem sc_common_divisor : FnScope ["one", "other"] ["one", "other"] (defScope s_common_divisor) := ⟨rfl, rfl, rfl, by decide +kernel, rfl, by decide +kernel, by decide +kernel⟩
theorem sc_reduced : FnScope ["numerator", "denominator", "shared"] ["numerator", "denominator"] (defScope s_reduced) := ⟨rfl, rfl, rfl, by decide +kernel, rfl, by decide +kernel, by decide +kernel⟩
theorem sc_plus : FnScope ["parts"] ["parts"] (defScope s_plus) := ⟨rfl, rfl, rfl, by decide +kernel, rfl, by decide +kernel, by decide +kernel⟩
theorem sc_times : FnScope ["parts", "numerator", "denominator", "above", "below"] ["parts"] (defScope s_times) := ⟨rfl, rfl, rfl, by decide +kernel, rfl, by decide +kernel, by decide +kernel⟩
theorem sc_total : FnScope ["parts", "numerator", "denominator", "above", "below", "shared"] ["parts"] (defScope s_total) := ⟨rfl, rfl, rfl, by decide +kernel, rfl, by decide +kernel, by decide +kernel⟩
theorem sc_negative : FnScope ["part", "numerator", "denominator"] ["part"] (defScope s_negative) := ⟨rfl, rfl, rfl, by decide +kernel, rfl, by decide +kernel, by decide +kernel⟩
theorem sc_order : FnScope ["one", "other", "left", "right"] ["one", "other"] (defScope s_order) := ⟨rfl, rfl, rfl, by decide +kernel, rfl, by decide +kernel, by decide +kernel⟩
theorem sc_bag : FnScope ["_law_script", "_law_salt", "_law_cell"] ["_law_script"] (defScope s_bag) := ⟨rfl, rfl, rfl, by decide +kernel, rfl, by decide +kernel, by decide +kernel⟩
theorem sc_pull : FnScope ["_law_bag_here", "_law_many", "_law_cell", "_law_digit", "_law_seed"] ["_law_bag_here", "_law_many"] (defScope s_pull) := ⟨rfl, rfl, rfl, by decide +kernel, rfl, by decide +kernel, by decide +kernel⟩
theorem sc_of : FnScope ["_law_bag_here", "_law_some"] ["_law_bag_here", "_law_some"] (defScope s_of) := ⟨rfl, rfl, rfl, by decide +kernel, rfl, by decide +kernel, by decide +kernel⟩
theorem sc_same : FnScope ["_law_found", "_law_due", "_law_k"] ["_law_found", "_law_due"] (defScope s_same) := ⟨rfl, rfl, rfl, by decide +kernel, rfl, by decide +kernel, by decide +kernel⟩
theorem sc_gcd : FnScope ["_law_a", "_law_b"] ["_law_a", "_law_b"] (defScope s_gcd) := ⟨rfl, rfl, rfl, by decide +kernel, rfl, by decide +kernel, by decide +kernel⟩
theorem sc_low : FnScope ["_law_a", "_law_b", "_law_by"] ["_law_a", "_law_b"] (defScope s_low) := ⟨rfl, rfl, rfl, by decide +kernel, rfl, by decide +kernel, by decide +kernel⟩
theorem sc_add : FnScope ["_law_p", "_law_q"] ["_law_p", "_law_q"] (defScope s_add) := ⟨rfl, rfl, rfl, by decide +kernel, rfl, by decide +kernel, by decide +kernel⟩
theorem sc_sum : FnScope ["_law_parts", "_law_found", "_law_part"] ["_law_parts"] (defScope s_sum) := ⟨rfl, rfl, rfl, by decide +kernel, rfl, by decide +kernel, by decide +kernel⟩
theorem sc_mul : FnScope ["_law_p", "_law_q"] ["_law_p", "_law_q"] (defScope s_mul) := ⟨rfl, rfl, rfl, by decide +kernel, rfl, by decide +kernel, by decide +kernel⟩
theorem sc_neg : FnScope ["_law_p"] ["_law_p"] (defScope s_neg) := ⟨rfl, rfl, rfl, by decide +kernel, rfl, by decide +kernel, by decide +kernel⟩
theorem sc_less : FnScope ["_law_p", "_law_q"] ["_law_p", "_law_q"] (defScope s_less) := ⟨rfl, rfl, rfl, by decide +kernel, rfl, by decide +kernel, by decide +kernel⟩
theorem sc_ratio : FnScope ["_law_bag_here", "_law_most", "_law_top"] ["_law_bag_here", "_law_most"] (defScope s_ratio) := ⟨rfl, rfl, rfl, by decide +kernel, rfl, by decide +kernel, by decide +kernel⟩
theorem sc_law : FnScope ["_law_script", "_law_bag_here", "_law_turn", "_law_some", "_law_product", "_law_one", "_law_given", "_law_a", "_law_b", "_law_c", "_law_found", "_law_due", "_law_signs", "_law_sign", "_law_k"] ["_law_script"] (defScope s_law) := ⟨rfl, rfl, rfl, by decide +kernel, rfl, by decide +kernel, by decide +kernel⟩
structure DfS (K : PySem.W.Frag) (mg : Str → Option Value) (x : Str) (st : Stmt) (pv : Str) (f : Addr) (fd : FuncData) : Prop where
  F : Fun K x x st f fd
  m : mg x = some (.ref f)
  hb : ∀ rest : List Value, bindArgs fd ⟨rest, []⟩ = (newTuple rest >>= fun t => pure [(pv, t)])
structure Df (K : PySem.W.Frag) (mg : Str → Option Value) (x : Str) (st : Stmt) (ps : List Str) (f : Addr) (fd : FuncData) : Prop where
  F : Fun K x x st f fd
  m : mg x = some (.ref f)
  b : Binds K fd ps []
structure Ad where
  f_common_divisor : Addr
  fd_common_divisor : FuncData
  f_reduced : Addr
  fd_reduced : FuncData
  f_plus : Addr
  fd_plus : FuncData
  f_times : Addr
  fd_times : FuncData
  f_total : Addr
  fd_total : FuncData
  f_negative : Addr
  fd_negative : FuncData
  f_order : Addr
  fd_order : FuncData
  f_bag : Addr
  fd_bag : FuncData
  f_pull : Addr
  fd_pull : FuncData
  f_of : Addr
  fd_of : FuncData
  f_same : Addr
  fd_same : FuncData
  f_gcd : Addr
  fd_gcd : FuncData
  f_low : Addr
  fd_low : FuncData
  f_add : Addr
  fd_add : FuncData
  f_sum : Addr
  fd_sum : FuncData
  f_mul : Addr
  fd_mul : FuncData
  f_neg : Addr
  fd_neg : FuncData
  f_less : Addr
  fd_less : FuncData
  f_ratio : Addr
  fd_ratio : FuncData
  f_law : Addr
  fd_law : FuncData
structure Txt (K : PySem.W.Frag) (mg : Str → Option Value) (A : Ad) : Prop where
  d_common_divisor : Df K mg "common_divisor" s_common_divisor ["one", "other"] A.f_common_divisor A.fd_common_divisor
  d_reduced : Df K mg "reduced" s_reduced ["numerator", "denominator"] A.f_reduced A.fd_reduced
  d_plus : DfS K mg "plus" s_plus "parts" A.f_plus A.fd_plus
  d_times : DfS K mg "times" s_times "parts" A.f_times A.fd_times
  d_total : Df K mg "total" s_total ["parts"] A.f_total A.fd_total
  d_negative : Df K mg "negative" s_negative ["part"] A.f_negative A.fd_negative
  d_order : Df K mg "order" s_order ["one", "other"] A.f_order A.fd_order
  d_bag : Df K mg "_law_bag" s_bag ["_law_script"] A.f_bag A.fd_bag
  d_pull : Df K mg "_law_pull" s_pull ["_law_bag_here", "_law_many"] A.f_pull A.fd_pull
  d_of : Df K mg "_law_of" s_of ["_law_bag_here", "_law_some"] A.f_of A.fd_of
  d_same : Df K mg "_law_same" s_same ["_law_found", "_law_due"] A.f_same A.fd_same
  d_gcd : Df K mg "_law_gcd" s_gcd ["_law_a", "_law_b"] A.f_gcd A.fd_gcd
  d_low : Df K mg "_law_low" s_low ["_law_a", "_law_b"] A.f_low A.fd_low
  d_add : Df K mg "_law_add" s_add ["_law_p", "_law_q"] A.f_add A.fd_add
  d_sum : Df K mg "_law_sum" s_sum ["_law_parts"] A.f_sum A.fd_sum
  d_mul : Df K mg "_law_mul" s_mul ["_law_p", "_law_q"] A.f_mul A.fd_mul
  d_neg : Df K mg "_law_neg" s_neg ["_law_p"] A.f_neg A.fd_neg
  d_less : Df K mg "_law_less" s_less ["_law_p", "_law_q"] A.f_less A.fd_less
  d_ratio : Df K mg "_law_ratio" s_ratio ["_law_bag_here", "_law_most"] A.f_ratio A.fd_ratio
  d_law : Df K mg "law" s_law ["_law_script"] A.f_law A.fd_law
  abs : mg "abs" = none
  all : mg "all" = none
  bool : mg "bool" = none
  int : mg "int" = none
  isinstance : mg "isinstance" = none
  len : mg "len" = none
  list : mg "list" = none
  range : mg "range" = none
  str : mg "str" = none
  tuple : mg "tuple" = none
/-! ## Fractions: the mathematics, over Lean's own Rat -/
namespace RM
theorem num_pos {a b : Int} (h : 0 < b) : (Rat.divInt a b).num = a / ((Int.gcd a b : Nat) : Int) := by
  rw [Rat.num_divInt, Int.sign_eq_one_of_pos h, Int.one_mul, Int.gcd_comm]
theorem den_any {a b : Int} (h : b ≠ 0) : (((Rat.divInt a b).den : Nat) : Int) = ((b.natAbs : Nat) : Int) / ((Int.gcd a b : Nat) : Int) := by
  rw [Rat.den_divInt, if_neg h, Int.gcd_comm, Int.natCast_ediv]
theorem den_pos {a b : Int} (h : 0 < b) : (((Rat.divInt a b).den : Nat) : Int) = b / ((Int.gcd a b : Nat) : Int) := by
  rw [den_any (by omega), Int.natAbs_of_nonneg (by omega)]
theorem gcd_ne {a b : Int} (h : b ≠ 0) : ((Int.gcd a b : Nat) : Int) ≠ 0 := by
  have : Int.gcd a b ≠ 0 := by
    intro e
    rw [Int.gcd_eq_zero_iff] at e
    exact h e.2
  omega
theorem gcd_posi {a b : Int} (h : b ≠ 0) : 0 < ((Int.gcd a b : Nat) : Int) := by
  have := gcd_ne (a := a) h
  omega
theorem fdiv_neg_dvd {a g : Int} (hg : g ≠ 0) (h : g ∣ a) : a.fdiv (-g) = -(a / g) := by
  rw [Int.fdiv_neg hg, if_pos h, Int.fdiv_eq_ediv_of_dvd h]
theorem num_neg {a b : Int} (h : b < 0) : (Rat.divInt a b).num = a.fdiv (-((Int.gcd a b : Nat) : Int)) := by
  rw [fdiv_neg_dvd (gcd_ne (by omega)) (Int.gcd_dvd_left ..), Rat.num_divInt, Int.sign_eq_neg_one_of_neg h, Int.gcd_comm]
  rw [Int.neg_mul, Int.one_mul, Int.neg_ediv_of_dvd (Int.gcd_dvd_left ..)]
theorem den_neg {a b : Int} (h : b < 0) : (((Rat.divInt a b).den : Nat) : Int) = b.fdiv (-((Int.gcd a b : Nat) : Int)) := by
  rw [fdiv_neg_dvd (gcd_ne (by omega)) (Int.gcd_dvd_right ..), den_any (by omega), ← Int.neg_ediv_of_dvd (Int.gcd_dvd_right ..)]
  congr 1
  omega
theorem gcd_step (a b : Int) : Int.gcd b (a % b) = Int.gcd a b := by
  have h := Int.gcd_add_mul_left_right b (a % b) (a / b)
  rw [Int.emod_add_mul_ediv] at h
  rw [← h, Int.gcd_comm]
theorem add_eq (x y : Rat) : Rat.divInt (x.num * y.den + y.num * x.den) (x.den * y.den) = x + y := by
  have h := Rat.divInt_add_divInt x.num y.num (d₁ := x.den) (d₂ := y.den) (by have := x.den_nz; omega) (by have := y.den_nz; omega)
  rw [Rat.num_divInt_den, Rat.num_divInt_den] at h
  exact h.symm
theorem mul_eq (x y : Rat) : Rat.divInt (x.num * y.num) (x.den * y.den) = x * y := by
  have h := Rat.divInt_mul_divInt x.num y.num (d₁ := x.den) (d₂ := y.den)
  rw [Rat.num_divInt_den, Rat.num_divInt_den] at h
  exact h.symm
theorem den_p (x : Rat) : (0 : Int) < ((x.den : Nat) : Int) := by
  have := x.den_nz
  omega
/-- numbers below 2 ^ k -/
def Bd (k : Nat) (x : Rat) : Prop := x.num.natAbs < 2 ^ k ∧ x.den < 2 ^ k
theorem pow_le {j k : Nat} (h : j ≤ k) : 2 ^ j ≤ 2 ^ k := Nat.pow_le_pow_right (by decide) h
theorem Bd.mono {j k : Nat} {x : Rat} (b : Bd j x) (h : j ≤ k) : Bd k x := ⟨Nat.lt_of_lt_of_le b.1 (pow_le h), Nat.lt_of_lt_of_le b.2 (pow_le h)⟩
theorem div_num_le {a b : Int} (h : b ≠ 0) : (Rat.divInt a b).num.natAbs ≤ a.natAbs := by
  by_cases h1 : 0 < b
  · rw [num_pos h1]
    exact Int.natAbs_ediv_le_natAbs ..
  · rw [num_neg (by omega), fdiv_neg_dvd (gcd_ne h) (Int.gcd_dvd_left ..), Int.natAbs_neg]
    exact Int.natAbs_ediv_le_natAbs ..
theorem div_den_le {a b : Int} (h : b ≠ 0) : (Rat.divInt a b).den ≤ b.natAbs := by
  rw [Rat.den_divInt, if_neg h]
  exact Nat.div_le_self _ _
theorem Bd.div {a b : Int} {k : Nat} (h : b ≠ 0) (ha : a.natAbs < 2 ^ k) (hb : b.natAbs < 2 ^ k) : Bd k (Rat.divInt a b) :=
  ⟨Nat.lt_of_le_of_lt (div_num_le h) ha, Nat.lt_of_le_of_lt (div_den_le h) hb⟩
theorem abs_mul_lt {a b : Int} {j k : Nat} (ha : a.natAbs < 2 ^ j) (hb : b.natAbs < 2 ^ k) : (a * b).natAbs < 2 ^ (j + k) := by
  rw [Int.natAbs_mul, Nat.pow_add]
  exact Nat.mul_lt_mul'' ha hb
theorem abs_add_lt {a b : Int} {k : Nat} (ha : a.natAbs < 2 ^ k) (hb : b.natAbs < 2 ^ k) : (a + b).natAbs < 2 ^ (k + 1) := by
  rw [Nat.pow_succ]
  omega
theorem nat_abs (n : Nat) : ((n : Nat) : Int).natAbs = n := Int.natAbs_natCast n
theorem Bd.den {k : Nat} {x : Rat} (b : Bd k x) : ((x.den : Nat) : Int).natAbs < 2 ^ k := by
  rw [nat_abs]
  exact b.2
theorem cross_lt {j k : Nat} {x y : Rat} (bx : Bd j x) (bY : Bd k y) : (x.num * y.den + y.num * x.den).natAbs < 2 ^ (j + k + 1) :=
  abs_add_lt (abs_mul_lt bx.1 bY.den) (by rw [Nat.add_comm j k]; exact abs_mul_lt bY.1 bx.den)
theorem dd_ne (x y : Rat) : ((x.den : Nat) : Int) * ((y.den : Nat) : Int) ≠ 0 := Int.ne_of_gt (Int.mul_pos (den_p x) (den_p y))
theorem dd_pos (x y : Rat) : 0 < ((x.den : Nat) : Int) * ((y.den : Nat) : Int) := Int.mul_pos (den_p x) (den_p y)
theorem Bd.add {j k : Nat} {x y : Rat} (bx : Bd j x) (bY : Bd k y) : Bd (j + k + 1) (x + y) := by
  rw [← add_eq]
  exact Bd.div (dd_ne x y) (cross_lt bx bY) (Nat.lt_of_lt_of_le (abs_mul_lt bx.den bY.den) (pow_le (by omega)))
theorem Bd.mul {j k : Nat} {x y : Rat} (bx : Bd j x) (bY : Bd k y) : Bd (j + k) (x * y) := by
  rw [← mul_eq]
  exact Bd.div (dd_ne x y) (abs_mul_lt bx.1 bY.1) (abs_mul_lt bx.den bY.den)
theorem Bd.neg {k : Nat} {x : Rat} (b : Bd k x) : Bd k (-x) := by
  refine ⟨?_, ?_⟩
  · rw [Rat.neg_num, Int.natAbs_neg]
    exact b.1
  · rw [Rat.neg_den]
    exact b.2
theorem Bd.zero {k : Nat} (h : 1 ≤ k) : Bd k 0 := Bd.mono (j := 1) ⟨by decide, by decide⟩ h
theorem Bd.one {k : Nat} (h : 1 ≤ k) : Bd k 1 := Bd.mono (j := 1) ⟨by decide, by decide⟩ h
/-- sums and products from the left -/
def sumR (qs : List Rat) : Rat := qs.foldl (· + ·) 0
def mulR (qs : List Rat) : Rat := qs.foldl (· * ·) 1
theorem take_succ {α : Type} {xs : List α} {i : Nat} {x : α} (h : xs[i]? = some x) : xs.take (i + 1) = xs.take i ++ [x] := by
  rw [List.take_add_one, h]
  rfl
theorem sum_snoc (qs : List Rat) (x : Rat) : sumR (qs ++ [x]) = sumR qs + x := by
  unfold sumR
  rw [List.foldl_append]
  rfl
theorem mul_snoc (qs : List Rat) (x : Rat) : mulR (qs ++ [x]) = mulR qs * x := by
  unfold mulR
  rw [List.foldl_append]
  rfl
/-- one step of a sum whose denominator is not reduced, g a common divisor of both denominators -/
theorem part_step {n d a b g : Int} (hd : d ≠ 0) (hb : b ≠ 0) (h1 : g ∣ d) (h2 : g ∣ b) : Rat.divInt (n * (b / g) + a * (d / g)) (d * (b / g)) = Rat.divInt n d + Rat.divInt a b := by
  obtain ⟨u, rfl⟩ := h1
  obtain ⟨v, rfl⟩ := h2
  have hg : g ≠ 0 := fun z => hd (by rw [z, Int.zero_mul])
  rw [Int.mul_ediv_cancel_left _ hg, Int.mul_ediv_cancel_left _ hg, Rat.divInt_add_divInt _ _ hd hb, ← Rat.divInt_mul_left hg]
  congr 1
  · rw [Int.mul_add]
    congr 1 <;> ac_rfl
  · ac_rfl
end RM

/-! ## The law's own helpers: the bag, its draws, the comparison -/
theorem _root_.L2.Same.new {H : Hp} {p : Addr} (h : H p = none) (o : HO) : Same H (upd H p o) := fun b u q => by rw [upd_ne (ne_of_none q h)]; exact q
theorem _root_.L2.Same.set {H H' : Hp} {p : Addr} (e : Same H H') (h : H p = none) (o : HO) : Same H (upd H' p o) := fun b u q => by rw [upd_ne (ne_of_none q h)]; exact e b u q
theorem sl_small {n : Nat} (h : n ≤ 100000) : n ≤ sizeLine := Nat.le_trans h (by decide)
theorem sl_lt {n : Nat} (h : n < 100000) : n < sizeLine := Nat.lt_of_lt_of_le h (by decide)
theorem slr {n : Nat} (h : Nat.ble n 100000 = true) : n ≤ sizeLine := sl_small (Nat.le_of_ble_eq_true h)
theorem dec_t {p : Prop} [Decidable p] (h : p) : decide p = true := decide_eq_true h
def rLenK (K : PySem.W.Frag) : List V → Hp → VK → Prop := fun xs H Q => ∃ p ys, xs = [.ref p] ∧ (SqL K H p ys ∨ SqT K H p ys) ∧ Q (.int ys.length) H
def rListK (K : PySem.W.Frag) : List V → Hp → VK → Prop := fun xs H Q => ∃ p ys, xs = [.ref p] ∧ (SqL K H p ys ∨ SqT K H p ys) ∧ ∀ l, H l = none → Q (.ref l) (upd H l (.lst ys))
def rTupK (K : PySem.W.Frag) : List V → Hp → VK → Prop := fun xs H Q => ∃ p ys, xs = [.ref p] ∧ ((SqL K H p ys ∧ ∀ l, H l = none → Q (.ref l) (upd H l (.tup ys))) ∨ (SqT K H p ys ∧ Q (.ref p) H))
/-- what holds between two statements -/
theorem seq_key {t u : TS} {D : Ends} {σ : St} {H : Hp} (P : St → Hp → Prop) (h2 : ∀ σ H, P σ H → u D σ H) (h1 : (∀ σ H, P σ H → u D σ H) → t { D with nx := u D } σ H) : tSeq t u D σ H := h1 h2
/-- all but the object at b is as it was -/
def Apart (b : Addr) (H H' : Hp) : Prop := ∀ a o, a ≠ b → H a = some o → H' a = some o
theorem Apart.refl (b : Addr) (H : Hp) : Apart b H H := fun _ _ _ h => h
theorem Apart.trans {b : Addr} {H H1 H2 : Hp} (x : Apart b H H1) (y : Apart b H1 H2) : Apart b H H2 := fun a o n e => y a o n (x a o n e)
theorem _root_.L2.Same.apart {b : Addr} {H H' : Hp} (x : Same H H') : Apart b H H' := fun a o _ e => x a o e
theorem Apart.set {b : Addr} {H : Hp} (o : HO) : Apart b H (upd H b o) := fun a u n e => by rw [upd_ne n]; exact e
/-- the bag: its list of numbers l, the numbers ns, the place i, the rest c, the seed s, the count t -/
def bagL (l : Addr) (i c s t : Int) : List V := [.ref l, .int i, .int c, .int s, .int t]
structure Bag (H : Hp) (b l : Addr) : Prop where
  ex : ∃ (ns : List Int) (i c s t : Int), H b = some (.lst (bagL l i c s t)) ∧ H l = some (.lst (ns.map V.int)) ∧ 0 ≤ i ∧ 0 ≤ c ∧ 0 ≤ s ∧ s < 2147483647
theorem bag_ne {l : Addr} {i c s t : Int} {ns : List Int} : HO.lst (ns.map V.int) ≠ HO.lst (bagL l i c s t) := by
  intro e
  injection e with e
  cases ns with
  | nil => cases e
  | cons _ _ => cases e
theorem Bag.same {H H' : Hp} {b l : Addr} (x : Bag H b l) (e : Same H H') : Bag H' b l := by
  obtain ⟨ns, i, c, s, t, h1, h2, h⟩ := x.ex
  exact ⟨ns, i, c, s, t, e _ _ h1, e _ _ h2, h⟩
theorem Bag.there {H : Hp} {b l : Addr} (x : Bag H b l) : ∃ xs, H b = some (.lst xs) := by
  obtain ⟨ns, i, c, s, t, h1, _⟩ := x.ex
  exact ⟨_, h1⟩
theorem Bag.inner {H : Hp} {b l : Addr} (x : Bag H b l) : ∃ xs, H l = some (.lst xs) := by
  obtain ⟨ns, i, c, s, t, h1, h2, _⟩ := x.ex
  exact ⟨_, h2⟩
theorem Bag.new {H : Hp} {b l p : Addr} (x : Bag H b l) (h : H p = none) (o : HO) : Bag (upd H p o) b l := x.same (Same.new h o)
theorem Bag.ne {H : Hp} {b l p : Addr} (x : Bag H b l) (h : H p = none) : p ≠ b := by
  obtain ⟨_, h1⟩ := x.there
  exact (ne_of_none h1 h).symm
theorem Bag.ne2 {H : Hp} {b l p : Addr} (x : Bag H b l) (h : H p = none) : p ≠ l := by
  obtain ⟨_, h1⟩ := x.inner
  exact (ne_of_none h1 h).symm
theorem Bag.nt {H : Hp} {b l p : Addr} {xs : List V} (x : Bag H b l) (h : H p = some (.tup xs)) : p ≠ b := by
  obtain ⟨_, h1⟩ := x.there
  exact ne_of h h1 (fun z => nomatch z)
theorem Bag.upd {H : Hp} {b l p : Addr} {o : HO} (x : Bag H b l) (h1 : p ≠ b) (h2 : p ≠ l) : Bag (upd H p o) b l := by
  obtain ⟨ns, i, c, s, t, e1, e2, h⟩ := x.ex
  exact ⟨ns, i, c, s, t, by rw [upd_ne (Ne.symm h1)]; exact e1, by rw [upd_ne (Ne.symm h2)]; exact e2, h⟩
theorem Bag.put {H : Hp} {b l : Addr} {ns : List Int} {i c s t : Int} {i' c' s' t' : Int} (h1 : H b = some (.lst (bagL l i c s t))) (h2 : H l = some (.lst (ns.map V.int))) (hi : 0 ≤ i') (hc : 0 ≤ c') (hs : 0 ≤ s') (hs2 : s' < 2147483647) :
    Bag (L2.upd H b (.lst (bagL l i' c' s' t'))) b l := ⟨ns, i', c', s', t', upd_same, by rw [upd_ne (ne_of h2 h1 bag_ne)]; exact h2, hi, hc, hs, hs2⟩

def spBag (K : PySem.W.Frag) : Sp := fun vs H Q _ => ∃ (a : Addr) (ns : List Int), vs = [.ref a] ∧ SqL K H a (ns.map V.int) ∧ ns.length ≤ 63 ∧ ∀ (b l : Addr) (H' : Hp), Same H H' → H b = none → H l = none → Bag H' b l → Q (.ref b) H'
def spPull : Sp := fun vs H Q _ => ∃ (b l : Addr) (m : Int), vs = [.ref b, .int m] ∧ Bag H b l ∧ 0 < m ∧ m.natAbs < 2 ^ 200 ∧ ∀ (r : Int) (H' : Hp), 0 ≤ r → r < m → Apart b H H' → Bag H' b l → Q (.int r) H'
def spOf (K : PySem.W.Frag) : Sp := fun vs H Q _ => ∃ (b l a : Addr) (xs : List V), vs = [.ref b, .ref a] ∧ Bag H b l ∧ SqL K H a xs ∧ a ≠ b ∧ 0 < xs.length ∧ xs.length ≤ 1000 ∧ ∀ (i : Nat) (v : V) (H' : Hp), xs[i]? = some v → Apart b H H' → Bag H' b l → Q v H'

section
variable {P : Program} {w : World} {K : PySem.W.Frag} {mg : Str → Option Value} {base : Heap} {A : Ad}
theorem cut_ints (ns : List Int) (lo hi : Option Int) : ∃ ms : List Int, cutV (ns.map V.int) lo hi = ms.map V.int := by
  unfold cutV
  rw [← List.map_drop, ← List.map_take]
  exact ⟨_, rfl⟩
theorem int_at {ns : List Int} {i : Nat} {x : V} (h : (ns.map V.int)[i]? = some x) : ∃ u, x = V.int u := by
  rw [List.getElem?_map] at h
  cases e : ns[i]? with
  | none => rw [e] at h; cases h
  | some u => rw [e] at h; exact ⟨u, (Option.some.inj h).symm⟩
theorem ok_bag (T : Txt K mg A) : FnOk P w K mg base CX0 1 A.f_bag A.fd_bag ["_law_script"] (spBag K) := by
  refine T.d_bag.F.ok sc_bag (fun vs H Q E h => ?_) (fun cdv ar outer s H vs Q E hr h => ?_)
  · obtain ⟨a, ns, rfl, _⟩ := h
    rfl
  obtain ⟨a, ns, rfl, hS, h63, q⟩ := h
  refine ⟨_, (pss_cons (ps_set (i := 1) sc_bag.nd rfl (Or.inl rfl) pe_int)
    (pss_cons (ps_for PassesOwn.never rfl (pi_list (pe_slice (r := rSlL K) sl_list (pv 0) po_none (po_some pe_int))) (pg_name (i := 2) sc_bag.nd rfl (Or.inl rfl)) (pss_one (ps_set (i := 1) sc_bag.nd rfl (Or.inl rfl) (pe_op op_mod (pe_op op_add (pe_op op_add (pe_op op_mul (pv 1) pe_int) (pe_op op_mod (pv 2) pe_int)) pe_int) pe_int))))
    (pss_one (ps_ret (pe_lst (pa_cons (pe_callTy (r := rListK K) call_list_of (by rfl) T.list (by decide +kernel) (pa_cons (pe_slice (r := rSlL K) sl_list (pv 0) po_none (po_some pe_int)) pa_nil)) (pa_cons pe_int (pa_cons pe_int (pa_cons (pv 1) (pa_cons pe_int pa_nil)))))))))), ?_⟩
  refine ⟨_, rfl, 63, rfl, a, _, rfl, hS, fun p hp => ?_⟩
  refine ⟨p, rfl, ⟨_, SqL.of upd_same⟩, ?_⟩
  obtain ⟨ms, em⟩ := cut_ints ns none (some 63)
  have s1 : Same H (upd H p (.lst (cutV (ns.map V.int) none (some 63)))) := Same.new hp _
  refine for_list (xs := cutV (ns.map V.int) none (some 63)) (fun _ σ H' => ∃ (z : Int) (u : Option V), σ = [some (.ref a), some (.int z), u] ∧ 0 ≤ z ∧ z < 2147483647 ∧ H' = upd H p (.lst (cutV (ns.map V.int) none (some 63)))) ⟨3801, none, rfl, by decide, by decide, rfl⟩ ?_ ?_ ?_
  · rintro i σ H' _ ⟨z, u, _, _, _, rfl⟩
    exact SqL.of upd_same
  · rintro i x σ H' hi ⟨z, u, rfl, z0, z1, rfl⟩
    rw [em] at hi
    obtain ⟨y, rfl⟩ := int_at hi
    refine ⟨_, rfl, _, _, rfl, rfl, .inr ⟨by decide, by decide⟩, _, rfl, _, _, rfl, rfl, (by show (0 : Int) < 2147483549; decide), _, _, rfl, rfl, _, _, rfl, rfl, _, _, rfl, rfl, (by show (0 : Int) < 2147483647; decide), ?_⟩
    exact ⟨_, _, rfl, Int.emod_nonneg _ (by decide), Int.emod_lt_of_pos _ (by decide), rfl⟩
  · rintro σ H' ⟨z, u, rfl, z0, z1, rfl⟩
    refine ⟨_, rfl, 63, rfl, a, _, rfl, s1.seq hS, fun p2 hp2 => ?_⟩
    refine ⟨p2, _, rfl, .inl (SqL.of upd_same), fun l hl => ?_⟩
    refine ⟨_, rfl, (by show 5 ≤ sizeLine; decide), fun b hb => ?_⟩
    have s2 := s1.set (s1.free hp2) (.lst (cutV (ns.map V.int) none (some 63)))
    have s3 := s2.set (s2.free hl) (.lst (cutV (ns.map V.int) none (some 63)))
    have s4 := s3.set (s3.free hb) (.lst [.ref l, .int 0, .int 0, .int z, .int 0])
    refine q b l _ s4 (s3.free hb) (s2.free hl) ⟨ms, 0, 0, z, 0, upd_same, ?_, by decide, by decide, z0, z1⟩
    rw [upd_ne (ne_of_none upd_same hb), upd_same, em]
theorem ok_pull (T : Txt K mg A) : FnOk P w K mg base CX0 1 A.f_pull A.fd_pull ["_law_bag_here", "_law_many"] spPull := by
  refine T.d_pull.F.ok sc_pull (fun vs H Q E h => ?_) (fun cdv ar outer s H vs Q E hr h => ?_)
  · obtain ⟨b, l, m, rfl, _⟩ := h
    rfl
  obtain ⟨b, l, m, rfl, ⟨⟨ns, i, c, s, t, h1, h2, hi, hc, hs, hs2⟩⟩, hm, hm2, q⟩ := h
  refine ⟨_, (pss_cons (ps_if (PW.pt (pw_and (pt_cmpR op_eq (pe_ix (r := rIxL K) ix_list (pv 0) pe_int (fun _ _ => rfl)) pe_int (nomark _)) (pw_and1 (pt_cmpR op_lt (pe_ix (r := rIxL K) ix_list (pv 0) pe_int (fun _ _ => rfl)) (pe_callB (r := rLenK K) call_len_seq (by rfl) T.len (by decide +kernel) (pa_cons (pe_ix (r := rIxL K) ix_list (pv 0) pe_int (fun _ _ => rfl)) pa_nil)) (nomark _))))) (pss_cons (ps_set (i := 2) sc_pull.nd rfl (Or.inl rfl) (pe_ix (r := rIxL K) ix_list (pe_ix (r := rIxL K) ix_list (pv 0) pe_int (fun _ _ => rfl)) (pe_ix (r := rIxL K) ix_list (pv 0) pe_int (fun _ _ => rfl)) (fun _ _ => rfl)))
    (pss_cons (ps_asg (pe_op op_add (pe_ix (r := rIxL K) ix_list (pv 0) pe_int (fun _ _ => rfl)) pe_int) (pg_sub (pv 0) pe_int set_list))
    (pss_one (ps_if (pt_cmpR op_ge (pv 2) (pe_op op_pow pe_int pe_int) (nomark _)) (pss_one (ps_asg (pv 2) (pg_sub (pv 0) pe_int set_list))) (pss_one (ps_asg (pe_op op_mod (pe_op op_add (pe_op op_add (pe_op op_mul (pe_ix (r := rIxL K) ix_list (pv 0) pe_int (fun _ _ => rfl)) pe_int) (pe_op op_mul (pe_op op_mod (pv 2) pe_int) pe_int)) pe_int) pe_int) (pg_sub (pv 0) pe_int set_list))))))) pss_nil)
    (pss_cons (ps_if (pt_cmpR op_gt (pe_ix (r := rIxL K) ix_list (pv 0) pe_int (fun _ _ => rfl)) pe_int (nomark _)) (pss_cons (ps_set (i := 3) sc_pull.nd rfl (Or.inl rfl) (pe_op op_mod (pe_ix (r := rIxL K) ix_list (pv 0) pe_int (fun _ _ => rfl)) (pv 1)))
    (pss_cons (ps_asg (pe_op op_fdivW (pe_ix (r := rIxL K) ix_list (pv 0) pe_int (fun _ _ => rfl)) (pv 1)) (pg_sub (pv 0) pe_int set_list))
    (pss_one (ps_ret (pv 3))))) pss_nil)
    (pss_cons (ps_asg (pe_op op_add (pe_ix (r := rIxL K) ix_list (pv 0) pe_int (fun _ _ => rfl)) pe_int) (pg_sub (pv 0) pe_int set_list))
    (pss_cons (ps_set (i := 4) sc_pull.nd rfl (Or.inl rfl) (pe_op op_mod (pe_op op_add (pe_ix (r := rIxL K) ix_list (pv 0) pe_int (fun _ _ => rfl)) (pe_op op_mul (pe_ix (r := rIxL K) ix_list (pv 0) pe_int (fun _ _ => rfl)) pe_int)) pe_int))
    (pss_cons (ps_asg (pe_op op_mod (pe_op op_add (pe_op op_add (pe_op op_mul (pe_op op_mod (pe_op op_mul (pv 4) (pv 4)) pe_int) (pv 4)) (pe_op op_mul pe_int (pv 4))) pe_int) pe_int) (pg_sub (pv 0) pe_int set_list))
    (pss_one (ps_ret (pe_op op_mod (pe_op op_add (pe_op op_fdiv (pe_ix (r := rIxL K) ix_list (pv 0) pe_int (fun _ _ => rfl)) pe_int) (pe_op op_mul (pe_op op_mod (pe_ix (r := rIxL K) ix_list (pv 0) pe_int (fun _ _ => rfl)) pe_int) pe_int)) (pv 1))))))))), ?_⟩
  have hbL : SqL K H b (bagL l i c s t) := SqL.of h1
  have a0 : ∀ {i c s t : Int}, atI (bagL l i c s t) 0 = some (.ref l) := at_of (j := 0) rfl rfl
  have a1 : ∀ {i c s t : Int}, atI (bagL l i c s t) 1 = some (.int i) := at_of (j := 1) rfl rfl
  have a2 : ∀ {i c s t : Int}, atI (bagL l i c s t) 2 = some (.int c) := at_of (j := 2) rfl rfl
  have a3 : ∀ {i c s t : Int}, atI (bagL l i c s t) 3 = some (.int s) := at_of (j := 3) rfl rfl
  have a4 : ∀ {i c s t : Int}, atI (bagL l i c s t) 4 = some (.int t) := at_of (j := 4) rfl rfl
  refine seq_key (fun σ' H' => ∃ (i c s : Int) (u : Option V), σ' = [some (.ref b), some (.int m), u, none, none] ∧ 0 ≤ i ∧ 0 ≤ c ∧ 0 ≤ s ∧ s < 2147483647 ∧ Apart b H H' ∧ H' b = some (.lst (bagL l i c s t)) ∧ H' l = some (.lst (ns.map V.int))) ?_ (fun k => ?_)
  · rintro σ' H' ⟨i, c, s, u, rfl, hi, hc, hs, hs2, hA, h1, h2⟩
    have hbL : SqL K H' b (bagL l i c s t) := SqL.of h1
    refine seq_key (fun σ' H2 => σ' = [some (.ref b), some (.int m), u, none, none] ∧ H' = H2) ?_ (fun k => ?_)
    · rintro _ _ ⟨rfl, rfl⟩
      -- the count, the seed, the draw
      refine ⟨_, rfl, b, _, _, _, rfl, rfl, hbL, a4, _, _, rfl, rfl, _, rfl, b, _, _, _, rfl, rfl, h1, rfl, ?_⟩
      refine ⟨_, rfl, b, _, _, _, rfl, rfl, SqL.of upd_same, at_of (j := 3) rfl rfl, _, rfl, b, _, _, _, rfl, rfl, SqL.of upd_same, at_of (j := 4) rfl rfl, _, _, rfl, rfl, .inr ⟨by decide, by decide⟩, _, _, rfl, rfl, _, _, rfl, rfl, (by show (0 : Int) < 2147483647; decide), ?_⟩
      have d0 : 0 ≤ (s + (t + 1) * 7919) % 2147483647 := Int.emod_nonneg _ (by decide)
      have d1 : (s + (t + 1) * 7919) % 2147483647 < 2147483647 := Int.emod_lt_of_pos _ (by decide)
      have d2 : -(2 ^ 64) < (s + (t + 1) * 7919) % 2147483647 ∧ (s + (t + 1) * 7919) % 2147483647 < 2 ^ 64 := ⟨by omega, by omega⟩
      refine ⟨_, rfl, _, rfl, _, _, rfl, rfl, .inr d2, _, _, rfl, rfl, (by show (0 : Int) < 2147483629; decide), _, rfl, _, _, rfl, rfl, .inr d2, _, rfl, _, _, rfl, rfl, .inl ⟨by decide, by decide⟩, _, _, rfl, rfl, _, _, rfl, rfl, _, _, rfl, rfl, (by show (0 : Int) < 2147483647; decide), ?_⟩
      refine ⟨_, rfl, b, _, _, _, rfl, rfl, upd_same, rfl, ?_⟩
      refine ⟨_, rfl, b, _, _, _, rfl, rfl, SqL.of upd_same, at_of (j := 3) rfl rfl, _, _, rfl, rfl, ⟨by decide, by decide⟩, _, rfl, b, _, _, _, rfl, rfl, SqL.of upd_same, at_of (j := 3) rfl rfl, _, _, rfl, rfl, (by show (0 : Int) < 8191; decide), _, _, rfl, rfl, .inr ⟨by decide, by decide⟩, _, _, rfl, rfl, _, rfl, _, _, rfl, rfl, hm, ?_⟩
      refine q _ _ (Int.emod_nonneg _ (Int.ne_of_gt hm)) (Int.emod_lt_of_pos _ hm) ((hA.trans (Apart.set _)).trans (Apart.set _)) ?_
      refine Bag.put (i := i) (c := c) (s := s) (t := t + 1) (ns := ns) (i' := i) (c' := c) (t' := t + 1) upd_same ?_ hi hc (Int.emod_nonneg _ (by decide)) (Int.emod_lt_of_pos _ (by decide))
      rw [upd_ne (ne_of h2 h1 bag_ne)]
      exact h2
    · refine ⟨_, rfl, b, _, _, _, rfl, rfl, hbL, a2, _, _, rfl, rfl, _, rfl, ?_⟩
      refine ite2 (fun c0 => ?_) (fun c0 => ?_)
      · refine ⟨_, rfl, b, _, _, _, rfl, rfl, hbL, a2, _, rfl, _, _, rfl, rfl, hm, ?_⟩
        refine ⟨_, rfl, b, _, _, _, rfl, rfl, hbL, a2, _, rfl, _, _, rfl, rfl, wide_div hm hm2 (by decide) (by decide), _, rfl, b, _, _, _, rfl, rfl, h1, rfl, ?_⟩
        refine ⟨_, rfl, ?_⟩
        refine q _ _ (Int.emod_nonneg _ (Int.ne_of_gt hm)) (Int.emod_lt_of_pos _ hm) (hA.trans (Apart.set _)) ?_
        exact Bag.put h1 h2 hi (Int.ediv_nonneg hc (Int.le_of_lt hm)) hs hs2
      · exact k _ _ ⟨rfl, rfl⟩
  · refine ⟨_, rfl, b, _, _, _, rfl, rfl, hbL, a2, rfl, _, rfl, ?_⟩
    refine ite2 (fun c0 => ?_) (fun c0 => ?_)
    · refine ⟨_, rfl, b, _, _, _, rfl, rfl, hbL, a1, _, rfl, b, _, _, _, rfl, rfl, hbL, a0, l, _, rfl, .inl (SqL.of h2), _, _, rfl, rfl, _, rfl, ?_⟩
      refine ite2 (fun c1 => ?_) (fun c1 => ?_)
      · have c2 : i < (((ns.map V.int).length : Nat) : Int) := of_decide_eq_true c1
        rw [List.length_map] at c2
        obtain ⟨z, hz⟩ : ∃ z : Int, (ns.map V.int)[i.toNat]? = some (.int z) := by
          rw [List.getElem?_map, List.getElem?_eq_getElem (by omega)]
          exact ⟨_, rfl⟩
        refine ⟨_, rfl, b, _, _, _, rfl, rfl, hbL, a0, _, rfl, b, _, _, _, rfl, rfl, hbL, a1, l, _, _, _, rfl, rfl, SqL.of h2, at_of (j := i.toNat) (by omega) hz, ?_⟩
        refine ⟨_, rfl, b, _, _, _, rfl, rfl, hbL, a1, _, _, rfl, rfl, _, rfl, b, _, _, _, rfl, rfl, h1, rfl, ?_⟩
        have g1 : SqL K (upd H b (.lst (bagL l (i + 1) c s t))) b (bagL l (i + 1) c s t) := SqL.of upd_same
        have g2 : upd H b (.lst (bagL l (i + 1) c s t)) l = some (.lst (ns.map V.int)) := by
          rw [upd_ne (ne_of h2 h1 bag_ne)]
          exact h2
        refine ⟨_, rfl, _, _, rfl, rfl, ⟨by decide, by decide, by decide⟩, _, _, rfl, rfl, _, rfl, ?_⟩
        refine ite2 (fun c3 => ?_) (fun c3 => ?_)
        · have c4 : (10 : Int) ^ (18 : Int).toNat ≤ z := of_decide_eq_true c3
          have c5 : (0 : Int) ≤ z := Int.le_trans (by decide) c4
          refine ⟨_, rfl, _, rfl, b, _, _, _, rfl, rfl, upd_same, rfl, ?_⟩
          refine k _ _ ⟨i + 1, z, s, _, rfl, by omega, c5, hs, hs2, (Apart.set _).trans (Apart.set _), upd_same, ?_⟩
          rw [upd_ne (ne_of h2 h1 bag_ne)]
          exact g2
        · refine ⟨_, rfl, b, _, _, _, rfl, rfl, g1, a3, _, _, rfl, rfl, .inr ⟨by decide, by decide⟩, _, rfl, _, _, rfl, rfl, (by show (0 : Int) < 2147483549; decide), _, _, rfl, rfl, .inr ⟨by decide, by decide⟩, _, _, rfl, rfl, _, _, rfl, rfl, _, _, rfl, rfl, (by show (0 : Int) < 2147483647; decide), ?_⟩
          refine ⟨_, rfl, b, _, _, _, rfl, rfl, upd_same, rfl, ?_⟩
          refine k _ _ ⟨i + 1, c, _, _, rfl, by omega, hc, Int.emod_nonneg _ (by decide), Int.emod_lt_of_pos _ (by decide), (Apart.set _).trans (Apart.set _), upd_same, ?_⟩
          rw [upd_ne (ne_of h2 h1 bag_ne)]
          exact g2
      · exact k _ _ ⟨i, c, s, _, rfl, hi, hc, hs, hs2, Apart.refl b H, h1, h2⟩
    · exact k _ _ ⟨i, c, s, _, rfl, hi, hc, hs, hs2, Apart.refl b H, h1, h2⟩
theorem Apart.seq {K : PySem.W.Frag} {b a : Addr} {H H' : Hp} {xs : List V} (e : Apart b H H') (n : a ≠ b) (h : SqL K H a xs) : SqL K H' a xs := by
  rcases h with (h | ⟨o, h⟩) | h
  · exact .inl (.inl (e _ _ n h))
  · exact .inl (.inr ⟨o, e _ _ n h⟩)
  · exact .inr h
theorem ok_of (T : Txt K mg A) : FnOk P w K mg base CX0 2 A.f_of A.fd_of ["_law_bag_here", "_law_some"] (spOf K) := by
  refine T.d_of.F.ok sc_of (fun vs H Q E h => ?_) (fun cdv ar outer s H vs Q E hr h => ?_)
  · obtain ⟨b, l, a, xs, rfl, _⟩ := h
    rfl
  obtain ⟨b, l, a, xs, rfl, hB, hS, hn, h0, h1, q⟩ := h
  refine ⟨_, (pss_one (ps_ret (pe_ix (r := rIx K) ix_seq (pv 1) (pe_call (ok_pull T) (hr.mono (by decide)) rfl T.d_pull.m T.d_pull.F.kp T.d_pull.b .nil pass0 (pa_cons (pv 0) (pa_cons (pe_callB (r := rLenK K) call_len_seq (by rfl) T.len (by decide +kernel) (pa_cons (pv 1) pa_nil)) pa_nil))) (fun _ _ => rfl)))), ?_⟩
  refine ⟨_, rfl, _, rfl, _, rfl, a, _, rfl, .inl hS, b, l, _, rfl, hB, by omega, Nat.lt_of_le_of_lt (show ((xs.length : Nat) : Int).natAbs ≤ 1000 by omega) (by decide), fun r H' r0 r1 ap bg => ?_⟩
  have hi : r.toNat < xs.length := by omega
  refine .inl ⟨a, _, _, _, rfl, rfl, ap.seq hn hS, at_of (j := r.toNat) (by omega) (List.getElem?_eq_getElem hi), ?_⟩
  exact q r.toNat _ H' (List.getElem?_eq_getElem hi) ap bg

/-! ### the comparison -/
/-- two flat values are one -/
def Flat : V → Prop
  | .non => True
  | .bl _ => True
  | .int _ => True
  | .str _ => True
  | _ => False
/-- x and y hold the same data, at most n lists one in another -/
def EqD (K : PySem.W.Frag) (H : Hp) : Nat → V → V → Prop
  | 0, x, y => x = y ∧ Flat x
  | n + 1, x, y => (x = y ∧ Flat x) ∨ (∃ (a b : Addr) (xs ys : List V), x = .ref a ∧ y = .ref b ∧ H a = some (.lst xs) ∧ H b = some (.lst ys) ∧ Paired (EqD K H n) xs ys ∧ xs.length ≤ 100000) ∨
    (∃ (a b : Addr) (xs ys : List V), x = .ref a ∧ y = .ref b ∧ H a = some (.tup xs) ∧ H b = some (.tup ys) ∧ Paired (EqD K H n) xs ys ∧ xs.length ≤ 100000)
theorem EqD.flat {K : PySem.W.Frag} {H : Hp} {x : V} (h : Flat x) : ∀ {n : Nat}, EqD K H n x x
  | 0 => ⟨rfl, h⟩
  | _ + 1 => .inl ⟨rfl, h⟩
theorem paired_imp {α β : Type} {R S : α → β → Prop} (f : ∀ a b, R a b → S a b) : ∀ {xs : List α} {ys : List β}, Paired R xs ys → Paired S xs ys
  | _, _, .nil => .nil
  | _, _, .cons h t => .cons (f _ _ h) (paired_imp f t)
theorem EqD.mono {K : PySem.W.Frag} {H H' : Hp} (e : Same H H') : ∀ {n : Nat} {x y : V}, EqD K H n x y → EqD K H' n x y
  | 0, _, _, h => h
  | n + 1, x, y, h => by
    rcases h with h | ⟨a, b, xs, ys, h1, h2, h3, h4, h5, h6⟩ | ⟨a, b, xs, ys, h1, h2, h3, h4, h5, h6⟩
    · exact .inl h
    · exact .inr (.inl ⟨a, b, xs, ys, h1, h2, e _ _ h3, e _ _ h4, paired_imp (fun _ _ z => EqD.mono e z) h5, h6⟩)
    · exact .inr (.inr ⟨a, b, xs, ys, h1, h2, e _ _ h3, e _ _ h4, paired_imp (fun _ _ z => EqD.mono e z) h5, h6⟩)
theorem paired_len {α β : Type} {R : α → β → Prop} : ∀ {xs : List α} {ys : List β}, Paired R xs ys → xs.length = ys.length
  | _, _, .nil => rfl
  | _, _, .cons _ t => congrArg (· + 1) (paired_len t)
theorem paired_at {α β : Type} {R : α → β → Prop} : ∀ {xs : List α} {ys : List β} {i : Nat} {y : β}, Paired R xs ys → ys[i]? = some y → ∃ x, xs[i]? = some x ∧ R x y
  | _, _, _, _, .nil, e => by cases e
  | x :: _, _, 0, _, .cons r _, e => by cases e; exact ⟨x, rfl, r⟩
  | _, _, i + 1, y, .cons _ t, e => by
    obtain ⟨x, h1, h2⟩ := paired_at (i := i) (y := y) t (by simpa using e)
    exact ⟨x, by simpa using h1, h2⟩
def spSame (K : PySem.W.Frag) (n : Nat) : Sp := fun vs H Q _ => ∃ (x y : V), vs = [x, y] ∧ EqD K H n x y ∧ ∀ (H' : Hp), Same H H' → Q (.bl true) H'
theorem kt_lt {t : String} {b : Bool} (h1 : kitB t "list" = some false) (h2 : kitB t "tuple" = some b) : PySem.W.kitAny K (.type t) [.type "list", .type "tuple"] = some b :=
  kitAny_cons (kit_ty h1) (fun _ => by
    cases b with
    | true => exact kitAny_cons (kit_ty h2) (fun z => nomatch z) (fun _ => rfl)
    | false => exact kitAny_cons (kit_ty h2) (fun _ => kitAny_nil) (fun z => nomatch z)) (fun z => nomatch z)
theorem kt_l : PySem.W.kitAny K (.type "list") [.type "list", .type "tuple"] = some true := kitAny_cons (b := true) (kit_ty (by decide +kernel)) (fun z => Bool.noConfusion z) (fun _ => rfl)
theorem kt_t : PySem.W.kitAny K (.type "tuple") [.type "list", .type "tuple"] = some true := kt_lt (by decide +kernel) (by decide +kernel)
theorem cls2 : Paired ClsV [V.ty "list", V.ty "tuple"] [Value.type "list", Value.type "tuple"] := .cons (.ty _) (.cons (.ty _) .nil)
theorem isi_flat {v : V} (h : Flat v) (hn : v ≠ .non) : ∃ (t : String) (a b c : Bool), (∀ H, TyX K H v (.type t)) ∧ kitB t "list" = some false ∧ kitB t "tuple" = some false ∧ kitB t "bool" = some a ∧ kitB t "int" = some b ∧ kitB t "str" = some c := by
  cases v with
  | non => exact absurd rfl hn
  | bl b => exact ⟨"bool", true, true, false, fun _ => .base (.bl b), by decide +kernel, by decide +kernel, by decide +kernel, by decide +kernel, by decide +kernel⟩
  | int i => exact ⟨"int", false, true, false, fun _ => .base (.int i), by decide +kernel, by decide +kernel, by decide +kernel, by decide +kernel, by decide +kernel⟩
  | str x => exact ⟨"str", false, false, true, fun _ => .base (.str x), by decide +kernel, by decide +kernel, by decide +kernel, by decide +kernel, by decide +kernel⟩
  | byt _ => exact h.elim
  | flt _ => exact h.elim
  | ref _ => exact h.elim
  | ty _ => exact h.elim
theorem scal_flat {v : V} (h : Flat v) : scal v v = true := by
  cases v <;> first | rfl | exact h.elim
theorem ne_bl (a : Bool) : (!decide (V.bl a = V.bl a)) = false := by rw [decide_eq_true rfl]; rfl
theorem ok_same_step (T : Txt K mg A) (n : Nat) (G : ∀ m, n = m + 1 → FnOk P w K mg base CX0 n A.f_same A.fd_same ["_law_found", "_law_due"] (spSame K m)) : FnOk P w K mg base CX0 (n + 1) A.f_same A.fd_same ["_law_found", "_law_due"] (spSame K n) := by
  refine T.d_same.F.ok sc_same (fun vs H Q E h => ?_) (fun cdv ar outer s H vs Q E hr h => ?_)
  · obtain ⟨x, y, rfl, _⟩ := h
    rfl
  obtain ⟨x, y, rfl, hE, q⟩ := h
  by_cases hf : Flat x ∧ x = y
  · obtain ⟨hf, rfl⟩ := hf
    have G : FnOk P w K mg base CX0 n A.f_same A.fd_same ["_law_found", "_law_due"] (fun _ _ _ _ => False) := ⟨fun _ _ _ _ h => h.elim, fun _ _ _ _ _ _ _ _ _ _ _ _ _ h => h.elim⟩
    refine ⟨_, (pss_cons (ps_if (PW.pt (pw_or (pt_cmpR op_isN (pv 1) pe_non (nomark _)) (pw_or1 (pt_cmpR op_isN (pv 0) pe_non (nomark _))))) (pss_one (ps_ret (pe_and (pe_cmpR op_isN (pv 0) pe_non (nomark _)) (pe_one (pe_cmpR op_isN (pv 1) pe_non (nomark _)))))) pss_nil)
    (pss_cons (ps_if (pt_val (pe_callB (r := rIsiT K) call_isiT (by rfl) T.isinstance (by decide +kernel) (pa_cons (pv 1) (pa_cons (pe_tup (pa_cons (pe_bltn (v := .ty "list") (u := .type "list") (by rfl) T.list (by decide +kernel) rfl) (pa_cons (pe_bltn (v := .ty "tuple") (u := .type "tuple") (by rfl) T.tuple (by decide +kernel) rfl) pa_nil))) pa_nil)))) (pss_cons (ps_if (PW.pt (pw_or (pt_cmpR op_ne (pe_callB (r := rIsi K) call_isi (by rfl) T.isinstance (by decide +kernel) (pa_cons (pv 0) (pa_cons (pe_bltn (v := .ty "list") (u := .type "list") (by rfl) T.list (by decide +kernel) rfl) pa_nil))) (pe_callB (r := rIsi K) call_isi (by rfl) T.isinstance (by decide +kernel) (pa_cons (pv 1) (pa_cons (pe_bltn (v := .ty "list") (u := .type "list") (by rfl) T.list (by decide +kernel) rfl) pa_nil))) (nomark _)) (pw_or1 (pt_cmpR op_ne (pe_callB (r := rIsi K) call_isi (by rfl) T.isinstance (by decide +kernel) (pa_cons (pv 0) (pa_cons (pe_bltn (v := .ty "tuple") (u := .type "tuple") (by rfl) T.tuple (by decide +kernel) rfl) pa_nil))) (pe_callB (r := rIsi K) call_isi (by rfl) T.isinstance (by decide +kernel) (pa_cons (pv 1) (pa_cons (pe_bltn (v := .ty "tuple") (u := .type "tuple") (by rfl) T.tuple (by decide +kernel) rfl) pa_nil))) (nomark _))))) (pss_one (ps_ret pe_bl)) pss_nil)
    (pss_one (ps_ret (pe_and (pe_cmpR op_eq (pe_callB (r := rLenK K) call_len_seq (by rfl) T.len (by decide +kernel) (pa_cons (pv 0) pa_nil)) (pe_callB (r := rLenK K) call_len_seq (by rfl) T.len (by decide +kernel) (pa_cons (pv 1) pa_nil)) (nomark _)) (pe_one (pe_callB (r := rAll K) (cr_all rfl) (by rfl) T.all (by decide +kernel) (pa_cons (pe_lc (own := [("_law_k", 2)]) (g := gName 2) (tt := tYes) rfl sc_same.nd (pi_range1 rfl T.range (pa_cons (pe_callB (r := rLenK K) call_len_seq (by rfl) T.len (by decide +kernel) (pa_cons (pv 1) pa_nil)) pa_nil)) (blkOk_by (own := [("_law_k", 2)]) (N := ["_law_found", "_law_due", "_law_k"]) (sc := defScope s_same) (by decide +kernel)) (fun _ _ _ _ _ => (pg_name (i := 2) sc_same.nd rfl (Or.inl rfl))) (fun _ _ _ _ _ => pts_nil) (fun _ _ _ _ _ => (pe_call G hr rfl T.d_same.m T.d_same.F.kp T.d_same.b .nil pass0 (pa_cons (pe_ix (r := rIx K) ix_seq (pv 0) (pv 2) (fun _ _ => rfl)) (pa_cons (pe_ix (r := rIx K) ix_seq (pv 1) (pv 2) (fun _ _ => rfl)) pa_nil))))) pa_nil))))))) pss_nil)
    (pss_cons (ps_if (PW.pt (pw_or (pt_cmpR op_ne (pe_callB (r := rIsi K) call_isi (by rfl) T.isinstance (by decide +kernel) (pa_cons (pv 1) (pa_cons (pe_bltn (v := .ty "bool") (u := .type "bool") (by rfl) T.bool (by decide +kernel) rfl) pa_nil))) (pe_callB (r := rIsi K) call_isi (by rfl) T.isinstance (by decide +kernel) (pa_cons (pv 0) (pa_cons (pe_bltn (v := .ty "bool") (u := .type "bool") (by rfl) T.bool (by decide +kernel) rfl) pa_nil))) (nomark _)) (pw_or1 (pt_cmpR op_ne (pe_callB (r := rIsi K) call_isi (by rfl) T.isinstance (by decide +kernel) (pa_cons (pv 1) (pa_cons (pe_bltn (v := .ty "int") (u := .type "int") (by rfl) T.int (by decide +kernel) rfl) pa_nil))) (pe_callB (r := rIsi K) call_isi (by rfl) T.isinstance (by decide +kernel) (pa_cons (pv 0) (pa_cons (pe_bltn (v := .ty "int") (u := .type "int") (by rfl) T.int (by decide +kernel) rfl) pa_nil))) (nomark _))))) (pss_one (ps_ret pe_bl)) pss_nil)
    (pss_one (ps_ret (pe_and (pe_cmpR op_eq (pe_callB (r := rIsi K) call_isi (by rfl) T.isinstance (by decide +kernel) (pa_cons (pv 1) (pa_cons (pe_bltn (v := .ty "str") (u := .type "str") (by rfl) T.str (by decide +kernel) rfl) pa_nil))) (pe_callB (r := rIsi K) call_isi (by rfl) T.isinstance (by decide +kernel) (pa_cons (pv 0) (pa_cons (pe_bltn (v := .ty "str") (u := .type "str") (by rfl) T.str (by decide +kernel) rfl) pa_nil))) (nomark _)) (pe_one (pe_cmpR op_eq (pv 0) (pv 1) (nomark _))))))))), ?_⟩
    by_cases hn : x = .non
    · subst hn
      refine ⟨_, rfl, rfl, _, rfl, iteT (iteT ?_)⟩
      refine ⟨_, rfl, rfl, _, rfl, iteT ⟨_, rfl, rfl, ?_⟩⟩
      exact q _ (Same.refl H)
    · have d0 : decide (x = V.non) = false := decide_eq_false hn
      refine ⟨_, rfl, rfl, _, rfl, ?_⟩
      rw [d0]
      refine iteF ⟨_, rfl, rfl, _, rfl, ?_⟩
      rw [d0]
      refine iteF ?_
      obtain ⟨t, a, b, c, ty, k1, k2, k3, k4, k5⟩ := isi_flat (K := K) hf hn
      refine ⟨_, rfl, sl_small (by decide), fun p hp => ⟨_, p, _, _, _, false, rfl, upd_same, cls2, ty _, kt_lt k1 k2, _, rfl, iteF ?_⟩⟩
      refine ⟨_, rfl, _, _, _, _, _, rfl, .ty _, ty _, kit_ty k3, _, rfl, _, _, _, _, _, rfl, .ty _, ty _, kit_ty k3, rfl, _, rfl, ?_⟩
      rw [ne_bl]
      refine iteF ⟨_, rfl, _, _, _, _, _, rfl, .ty _, ty _, kit_ty k4, _, rfl, _, _, _, _, _, rfl, .ty _, ty _, kit_ty k4, rfl, _, rfl, ?_⟩
      rw [ne_bl]
      refine iteF ⟨_, rfl, _, _, _, _, _, rfl, .ty _, ty _, kit_ty k5, _, rfl, _, _, _, _, _, rfl, .ty _, ty _, kit_ty k5, rfl, _, rfl, ?_⟩
      rw [decide_eq_true rfl]
      refine iteT ⟨_, rfl, _, rfl, scal_flat hf, ?_⟩
      rw [decide_eq_true rfl]
      exact q _ (Same.new hp _)
  · -- two lists, or two tuples
    obtain ⟨m, rfl, b1, a, b, xs, ys, T1, rfl, rfl, hP, hl⟩ : ∃ (m : Nat), n = m + 1 ∧ ∃ (tl : Bool) (a b : Addr) (xs ys : List V) (_ : H a = some (if tl then HO.lst xs else HO.tup xs) ∧ H b = some (if tl then HO.lst ys else HO.tup ys)), x = .ref a ∧ y = .ref b ∧ Paired (EqD K H m) xs ys ∧ xs.length ≤ 100000 := by
      cases n with
      | zero => exact absurd ⟨hE.2, hE.1⟩ hf
      | succ m =>
        rcases hE with h | ⟨a, b, xs, ys, h1, h2, h3, h4, h5, h6⟩ | ⟨a, b, xs, ys, h1, h2, h3, h4, h5, h6⟩
        · exact absurd ⟨h.2, h.1⟩ hf
        · exact ⟨m, rfl, true, a, b, xs, ys, ⟨h3, h4⟩, h1, h2, h5, h6⟩
        · exact ⟨m, rfl, false, a, b, xs, ys, ⟨h3, h4⟩, h1, h2, h5, h6⟩
    obtain ⟨ha, hb⟩ := T1
    have G := G m rfl
    have hlen := paired_len hP
    have seq : ∀ {H' : Hp} {a : Addr} {xs : List V}, H' a = some (if b1 then HO.lst xs else HO.tup xs) → SqL K H' a xs ∨ SqT K H' a xs := fun {H' a xs} h => by
      cases b1 with
      | true => exact .inl (SqL.of h)
      | false => exact .inr (SqT.of h)
    have ixs : ∀ {H' : Hp} {a : Addr} {xs : List V} {i : Nat} {v : V} {Q : VK}, H' a = some (if b1 then HO.lst xs else HO.tup xs) → xs[i]? = some v → Q v H' → rIx K (.ref a) (.int (0 + (i : Int))) H' Q := fun {H' a xs i v Q} h e k => by
      cases b1 with
      | true => exact .inl ⟨a, _, _, _, rfl, rfl, SqL.of h, at_of (j := i) (by omega) e, k⟩
      | false => exact .inr (.inl ⟨a, _, _, _, rfl, rfl, SqT.of h, at_of (j := i) (by omega) e, k⟩)
    obtain ⟨t, ty, k1, k2, k3⟩ : ∃ t : String, (∀ (H' : Hp) (a : Addr) (xs : List V), H' a = some (if b1 then HO.lst xs else HO.tup xs) → TyX K H' (.ref a) (.type t)) ∧ PySem.W.kitAny K (.type t) [.type "list", .type "tuple"] = some true ∧ (∃ c, kitB t "list" = some c) ∧ (∃ c, kitB t "tuple" = some c) := by
      cases b1 with
      | true => exact ⟨"list", fun _ _ _ h => .base (.lst h), kt_l, ⟨true, by decide +kernel⟩, ⟨false, by decide +kernel⟩⟩
      | false => exact ⟨"tuple", fun _ _ _ h => .base (.tup h), kt_t, ⟨false, by decide +kernel⟩, ⟨true, by decide +kernel⟩⟩
    obtain ⟨⟨c1, k2⟩, ⟨c2, k3⟩⟩ := And.intro k2 k3
    refine ⟨_, (pss_cons (ps_if (PW.pt (pw_or (pt_cmpR op_isN (pv 1) pe_non (nomark _)) (pw_or1 (pt_cmpR op_isN (pv 0) pe_non (nomark _))))) (pss_one (ps_ret (pe_and (pe_cmpR op_isN (pv 0) pe_non (nomark _)) (pe_one (pe_cmpR op_isN (pv 1) pe_non (nomark _)))))) pss_nil)
    (pss_cons (ps_if (pt_val (pe_callB (r := rIsiT K) call_isiT (by rfl) T.isinstance (by decide +kernel) (pa_cons (pv 1) (pa_cons (pe_tup (pa_cons (pe_bltn (v := .ty "list") (u := .type "list") (by rfl) T.list (by decide +kernel) rfl) (pa_cons (pe_bltn (v := .ty "tuple") (u := .type "tuple") (by rfl) T.tuple (by decide +kernel) rfl) pa_nil))) pa_nil)))) (pss_cons (ps_if (PW.pt (pw_or (pt_cmpR op_ne (pe_callB (r := rIsi K) call_isi (by rfl) T.isinstance (by decide +kernel) (pa_cons (pv 0) (pa_cons (pe_bltn (v := .ty "list") (u := .type "list") (by rfl) T.list (by decide +kernel) rfl) pa_nil))) (pe_callB (r := rIsi K) call_isi (by rfl) T.isinstance (by decide +kernel) (pa_cons (pv 1) (pa_cons (pe_bltn (v := .ty "list") (u := .type "list") (by rfl) T.list (by decide +kernel) rfl) pa_nil))) (nomark _)) (pw_or1 (pt_cmpR op_ne (pe_callB (r := rIsi K) call_isi (by rfl) T.isinstance (by decide +kernel) (pa_cons (pv 0) (pa_cons (pe_bltn (v := .ty "tuple") (u := .type "tuple") (by rfl) T.tuple (by decide +kernel) rfl) pa_nil))) (pe_callB (r := rIsi K) call_isi (by rfl) T.isinstance (by decide +kernel) (pa_cons (pv 1) (pa_cons (pe_bltn (v := .ty "tuple") (u := .type "tuple") (by rfl) T.tuple (by decide +kernel) rfl) pa_nil))) (nomark _))))) (pss_one (ps_ret pe_bl)) pss_nil)
    (pss_one (ps_ret (pe_and (pe_cmpR op_eq (pe_callB (r := rLenK K) call_len_seq (by rfl) T.len (by decide +kernel) (pa_cons (pv 0) pa_nil)) (pe_callB (r := rLenK K) call_len_seq (by rfl) T.len (by decide +kernel) (pa_cons (pv 1) pa_nil)) (nomark _)) (pe_one (pe_callB (r := rAll K) (cr_all rfl) (by rfl) T.all (by decide +kernel) (pa_cons (pe_lc (own := [("_law_k", 2)]) (g := gName 2) (tt := tYes) rfl sc_same.nd (pi_range1 rfl T.range (pa_cons (pe_callB (r := rLenK K) call_len_seq (by rfl) T.len (by decide +kernel) (pa_cons (pv 1) pa_nil)) pa_nil)) (blkOk_by (own := [("_law_k", 2)]) (N := ["_law_found", "_law_due", "_law_k"]) (sc := defScope s_same) (by decide +kernel)) (fun _ _ _ _ _ => (pg_name (i := 2) sc_same.nd rfl (Or.inl rfl))) (fun _ _ _ _ _ => pts_nil) (fun _ _ _ _ _ => (pe_call G hr rfl T.d_same.m T.d_same.F.kp T.d_same.b .nil pass0 (pa_cons (pe_ix (r := rIx K) ix_seq (pv 0) (pv 2) (fun _ _ => rfl)) (pa_cons (pe_ix (r := rIx K) ix_seq (pv 1) (pv 2) (fun _ _ => rfl)) pa_nil))))) pa_nil))))))) pss_nil)
    (pss_cons (ps_if (PW.pt (pw_or (pt_cmpR op_ne (pe_callB (r := rIsi K) call_isi (by rfl) T.isinstance (by decide +kernel) (pa_cons (pv 1) (pa_cons (pe_bltn (v := .ty "bool") (u := .type "bool") (by rfl) T.bool (by decide +kernel) rfl) pa_nil))) (pe_callB (r := rIsi K) call_isi (by rfl) T.isinstance (by decide +kernel) (pa_cons (pv 0) (pa_cons (pe_bltn (v := .ty "bool") (u := .type "bool") (by rfl) T.bool (by decide +kernel) rfl) pa_nil))) (nomark _)) (pw_or1 (pt_cmpR op_ne (pe_callB (r := rIsi K) call_isi (by rfl) T.isinstance (by decide +kernel) (pa_cons (pv 1) (pa_cons (pe_bltn (v := .ty "int") (u := .type "int") (by rfl) T.int (by decide +kernel) rfl) pa_nil))) (pe_callB (r := rIsi K) call_isi (by rfl) T.isinstance (by decide +kernel) (pa_cons (pv 0) (pa_cons (pe_bltn (v := .ty "int") (u := .type "int") (by rfl) T.int (by decide +kernel) rfl) pa_nil))) (nomark _))))) (pss_one (ps_ret pe_bl)) pss_nil)
    (pss_one (ps_ret (pe_and (pe_cmpR op_eq (pe_callB (r := rIsi K) call_isi (by rfl) T.isinstance (by decide +kernel) (pa_cons (pv 1) (pa_cons (pe_bltn (v := .ty "str") (u := .type "str") (by rfl) T.str (by decide +kernel) rfl) pa_nil))) (pe_callB (r := rIsi K) call_isi (by rfl) T.isinstance (by decide +kernel) (pa_cons (pv 0) (pa_cons (pe_bltn (v := .ty "str") (u := .type "str") (by rfl) T.str (by decide +kernel) rfl) pa_nil))) (nomark _)) (pe_one (pe_cmpR op_eq (pv 0) (pv 1) (nomark _))))))))), ?_⟩
    refine ⟨_, rfl, rfl, _, rfl, iteF ?_⟩
    refine ⟨_, rfl, rfl, _, rfl, iteF ?_⟩
    refine ⟨_, rfl, sl_small (by decide), fun p hp => ?_⟩
    have s1 : Same H (upd H p (.tup [V.ty "list", V.ty "tuple"])) := Same.new hp _
    refine ⟨_, p, _, _, _, true, rfl, upd_same, cls2, ty _ _ _ (s1 _ _ hb), k1, _, rfl, iteT ?_⟩
    refine ⟨_, rfl, _, _, _, _, _, rfl, .ty _, ty _ _ _ (s1 _ _ ha), kit_ty k2, _, rfl, _, _, _, _, _, rfl, .ty _, ty _ _ _ (s1 _ _ hb), kit_ty k2, rfl, _, rfl, ?_⟩
    rw [ne_bl]
    refine iteF ⟨_, rfl, _, _, _, _, _, rfl, .ty _, ty _ _ _ (s1 _ _ ha), kit_ty k3, _, rfl, _, _, _, _, _, rfl, .ty _, ty _ _ _ (s1 _ _ hb), kit_ty k3, rfl, _, rfl, ?_⟩
    rw [ne_bl]
    refine iteF ⟨_, rfl, a, _, rfl, seq (s1 _ _ ha), _, rfl, b, _, rfl, seq (s1 _ _ hb), rfl, _, rfl, ?_⟩
    rw [hlen, decide_eq_true rfl]
    refine iteT ⟨_, rfl, b, _, rfl, seq (s1 _ _ hb), _, rfl, by omega, by omega, fun D hD => ?_⟩
    have s2 := s1.set (s1.free hD)
    refine lc_range (lo := 0) (n := ((ys.length : Nat) : Int).toNat) (fun i H' => Same H H' ∧ H' D = some (.lst (List.replicate i (V.bl true)))) ⟨s2 _, upd_same⟩ ?_ ?_
    · rintro i H' hi ⟨s3, hD'⟩
      have hi : i < ys.length := by omega
      obtain ⟨v, hv, he⟩ := paired_at hP (List.getElem?_eq_getElem hi)
      refine ⟨rfl, ?_⟩
      refine ⟨_, rfl, _, rfl, ixs (s3 _ _ ha) hv ⟨_, rfl, _, rfl, ixs (s3 _ _ hb) (List.getElem?_eq_getElem hi) ?_⟩⟩
      refine ⟨_, _, rfl, he.mono s3, fun H2 s4 => ?_⟩
      refine ⟨_, s4 _ _ hD', by rw [List.length_replicate]; exact sl_lt (by omega), (s3.trans s4).set (s1.free hD) _, ?_⟩
      rw [upd_same, List.replicate_succ']
    · rintro H' ⟨s3, hD'⟩
      refine ⟨D, List.replicate ys.length true, rfl, SqL.of (by rw [hD', List.map_replicate]; rfl), ?_⟩
      have e : (List.replicate ys.length true).all id = true := by
        rw [List.all_replicate]
        cases ys.length <;> rfl
      rw [e]
      exact q _ s3
theorem ok_same_at (T : Txt K mg A) : ∀ n : Nat, FnOk P w K mg base CX0 (n + 1) A.f_same A.fd_same ["_law_found", "_law_due"] (spSame K n)
  | 0 => ok_same_step T 0 fun m e => nomatch e
  | n + 1 => ok_same_step T (n + 1) fun m e => by
    have e2 : m = n := by omega
    subst e2
    exact ok_same_at T m
/-- data of at most nine levels -/
theorem ok_same (T : Txt K mg A) : FnOk P w K mg base CX0 10 A.f_same A.fd_same ["_law_found", "_law_due"] (spSame K 9) := ok_same_at T 9
end

/-! ## Fractions in the heap -/
open RM in
/-- the tuple of a fraction -/
def FR (x : Rat) : List V := [.int x.num, .int ((x.den : Nat) : Int)]
/-- a new tuple, all else as it was -/
def NewT (H : Hp) (Q : VK) (xs : List V) : Prop := ∀ (p : Addr) (H' : Hp), Same H H' → H p = none → H' p = some (.tup xs) → Q (.ref p) H'
theorem NewT.lay {H H1 : Hp} {Q : VK} {xs : List V} {p : Addr} (q : NewT H Q xs) (e : Same H H1) (h : H1 p = none) : Q (.ref p) (upd H1 p (.tup xs)) := q p _ (e.set (e.free h) _) (e.free h) upd_same
theorem fr_of {x : Rat} {n d : Int} (h1 : n = x.num) (h2 : d = ((x.den : Nat) : Int)) : ([.int n, .int d] : List V) = FR x := by
  rw [h1, h2]; rfl
theorem w_mul {i j : Int} {a b : Nat} (ha : i.natAbs < 2 ^ a) (hb : j.natAbs < 2 ^ b) (h : a + b + 2 ≤ 1000000) : CMulW i j :=
  wide_mul (a := a + 1) (b := b + 1) (Nat.lt_of_lt_of_le ha (RM.pow_le (by omega))) (Nat.lt_of_lt_of_le hb (RM.pow_le (by omega))) (by omega) (by omega) (by omega)
theorem w_div {i j : Int} {b : Nat} (h : 0 < j) (hb : j.natAbs < 2 ^ b) (h9 : b ≤ 8999) : CDivW i j :=
  wide_div h (Nat.lt_of_lt_of_le hb (RM.pow_le (show b ≤ b + 1 by omega))) (by omega) (by omega)
def rIxTV (H : Hp) (p : Addr) (xs : List V) (i : Nat) (v : V) : Prop := H p = some (.tup xs) ∧ xs[i]? = some v
def spGcd : Sp := fun vs H Q _ => ∃ (a b : Int), vs = [.int a, .int b] ∧ 0 ≤ b ∧ Q (.int ((Int.gcd a b : Nat) : Int)) H
def spLow : Sp := fun vs H Q _ => ∃ (a b : Int), vs = [.int a, .int b] ∧ 0 < b ∧ b.natAbs < 2 ^ 8000 ∧ NewT H Q (FR (Rat.divInt a b))
section
variable {P : Program} {w : World} {K : PySem.W.Frag} {mg : Str → Option Value} {base : Heap} {A : Ad}
theorem abs_is (i : Int) : (if i < 0 then -i else i) = ((i.natAbs : Nat) : Int) := by
  split <;> omega
theorem gcd_zero' (i : Int) : ((i.natAbs : Nat) : Int) = ((Int.gcd i 0 : Nat) : Int) := by rw [Int.gcd_zero]
theorem ok_gcd (T : Txt K mg A) : FnOk P w K mg base CX0 1 A.f_gcd A.fd_gcd ["_law_a", "_law_b"] spGcd := by
  refine T.d_gcd.F.ok sc_gcd (fun vs H Q E h => ?_) (fun cdv ar outer s H vs Q E hr h => ?_)
  · obtain ⟨a, b, rfl, _⟩ := h
    rfl
  obtain ⟨a, b, rfl, hb, q⟩ := h
  refine ⟨_, (pss_cons (ps_while PassesOwn.never (pt_cmpR op_ne (pv 1) pe_int (nomark _)) (pss_one (ps_par (i := 0) (j := 1) (by rfl) sc_gcd.nd rfl rfl (by decide) rfl rfl (pa_cons (pv 1) (pa_cons (pe_op op_mod (pv 0) (pv 1)) pa_nil)) (by rfl))))
    (pss_one (ps_ret (pe_callB call_abs (by rfl) T.abs (by decide +kernel) (pa_cons (pv 0) pa_nil))))), ?_⟩
  refine while_by (fun σ H' => H' = H ∧ ∃ x y : Int, σ = [some (.int x), some (.int y)] ∧ 0 ≤ y ∧ Int.gcd x y = Int.gcd a b) (fun σ _ => match σ with | [_, some (.int y)] => y.toNat | _ => 0) ⟨rfl, a, b, rfl, hb, rfl⟩ ?_ (fun σ H Q Q' m ⟨v, e, h1, k, e2, q⟩ => ⟨v, e, h1, k, e2, m _ _ q⟩)
  rintro σ _ ⟨rfl, x, y, rfl, hy, hg⟩
  refine ⟨_, rfl, rfl, _, rfl, ?_⟩
  by_cases h0 : y = 0
  · subst h0
    rw [decide_eq_true rfl]
    refine iteF ⟨_, rfl, _, rfl, ?_⟩
    rw [abs_is, gcd_zero', hg]
    exact q
  · have d0 : decide (V.int y = V.int 0) = false := decide_eq_false fun z => h0 (by injection z)
    rw [d0]
    refine iteT ⟨_, rfl, _, rfl, _, rfl, _, _, rfl, rfl, (by show 0 < y; omega), _, _, rfl, ?_⟩
    have hm := Int.emod_nonneg x h0
    have hl := Int.emod_lt_of_pos x (show 0 < y by omega)
    refine ⟨⟨rfl, y, x % y, rfl, hm, by rw [RM.gcd_step]; exact hg⟩, ?_⟩
    show (x % y).toNat < y.toNat
    omega
theorem ok_low (T : Txt K mg A) : FnOk P w K mg base CX0 2 A.f_low A.fd_low ["_law_a", "_law_b"] spLow := by
  refine T.d_low.F.ok sc_low (fun vs H Q E h => ?_) (fun cdv ar outer s H vs Q E hr h => ?_)
  · obtain ⟨a, b, rfl, _⟩ := h
    rfl
  obtain ⟨a, b, rfl, hb, hz, q⟩ := h
  have g0 : 0 < ((Int.gcd a b : Nat) : Int) := RM.gcd_posi (by omega)
  have g1 : ((Int.gcd a b : Nat) : Int).natAbs < 2 ^ 8000 := by
    refine Nat.lt_of_le_of_lt ?_ hz
    rw [RM.nat_abs]
    exact Nat.le_of_dvd (by omega) (Int.gcd_dvd_natAbs_right ..)
  refine ⟨_, (pss_cons (ps_set (i := 2) sc_low.nd rfl (Or.inl rfl) (pe_call (ok_gcd T) (hr.mono (by decide)) rfl T.d_gcd.m T.d_gcd.F.kp T.d_gcd.b .nil pass0 (pa_cons (pv 0) (pa_cons (pv 1) pa_nil))))
    (pss_one (ps_ret (pe_tup (pa_cons (pe_op op_fdivW (pv 0) (pv 2)) (pa_cons (pe_op op_fdivW (pv 1) (pv 2)) pa_nil)))))), ?_⟩
  refine ⟨_, rfl, _, rfl, a, b, rfl, by omega, ?_⟩
  refine ⟨_, rfl, _, rfl, _, _, rfl, rfl, w_div g0 g1 (by decide), _, rfl, _, rfl, _, _, rfl, rfl, w_div g0 g1 (by decide), slr rfl, fun p hp => ?_⟩
  show Q (.ref p) (upd H p (.tup [.int (a / ((Int.gcd a b : Nat) : Int)), .int (b / ((Int.gcd a b : Nat) : Int))]))
  rw [← RM.num_pos hb, ← RM.den_pos hb]
  exact q.lay (Same.refl H) hp
end

section
variable {P : Program} {w : World} {K : PySem.W.Frag} {mg : Str → Option Value} {base : Heap} {A : Ad}
theorem ix0 {x : Rat} : atI (FR x) 0 = some (.int x.num) := at_of (j := 0) rfl rfl
theorem ix1 {x : Rat} : atI (FR x) 1 = some (.int ((x.den : Nat) : Int)) := at_of (j := 1) rfl rfl
/-- a fraction stands at v -/
def IsR (H : Hp) (v : V) (x : Rat) : Prop := ∃ p, v = .ref p ∧ H p = some (.tup (FR x))
theorem IsR.mono {H H' : Hp} {v : V} {x : Rat} (h : IsR H v x) (e : Same H H') : IsR H' v x := by
  obtain ⟨p, h1, h2⟩ := h
  exact ⟨p, h1, e _ _ h2⟩
def RL (H : Hp) (vs : List V) (qs : List Rat) : Prop := Paired (IsR H) vs qs
theorem RL.mono {H H' : Hp} {vs : List V} {qs : List Rat} (h : RL H vs qs) (e : Same H H') : RL H' vs qs := paired_imp (fun _ _ z => z.mono e) h
theorem paired_at1 {α β : Type} {R : α → β → Prop} : ∀ {xs : List α} {ys : List β} {i : Nat} {x : α}, Paired R xs ys → xs[i]? = some x → ∃ y, ys[i]? = some y ∧ R x y
  | _, _, _, _, .nil, e => by cases e
  | _, y :: _, 0, _, .cons r _, e => by cases e; exact ⟨y, rfl, r⟩
  | _, _, i + 1, x, .cons _ t, e => by
    obtain ⟨y, h1, h2⟩ := paired_at1 (i := i) (x := x) t (by simpa using e)
    exact ⟨y, by simpa using h1, h2⟩
def AllBd (k : Nat) (qs : List Rat) : Prop := ∀ x ∈ qs, RM.Bd k x
theorem AllBd.get {k : Nat} {qs : List Rat} (h : AllBd k qs) {i : Nat} {x : Rat} (e : qs[i]? = some x) : RM.Bd k x := h _ (List.mem_of_getElem? e)
theorem AllBd.take {k : Nat} {qs : List Rat} (h : AllBd k qs) (i : Nat) : AllBd k (qs.take i) := fun x hx => h x (List.mem_of_mem_take hx)
theorem sum_bd' {k : Nat} : ∀ (qs : List Rat) (j : Nat) (a : Rat), AllBd k qs → RM.Bd j a → RM.Bd (j + (k + 1) * qs.length) (qs.foldl (· + ·) a)
  | [], j, a, _, b => by simpa using b
  | x :: r, j, a, h, b => by
    have q := sum_bd' r (j + k + 1) (a + x) (fun y hy => h y (List.mem_cons_of_mem _ hy)) (b.add (h x List.mem_cons_self))
    refine q.mono ?_
    rw [List.length_cons, Nat.mul_add, Nat.mul_one]
    omega
theorem sum_bd {k : Nat} {qs : List Rat} (h : AllBd k qs) : RM.Bd (1 + (k + 1) * qs.length) (RM.sumR qs) := sum_bd' qs 1 0 h (RM.Bd.zero (Nat.le_refl 1))
theorem mul_bd' {k : Nat} : ∀ (qs : List Rat) (j : Nat) (a : Rat), AllBd k qs → RM.Bd j a → RM.Bd (j + k * qs.length) (qs.foldl (· * ·) a)
  | [], j, a, _, b => by simpa using b
  | x :: r, j, a, h, b => by
    have q := mul_bd' r (j + k) (a * x) (fun y hy => h y (List.mem_cons_of_mem _ hy)) (b.mul (h x List.mem_cons_self))
    refine q.mono ?_
    rw [List.length_cons, Nat.mul_add, Nat.mul_one]
    omega
theorem mul_bd {k : Nat} {qs : List Rat} (h : AllBd k qs) : RM.Bd (1 + k * qs.length) (RM.mulR qs) := mul_bd' qs 1 1 h (RM.Bd.one (Nat.le_refl 1))
theorem take_le {k i : Nat} {qs : List Rat} (hi : i ≤ qs.length) : 1 + (k + 1) * (qs.take i).length ≤ 1 + (k + 1) * qs.length := by
  rw [List.length_take]
  have := Nat.mul_le_mul_left (k + 1) (Nat.min_le_right i qs.length)
  omega
theorem take_le0 {k i : Nat} {qs : List Rat} : 1 + k * (qs.take i).length ≤ 1 + k * qs.length := by
  rw [List.length_take]
  have := Nat.mul_le_mul_left k (Nat.min_le_right i qs.length)
  omega

def spAdd : Sp := fun vs H Q _ => ∃ (v u : V) (x y : Rat) (j k : Nat), vs = [v, u] ∧ IsR H v x ∧ IsR H u y ∧ RM.Bd j x ∧ RM.Bd k y ∧ j + k + 1 ≤ 8000 ∧ NewT H Q (FR (x + y))
def spMul : Sp := fun vs H Q _ => ∃ (v u : V) (x y : Rat) (j k : Nat), vs = [v, u] ∧ IsR H v x ∧ IsR H u y ∧ RM.Bd j x ∧ RM.Bd k y ∧ j + k + 1 ≤ 8000 ∧ NewT H Q (FR (x * y))
def spNeg : Sp := fun vs H Q _ => ∃ (v : V) (x : Rat), vs = [v] ∧ IsR H v x ∧ NewT H Q (FR (-x))
def spLess : Sp := fun vs H Q _ => ∃ (v u : V) (x y : Rat) (j k : Nat), vs = [v, u] ∧ IsR H v x ∧ IsR H u y ∧ RM.Bd j x ∧ RM.Bd k y ∧ j + k + 1 ≤ 8000 ∧ Q (.bl (decide (x < y))) H
def spSum : Sp := fun vs H Q _ => ∃ (l : Addr) (us : List V) (qs : List Rat) (k : Nat), vs = [.ref l] ∧ H l = some (.lst us) ∧ RL H us qs ∧ AllBd k qs ∧ 1 + (k + 1) * qs.length + k + 1 ≤ 8000 ∧ NewT H Q (FR (RM.sumR qs))
theorem ok_add (T : Txt K mg A) : FnOk P w K mg base CX0 3 A.f_add A.fd_add ["_law_p", "_law_q"] spAdd := by
  refine T.d_add.F.ok sc_add (fun vs H Q E h => ?_) (fun cdv ar outer s H vs Q E hr h => ?_)
  · obtain ⟨v, u, x, y, j, k, rfl, _⟩ := h
    rfl
  obtain ⟨_, _, x, y, j, k, rfl, ⟨p, rfl, hp⟩, ⟨r, rfl, hq⟩, bx, bY, hz, q⟩ := h
  refine ⟨_, (pss_one (ps_ret (pe_call (ok_low T) (hr.mono (by decide)) rfl T.d_low.m T.d_low.F.kp T.d_low.b .nil pass0 (pa_cons (pe_op op_add (pe_op op_mulW (pe_ix (r := rIxT K) ix_tup (pv 0) pe_int (fun _ _ => rfl)) (pe_ix (r := rIxT K) ix_tup (pv 1) pe_int (fun _ _ => rfl))) (pe_op op_mulW (pe_ix (r := rIxT K) ix_tup (pv 1) pe_int (fun _ _ => rfl)) (pe_ix (r := rIxT K) ix_tup (pv 0) pe_int (fun _ _ => rfl)))) (pa_cons (pe_op op_mulW (pe_ix (r := rIxT K) ix_tup (pv 0) pe_int (fun _ _ => rfl)) (pe_ix (r := rIxT K) ix_tup (pv 1) pe_int (fun _ _ => rfl))) pa_nil))))), ?_⟩
  refine ⟨_, rfl, p, _, _, _, rfl, rfl, SqT.of hp, ix0, _, rfl, r, _, _, _, rfl, rfl, SqT.of hq, ix1, _, _, rfl, rfl, w_mul bx.1 bY.den (by omega), _, rfl, r, _, _, _, rfl, rfl, SqT.of hq, ix0, _, rfl, p, _, _, _, rfl, rfl, SqT.of hp, ix1, _, _, rfl, rfl, w_mul bY.1 bx.den (by omega), _, _, rfl, rfl, ?_⟩
  refine ⟨_, rfl, p, _, _, _, rfl, rfl, SqT.of hp, ix1, _, rfl, r, _, _, _, rfl, rfl, SqT.of hq, ix1, _, _, rfl, rfl, w_mul bx.den bY.den (by omega), ?_⟩
  refine ⟨x.num * y.den + y.num * x.den, x.den * y.den, rfl, RM.dd_pos x y, Nat.lt_of_lt_of_le (RM.abs_mul_lt bx.den bY.den) (RM.pow_le (by omega)), ?_⟩
  rw [RM.add_eq]
  exact q
theorem ok_mul (T : Txt K mg A) : FnOk P w K mg base CX0 3 A.f_mul A.fd_mul ["_law_p", "_law_q"] spMul := by
  refine T.d_mul.F.ok sc_mul (fun vs H Q E h => ?_) (fun cdv ar outer s H vs Q E hr h => ?_)
  · obtain ⟨v, u, x, y, j, k, rfl, _⟩ := h
    rfl
  obtain ⟨_, _, x, y, j, k, rfl, ⟨p, rfl, hp⟩, ⟨r, rfl, hq⟩, bx, bY, hz, q⟩ := h
  refine ⟨_, (pss_one (ps_ret (pe_call (ok_low T) (hr.mono (by decide)) rfl T.d_low.m T.d_low.F.kp T.d_low.b .nil pass0 (pa_cons (pe_op op_mulW (pe_ix (r := rIxT K) ix_tup (pv 0) pe_int (fun _ _ => rfl)) (pe_ix (r := rIxT K) ix_tup (pv 1) pe_int (fun _ _ => rfl))) (pa_cons (pe_op op_mulW (pe_ix (r := rIxT K) ix_tup (pv 0) pe_int (fun _ _ => rfl)) (pe_ix (r := rIxT K) ix_tup (pv 1) pe_int (fun _ _ => rfl))) pa_nil))))), ?_⟩
  refine ⟨_, rfl, p, _, _, _, rfl, rfl, SqT.of hp, ix0, _, rfl, r, _, _, _, rfl, rfl, SqT.of hq, ix0, _, _, rfl, rfl, w_mul bx.1 bY.1 (by omega), ?_⟩
  refine ⟨_, rfl, p, _, _, _, rfl, rfl, SqT.of hp, ix1, _, rfl, r, _, _, _, rfl, rfl, SqT.of hq, ix1, _, _, rfl, rfl, w_mul bx.den bY.den (by omega), ?_⟩
  refine ⟨x.num * y.num, x.den * y.den, rfl, RM.dd_pos x y, Nat.lt_of_lt_of_le (RM.abs_mul_lt bx.den bY.den) (RM.pow_le (by omega)), ?_⟩
  rw [RM.mul_eq]
  exact q
theorem ok_neg (T : Txt K mg A) : FnOk P w K mg base CX0 1 A.f_neg A.fd_neg ["_law_p"] spNeg := by
  refine T.d_neg.F.ok sc_neg (fun vs H Q E h => ?_) (fun cdv ar outer s H vs Q E hr h => ?_)
  · obtain ⟨v, x, rfl, _⟩ := h
    rfl
  obtain ⟨_, x, rfl, ⟨p, rfl, hp⟩, q⟩ := h
  refine ⟨_, (pss_one (ps_ret (pe_tup (pa_cons (pe_op op_sub pe_int (pe_ix (r := rIxT K) ix_tup (pv 0) pe_int (fun _ _ => rfl))) (pa_cons (pe_ix (r := rIxT K) ix_tup (pv 0) pe_int (fun _ _ => rfl)) pa_nil))))), ?_⟩
  refine ⟨_, rfl, p, _, _, _, rfl, rfl, SqT.of hp, ix0, _, _, rfl, rfl, _, rfl, p, _, _, _, rfl, rfl, SqT.of hp, ix1, slr rfl, fun t ht => ?_⟩
  show Q (.ref t) (upd H t (.tup [.int (0 - x.num), .int ((x.den : Nat) : Int)]))
  rw [fr_of (x := -x) (by rw [Rat.neg_num]; omega) (by rw [Rat.neg_den])]
  exact q.lay (Same.refl H) ht
theorem ok_less (T : Txt K mg A) : FnOk P w K mg base CX0 1 A.f_less A.fd_less ["_law_p", "_law_q"] spLess := by
  refine T.d_less.F.ok sc_less (fun vs H Q E h => ?_) (fun cdv ar outer s H vs Q E hr h => ?_)
  · obtain ⟨v, u, x, y, j, k, rfl, _⟩ := h
    rfl
  obtain ⟨_, _, x, y, j, k, rfl, ⟨p, rfl, hp⟩, ⟨r, rfl, hq⟩, bx, bY, hz, q⟩ := h
  refine ⟨_, (pss_one (ps_ret (pe_cmpR op_lt (pe_op op_mulW (pe_ix (r := rIxT K) ix_tup (pv 0) pe_int (fun _ _ => rfl)) (pe_ix (r := rIxT K) ix_tup (pv 1) pe_int (fun _ _ => rfl))) (pe_op op_mulW (pe_ix (r := rIxT K) ix_tup (pv 1) pe_int (fun _ _ => rfl)) (pe_ix (r := rIxT K) ix_tup (pv 0) pe_int (fun _ _ => rfl))) (nomark _)))), ?_⟩
  refine ⟨_, rfl, p, _, _, _, rfl, rfl, SqT.of hp, ix0, _, rfl, r, _, _, _, rfl, rfl, SqT.of hq, ix1, _, _, rfl, rfl, w_mul bx.1 bY.den (by omega), _, rfl, r, _, _, _, rfl, rfl, SqT.of hq, ix0, _, rfl, p, _, _, _, rfl, rfl, SqT.of hp, ix1, _, _, rfl, rfl, w_mul bY.1 bx.den (by omega), _, _, rfl, rfl, ?_⟩
  show Q (.bl (decide (x.num * ((y.den : Nat) : Int) < y.num * ((x.den : Nat) : Int)))) H
  rw [decide_eq_decide.mpr (Rat.lt_iff x y).symm]
  exact q
theorem fr0 : ([.int 0, .int 1] : List V) = FR 0 := rfl
theorem fr1 : ([.int 1, .int 1] : List V) = FR 1 := rfl
theorem ok_sum (T : Txt K mg A) : FnOk P w K mg base CX0 4 A.f_sum A.fd_sum ["_law_parts"] spSum := by
  refine T.d_sum.F.ok sc_sum (fun vs H Q E h => ?_) (fun cdv ar outer s H vs Q E hr h => ?_)
  · obtain ⟨l, us, qs, k, rfl, _⟩ := h
    rfl
  obtain ⟨l, us, qs, k, rfl, hl, hR, hB, hz, q⟩ := h
  have hlen := paired_len hR
  refine ⟨_, (pss_cons (ps_set (i := 1) sc_sum.nd rfl (Or.inl rfl) (pe_tup (pa_cons pe_int (pa_cons pe_int pa_nil))))
    (pss_cons (ps_for PassesOwn.never rfl (pi_list (pv 0)) (pg_name (i := 2) sc_sum.nd rfl (Or.inl rfl)) (pss_one (ps_set (i := 1) sc_sum.nd rfl (Or.inl rfl) (pe_call (ok_add T) (hr.mono (by decide)) rfl T.d_add.m T.d_add.F.kp T.d_add.b .nil pass0 (pa_cons (pv 1) (pa_cons (pv 2) pa_nil))))))
    (pss_one (ps_ret (pv 1))))), ?_⟩
  refine ⟨slr rfl, fun t ht => ?_⟩
  refine ⟨_, rfl, l, rfl, ⟨_, SqL.of (by rw [upd_ne (ne_of_none hl ht)]; exact hl)⟩, ?_⟩
  refine for_list (xs := us) (fun i σ H' => Same H H' ∧ ∃ (f : Addr) (u : Option V), σ = [some (.ref l), some (.ref f), u] ∧ H f = none ∧ H' f = some (.tup (FR (RM.sumR (qs.take i))))) ⟨Same.new ht _, t, none, rfl, ht, upd_same⟩ ?_ ?_ ?_
  · rintro i σ H' _ ⟨e, _⟩
    exact SqL.of (e _ _ hl)
  · rintro i x σ H' hi ⟨e, f, u, rfl, hf0, hf⟩
    obtain ⟨y, hy, hv⟩ := paired_at1 hR hi
    have hi' : i ≤ qs.length := by
      have := (List.getElem?_eq_some_iff.mp hy).1
      omega
    refine ⟨_, rfl, _, rfl, _, _, _, y, 1 + (k + 1) * qs.length, k, rfl, ⟨f, rfl, hf⟩, hv.mono e, (sum_bd (hB.take i)).mono (take_le hi'), hB.get hy, hz, fun r H2 e2 hr0 hr2 => ?_⟩
    refine ⟨e.trans e2, r, _, rfl, e.free hr0, ?_⟩
    rw [hr2, RM.take_succ hy, RM.sum_snoc]
  · rintro σ H' ⟨e, f, u, rfl, hf0, hf⟩
    rw [hlen, List.take_length] at hf
    exact ⟨_, rfl, q f H' e hf0 hf⟩
end

/-! ## The program's fractions -/
def CDivZ (_ j : Int) : Prop := j ≠ 0 ∧ j.natAbs.log2 < 9000
section
variable {X : Cx}
theorem op_fdivZ : OpR X (binaryOp .FloorDiv) (rI CDivZ fun i j => .int (i.fdiv j)) := opI fun _ _ _ _ _ _ _ hc q => PyProof.Rows.floordiv_int hc.1 q (.inl (PyProof.noPylong_of_log2 hc.2))
theorem iop_mulW : OpR X (inplaceOp .Mult) (rI CMulW fun i j => .int (i * j)) := opI fun _ _ _ _ _ _ _ hc q => PyProof.Rows.imul_int q hc.ok
/-- f(e, ..) of a def by its positional promise -/
theorem pe_callN {CX : CXT} {k : Nat} {f : Addr} {sp : Sp} {E : XK} {x : Str} {p pos : Pos} {e : Expr} {es : List Expr} {t : TA} (F : FnR X.prog X.w X.K X.mg X.base CX k f sp) (hr : Room k X.A) (hg : Gl X x) (hm : X.mg x = some (.ref f)) (hk : PySem.W.keepIn X.K (.ref f) = true) (hx : Passes CX X E)
    (ha : PA X (e :: es) t) (hdb : (x == ("__debug__" : Str)) = false := by decide) (he : starEach (e :: es) X.env = (false, eval e X.env) :: starEach es X.env := by rfl) (hpl : (backTo pos (starEach es X.env)).any (·.1) = false := by rfl) :
    PE X (.Call (.Name x p) (e :: es) [] pos) (fun σ H Q => t σ H fun vs H1 => sp vs H1 Q E) := by
  refine ⟨fun pins s σ H Q I h => ?_⟩
  refine PySem.wpAny_Call_Name_kw (ld_glob I hg hm ?_ hdb)
  refine PySem.W.callWith_K (h₀ := X.base) I.ok.mod.kin hk (thn (ha.run pos pins s σ H _ I h) fun us s1 ⟨vs, H1, I1, r, q⟩ => ⟨I1.kIn, ?_⟩) he hpl
  exact PySem.wpAny_call (run_fnR F hr hx I1 r q)
theorem pe_callN0 {CX : CXT} {k : Nat} {f : Addr} {sp : Sp} {E : XK} {x : Str} {p pos : Pos} (F : FnR X.prog X.w X.K X.mg X.base CX k f sp) (hr : Room k X.A) (hg : Gl X x) (hm : X.mg x = some (.ref f)) (hk : PySem.W.keepIn X.K (.ref f) = true) (hx : Passes CX X E)
    (hdb : (x == ("__debug__" : Str)) = false := by decide) : PE X (.Call (.Name x p) [] [] pos) (fun σ H Q => sp [] H Q E) := by
  refine ⟨fun pins s σ H Q I h => ?_⟩
  refine PySem.wpAny_Call_Name_kw (ld_glob I hg hm ?_ hdb)
  exact PySem.W.callWith_K0 I.kIn hk (PySem.wpAny_call (run_fnR F hr hx I .nil h))
end
theorem w_divZ {i j : Int} {b : Nat} (h : j ≠ 0) (hb : j.natAbs < 2 ^ b) (h9 : b ≤ 8999) : CDivZ i j :=
  ⟨h, Nat.lt_of_lt_of_le (PySem.Flt.log2_lt_of (show 0 < b + 1 by omega) (Nat.lt_of_lt_of_le hb (RM.pow_le (show b ≤ b + 1 by omega)))) (by omega)⟩
section
variable {P : Program} {w : World} {K : PySem.W.Frag} {mg : Str → Option Value} {base : Heap} {A : Ad}
def spGcdP : Sp := fun vs H Q _ => ∃ (a b : Int), vs = [.int a, .int b] ∧ Q (.int ((Int.gcd a b : Nat) : Int)) H
theorem gcd_abs (a b : Int) : Int.gcd ((a.natAbs : Nat) : Int) ((b.natAbs : Nat) : Int) = Int.gcd a b := by
  unfold Int.gcd
  rw [Int.natAbs_natCast, Int.natAbs_natCast]
theorem ok_common_divisor (T : Txt K mg A) : FnOk P w K mg base CX0 1 A.f_common_divisor A.fd_common_divisor ["one", "other"] spGcdP := by
  refine T.d_common_divisor.F.ok sc_common_divisor (fun vs H Q E h => ?_) (fun cdv ar outer s H vs Q E hr h => ?_)
  · obtain ⟨a, b, rfl, _⟩ := h
    rfl
  obtain ⟨a, b, rfl, q⟩ := h
  refine ⟨_, (pss_cons (ps_par (i := 0) (j := 1) (by rfl) sc_common_divisor.nd rfl rfl (by decide) rfl rfl (pa_cons (pe_callB call_abs (by rfl) T.abs (by decide +kernel) (pa_cons (pv 0) pa_nil)) (pa_cons (pe_callB call_abs (by rfl) T.abs (by decide +kernel) (pa_cons (pv 1) pa_nil)) pa_nil)) (by rfl))
    (pss_cons (ps_while PassesOwn.never (pt_truth (pv 1) (by intro _; rfl)) (pss_one (ps_par (i := 0) (j := 1) (by rfl) sc_common_divisor.nd rfl rfl (by decide) rfl rfl (pa_cons (pv 1) (pa_cons (pe_op op_mod (pv 0) (pv 1)) pa_nil)) (by rfl))))
    (pss_one (ps_ret (pv 0))))), ?_⟩
  refine ⟨_, rfl, _, rfl, _, rfl, _, rfl, _, _, rfl, ?_⟩
  dsimp only
  refine while_by (fun σ H' => H' = H ∧ ∃ x y : Int, σ = [some (.int x), some (.int y)] ∧ 0 ≤ x ∧ 0 ≤ y ∧ Int.gcd x y = Int.gcd a b) (fun σ _ => match σ with | [_, some (.int y)] => y.toNat | _ => 0)
    ⟨rfl, (if a < 0 then -a else a), (if b < 0 then -b else b), rfl, by rw [abs_is]; omega, by rw [abs_is]; omega, by rw [abs_is, abs_is, gcd_abs]⟩ ?_ ?_
  case refine_2 => exact fun σ H Q Q' m ⟨v, e, k, h1, h2⟩ => ⟨v, e, k, h1, m _ _ h2⟩
  rintro σ _ ⟨rfl, x, y, rfl, hx, hy, hg⟩
  refine ⟨_, rfl, (y != 0), rfl, ?_⟩
  by_cases h0 : y = 0
  · subst h0
    refine iteF ⟨_, rfl, ?_⟩
    have e : x = ((Int.gcd x 0 : Nat) : Int) := by rw [Int.gcd_zero]; omega
    rw [e, hg]
    exact q
  · have d0 : (y != 0) = true := by simp [h0]
    rw [d0]
    refine iteT ⟨_, rfl, _, rfl, _, rfl, _, _, rfl, rfl, (by show 0 < y; omega), _, _, rfl, ?_⟩
    have hm := Int.emod_nonneg x h0
    have hl := Int.emod_lt_of_pos x (show 0 < y by omega)
    refine ⟨⟨rfl, y, x % y, rfl, hy, hm, by rw [RM.gcd_step]; exact hg⟩, ?_⟩
    show (x % y).toNat < y.toNat
    omega
end

section
variable {P : Program} {w : World} {K : PySem.W.Frag} {mg : Str → Option Value} {base : Heap} {A : Ad}
def spReduced : Sp := fun vs H Q _ => ∃ (a b : Int), vs = [.int a, .int b] ∧ b ≠ 0 ∧ b.natAbs < 2 ^ 8000 ∧ NewT H Q (FR (Rat.divInt a b))
theorem ok_reduced (T : Txt K mg A) : FnOk P w K mg base CX0 2 A.f_reduced A.fd_reduced ["numerator", "denominator"] spReduced := by
  refine T.d_reduced.F.ok sc_reduced (fun vs H Q E h => ?_) (fun cdv ar outer s H vs Q E hr h => ?_)
  · obtain ⟨a, b, rfl, _⟩ := h
    rfl
  obtain ⟨a, b, rfl, hb, hz, q⟩ := h
  have g0 : 0 < ((Int.gcd a b : Nat) : Int) := RM.gcd_posi hb
  have g1 : ((Int.gcd a b : Nat) : Int).natAbs < 2 ^ 8000 := by
    refine Nat.lt_of_le_of_lt ?_ hz
    rw [RM.nat_abs]
    exact Nat.le_of_dvd (by omega) (Int.gcd_dvd_natAbs_right ..)
  refine ⟨_, (pss_cons (ps_if (pt_cmpR op_eq (pv 1) pe_int (nomark _)) (pss_one ps_never) pss_nil)
    (pss_cons (ps_set (i := 2) sc_reduced.nd rfl (Or.inl rfl) (pe_call (ok_common_divisor T) (hr.mono (by decide)) rfl T.d_common_divisor.m T.d_common_divisor.F.kp T.d_common_divisor.b .nil pass0 (pa_cons (pv 0) (pa_cons (pv 1) pa_nil))))
    (pss_cons (ps_if (pt_cmpR op_lt (pv 1) pe_int (nomark _)) (pss_one (ps_set (i := 2) sc_reduced.nd rfl (Or.inl rfl) (pe_un un_neg (pv 2)))) pss_nil)
    (pss_one (ps_ret (pe_tup (pa_cons (pe_op op_fdivZ (pv 0) (pv 2)) (pa_cons (pe_op op_fdivZ (pv 1) (pv 2)) pa_nil)))))))), ?_⟩
  refine ⟨_, rfl, rfl, _, rfl, ?_⟩
  rw [decide_eq_false (fun z => hb (by injection z) : ¬ V.int b = V.int 0)]
  refine iteF ?_
  refine ⟨_, rfl, _, rfl, a, b, rfl, ?_⟩
  dsimp only [gName]
  refine seq_key (fun σ' H' => H' = H ∧ ∃ g : Int, σ' = [some (.int a), some (.int b), some (.int g)] ∧ g ≠ 0 ∧ g.natAbs < 2 ^ 8000 ∧ a.fdiv g = (Rat.divInt a b).num ∧ b.fdiv g = (((Rat.divInt a b).den : Nat) : Int)) ?_ (fun k => ?_)
  · rintro _ _ ⟨rfl, g, rfl, hg, hg2, e1, e2⟩
    refine ⟨_, rfl, _, rfl, _, _, rfl, rfl, w_divZ hg hg2 (by decide), _, rfl, _, rfl, _, _, rfl, rfl, w_divZ hg hg2 (by decide), slr rfl, fun p hp => ?_⟩
    show Q (.ref p) (upd _ p (.tup [.int (a.fdiv g), .int (b.fdiv g)]))
    rw [e1, e2]
    exact q.lay (Same.refl _) hp
  · refine ⟨_, rfl, _, _, rfl, rfl, _, rfl, ?_⟩
    refine ite2 (fun c => ?_) (fun c => ?_)
    · have c' : b < 0 := of_decide_eq_true c
      refine ⟨_, rfl, _, rfl, ?_⟩
      exact k _ _ ⟨rfl, _, rfl, by omega, by rw [Int.natAbs_neg]; exact g1, (RM.num_neg c').symm, (RM.den_neg c').symm⟩
    · have c' : ¬ b < 0 := of_decide_eq_false (Bool.eq_false_iff.mpr c)
      refine k _ _ ⟨rfl, _, rfl, by omega, g1, ?_, ?_⟩
      · rw [RM.num_pos (by omega), Int.fdiv_eq_ediv_of_dvd (Int.gcd_dvd_left ..)]
      · rw [RM.den_pos (by omega), Int.fdiv_eq_ediv_of_dvd (Int.gcd_dvd_right ..)]

def spTotal (K : PySem.W.Frag) (tl : Bool) : Sp := fun vs H Q _ => ∃ (l : Addr) (us : List V) (qs : List Rat) (k : Nat), vs = [.ref l] ∧ H l = some (if tl then .lst us else .tup us) ∧ RL H us qs ∧ AllBd k qs ∧ 1 + (k + 1) * qs.length + k + 1 ≤ 8000 ∧ NewT H Q (FR (RM.sumR qs))
/-- one more part of the sum -/
theorem tot_step {n d : Int} {x : Rat} {g : Int} (hd : 0 < d) (hg : g = ((Int.gcd d x.den : Nat) : Int)) :
    Rat.divInt (n * (((x.den : Nat) : Int) / g) + x.num * (d / g)) (d * (((x.den : Nat) : Int) / g)) = Rat.divInt n d + x ∧ 0 < d * (((x.den : Nat) : Int) / g) ∧ 0 < g := by
  have hx := RM.den_p x
  have g0 : 0 < g := by rw [hg]; exact RM.gcd_posi (by omega)
  have d1 : g ∣ d := by rw [hg]; exact Int.gcd_dvd_left ..
  have d2 : g ∣ ((x.den : Nat) : Int) := by rw [hg]; exact Int.gcd_dvd_right ..
  refine ⟨?_, Int.mul_pos hd (Int.ediv_pos_of_pos_of_dvd hx (by omega) d2), g0⟩
  rw [RM.part_step (by omega) (by omega) d1 d2, Rat.num_divInt_den]
theorem div_lt {a b : Int} {k : Nat} (h : a.natAbs < 2 ^ k) : (a / b).natAbs < 2 ^ k := Nat.lt_of_le_of_lt (Int.natAbs_ediv_le_natAbs ..) h
/-- the body of the loop, as it is read -/
def TotInv (l : Addr) (H : Hp) (k : Nat) (qs : List Rat) (i : Nat) (σ : St) (H' : Hp) : Prop :=
  Same H H' ∧ ∃ (n d : Int) (u1 u2 u3 : Option V), σ = [some (.ref l), some (.int n), some (.int d), u1, u2, u3] ∧ 0 < d ∧ Rat.divInt n d = RM.sumR (qs.take i) ∧ n.natAbs < 2 ^ (1 + (k + 1) * i) ∧ d.natAbs < 2 ^ (1 + (k + 1) * i)
theorem ok_total2 (T : Txt K mg A) : ∀ tl : Bool, FnOk P w K mg base CX0 3 A.f_total A.fd_total ["parts"] (spTotal K tl)
  | true => by
    refine T.d_total.F.ok sc_total (fun vs H Q E h => ?_) (fun cdv ar outer s H vs Q E hr h => ?_)
    · obtain ⟨l, us, qs, k, rfl, _⟩ := h
      rfl
    obtain ⟨l, us, qs, k, rfl, hl, hR, hB, hz, q⟩ := h
    have hlen := paired_len hR
    refine ⟨_, (pss_cons (ps_asg (pe_tup (pa_cons pe_int (pa_cons pe_int pa_nil))) (pg_tup rfl (pgs_cons (pg_name (i := 1) sc_total.nd rfl (Or.inl rfl)) (pgs_cons (pg_name (i := 2) sc_total.nd rfl (Or.inl rfl)) pgs_nil))))
    (pss_cons (ps_for PassesOwn.never rfl (pi_list (pv 0)) (pg_tup rfl (pgs_cons (pg_name (i := 3) sc_total.nd rfl (Or.inl rfl)) (pgs_cons (pg_name (i := 4) sc_total.nd rfl (Or.inl rfl)) pgs_nil))) (pss_cons (ps_set (i := 5) sc_total.nd rfl (Or.inl rfl) (pe_call (ok_common_divisor T) (hr.mono (by decide)) rfl T.d_common_divisor.m T.d_common_divisor.F.kp T.d_common_divisor.b .nil pass0 (pa_cons (pv 2) (pa_cons (pv 4) pa_nil))))
    (pss_cons (ps_set (i := 1) sc_total.nd rfl (Or.inl rfl) (pe_op op_add (pe_op op_mulW (pv 1) (pe_op op_fdivW (pv 4) (pv 5))) (pe_op op_mulW (pv 3) (pe_op op_fdivW (pv 2) (pv 5)))))
    (pss_one (ps_aug (i := 2) sc_total.nd rfl (.inl rfl) (pe_op op_fdivW (pv 4) (pv 5)) iop_mulW)))))
    (pss_one (ps_ret (pe_call (ok_reduced T) (hr.mono (by decide)) rfl T.d_reduced.m T.d_reduced.F.kp T.d_reduced.b .nil pass0 (pa_cons (pv 1) (pa_cons (pv 2) pa_nil))))))), ?_⟩
    refine ⟨slr rfl, fun t ht => ⟨t, _, rfl, SqT.of upd_same, rfl, _, _, rfl, _, _, rfl, rfl, ?_⟩⟩
    have e0 : Same H (upd H t (.tup [.int 0, .int 1])) := Same.new ht _
    refine ⟨_, rfl, l, rfl, ⟨_, SqL.of (e0 _ _ hl)⟩, ?_⟩
    refine for_list (xs := us) (TotInv l H k qs) ⟨e0, 0, 1, none, none, none, rfl, by decide, rfl, by rw [Nat.mul_zero]; decide, by rw [Nat.mul_zero]; decide⟩ (fun i σ H' _ h => SqL.of (h.1 _ _ hl)) ?_ ?_
    · rintro i x σ H' hi ⟨e, n, d, u1, u2, u3, rfl, hd, hs, hn, hdd⟩
      obtain ⟨y, hy, hv⟩ := paired_at1 hR hi
      obtain ⟨f, rfl, hf⟩ := hv.mono e
      have hi' : i < qs.length := (List.getElem?_eq_some_iff.mp hy).1
      have hm : (k + 1) * i ≤ (k + 1) * qs.length := Nat.mul_le_mul_left _ (by omega)
      have hx : (k + 1) * (i + 1) = (k + 1) * i + k + 1 := by rw [Nat.mul_add]; omega
      have bY := hB.get hy
      obtain ⟨t1, t2, t3⟩ := tot_step (n := n) (x := y) hd rfl
      have t4 : ((Int.gcd d y.den : Nat) : Int).natAbs < 2 ^ 8000 := by
        refine Nat.lt_of_lt_of_le (Nat.lt_of_le_of_lt ?_ hdd) (RM.pow_le (by omega))
        rw [RM.nat_abs]
        exact Nat.le_of_dvd (by omega) (Int.gcd_dvd_natAbs_left ..)
      refine ⟨f, _, rfl, SqT.of hf, rfl, _, _, rfl, _, _, rfl, rfl, ?_⟩
      refine ⟨_, rfl, _, rfl, d, _, rfl, ?_⟩
      refine ⟨_, rfl, _, rfl, _, rfl, _, _, rfl, rfl, w_div t3 t4 (by decide), _, _, rfl, rfl, w_mul hn (div_lt bY.den) (by omega), _, rfl, _, rfl, _, rfl, _, _, rfl, rfl, w_div t3 t4 (by decide), _, _, rfl, rfl, w_mul bY.1 (div_lt hdd) (by omega), _, _, rfl, rfl, ?_⟩
      refine ⟨_, rfl, _, rfl, _, rfl, _, _, rfl, rfl, w_div t3 t4 (by decide), _, _, rfl, rfl, w_mul hdd (div_lt bY.den) (by omega), ?_⟩
      refine ⟨e, _, _, _, _, _, rfl, t2, ?_, ?_, ?_⟩
      · rw [t1, hs, RM.take_succ hy, RM.sum_snoc]
      · exact Nat.lt_of_lt_of_le (RM.abs_add_lt (RM.abs_mul_lt hn (div_lt bY.den)) (by rw [Nat.add_comm]; exact RM.abs_mul_lt bY.1 (div_lt hdd))) (RM.pow_le (by omega))
      · exact Nat.lt_of_lt_of_le (RM.abs_mul_lt hdd (div_lt bY.den)) (RM.pow_le (by omega))
    · rintro σ H' ⟨e, n, d, u1, u2, u3, rfl, hd, hs, hn, hdd⟩
      rw [hlen] at hdd
      refine ⟨_, rfl, _, rfl, n, d, rfl, by omega, Nat.lt_of_lt_of_le hdd (RM.pow_le (by omega)), ?_⟩
      rw [hs, hlen, List.take_length]
      exact fun p H2 e2 h0 h2 => q p H2 (e.trans e2) (e.free h0) h2
  | false => by
    refine T.d_total.F.ok sc_total (fun vs H Q E h => ?_) (fun cdv ar outer s H vs Q E hr h => ?_)
    · obtain ⟨l, us, qs, k, rfl, _⟩ := h
      rfl
    obtain ⟨l, us, qs, k, rfl, hl, hR, hB, hz, q⟩ := h
    have hlen := paired_len hR
    refine ⟨_, (pss_cons (ps_asg (pe_tup (pa_cons pe_int (pa_cons pe_int pa_nil))) (pg_tup rfl (pgs_cons (pg_name (i := 1) sc_total.nd rfl (Or.inl rfl)) (pgs_cons (pg_name (i := 2) sc_total.nd rfl (Or.inl rfl)) pgs_nil))))
    (pss_cons (ps_for PassesOwn.never rfl (pi_tup (pv 0)) (pg_tup rfl (pgs_cons (pg_name (i := 3) sc_total.nd rfl (Or.inl rfl)) (pgs_cons (pg_name (i := 4) sc_total.nd rfl (Or.inl rfl)) pgs_nil))) (pss_cons (ps_set (i := 5) sc_total.nd rfl (Or.inl rfl) (pe_call (ok_common_divisor T) (hr.mono (by decide)) rfl T.d_common_divisor.m T.d_common_divisor.F.kp T.d_common_divisor.b .nil pass0 (pa_cons (pv 2) (pa_cons (pv 4) pa_nil))))
    (pss_cons (ps_set (i := 1) sc_total.nd rfl (Or.inl rfl) (pe_op op_add (pe_op op_mulW (pv 1) (pe_op op_fdivW (pv 4) (pv 5))) (pe_op op_mulW (pv 3) (pe_op op_fdivW (pv 2) (pv 5)))))
    (pss_one (ps_aug (i := 2) sc_total.nd rfl (.inl rfl) (pe_op op_fdivW (pv 4) (pv 5)) iop_mulW)))))
    (pss_one (ps_ret (pe_call (ok_reduced T) (hr.mono (by decide)) rfl T.d_reduced.m T.d_reduced.F.kp T.d_reduced.b .nil pass0 (pa_cons (pv 1) (pa_cons (pv 2) pa_nil))))))), ?_⟩
    refine ⟨slr rfl, fun t ht => ⟨t, _, rfl, SqT.of upd_same, rfl, _, _, rfl, _, _, rfl, rfl, ?_⟩⟩
    have e0 : Same H (upd H t (.tup [.int 0, .int 1])) := Same.new ht _
    refine ⟨_, rfl, l, rfl, ⟨_, SqT.of (e0 _ _ hl)⟩, ?_⟩
    refine for_tup (xs := us) (TotInv l H k qs) ⟨e0, 0, 1, none, none, none, rfl, by decide, rfl, by rw [Nat.mul_zero]; decide, by rw [Nat.mul_zero]; decide⟩ (fun i σ H' _ h => SqT.of (h.1 _ _ hl)) ?_ ?_
    · rintro i x σ H' hi ⟨e, n, d, u1, u2, u3, rfl, hd, hs, hn, hdd⟩
      obtain ⟨y, hy, hv⟩ := paired_at1 hR hi
      obtain ⟨f, rfl, hf⟩ := hv.mono e
      have hi' : i < qs.length := (List.getElem?_eq_some_iff.mp hy).1
      have hm : (k + 1) * i ≤ (k + 1) * qs.length := Nat.mul_le_mul_left _ (by omega)
      have hx : (k + 1) * (i + 1) = (k + 1) * i + k + 1 := by rw [Nat.mul_add]; omega
      have bY := hB.get hy
      obtain ⟨t1, t2, t3⟩ := tot_step (n := n) (x := y) hd rfl
      have t4 : ((Int.gcd d y.den : Nat) : Int).natAbs < 2 ^ 8000 := by
        refine Nat.lt_of_lt_of_le (Nat.lt_of_le_of_lt ?_ hdd) (RM.pow_le (by omega))
        rw [RM.nat_abs]
        exact Nat.le_of_dvd (by omega) (Int.gcd_dvd_natAbs_left ..)
      refine ⟨f, _, rfl, SqT.of hf, rfl, _, _, rfl, _, _, rfl, rfl, ?_⟩
      refine ⟨_, rfl, _, rfl, d, _, rfl, ?_⟩
      refine ⟨_, rfl, _, rfl, _, rfl, _, _, rfl, rfl, w_div t3 t4 (by decide), _, _, rfl, rfl, w_mul hn (div_lt bY.den) (by omega), _, rfl, _, rfl, _, rfl, _, _, rfl, rfl, w_div t3 t4 (by decide), _, _, rfl, rfl, w_mul bY.1 (div_lt hdd) (by omega), _, _, rfl, rfl, ?_⟩
      refine ⟨_, rfl, _, rfl, _, rfl, _, _, rfl, rfl, w_div t3 t4 (by decide), _, _, rfl, rfl, w_mul hdd (div_lt bY.den) (by omega), ?_⟩
      refine ⟨e, _, _, _, _, _, rfl, t2, ?_, ?_, ?_⟩
      · rw [t1, hs, RM.take_succ hy, RM.sum_snoc]
      · exact Nat.lt_of_lt_of_le (RM.abs_add_lt (RM.abs_mul_lt hn (div_lt bY.den)) (by rw [Nat.add_comm]; exact RM.abs_mul_lt bY.1 (div_lt hdd))) (RM.pow_le (by omega))
      · exact Nat.lt_of_lt_of_le (RM.abs_mul_lt hdd (div_lt bY.den)) (RM.pow_le (by omega))
    · rintro σ H' ⟨e, n, d, u1, u2, u3, rfl, hd, hs, hn, hdd⟩
      rw [hlen] at hdd
      refine ⟨_, rfl, _, rfl, n, d, rfl, by omega, Nat.lt_of_lt_of_le hdd (RM.pow_le (by omega)), ?_⟩
      rw [hs, hlen, List.take_length]
      exact fun p H2 e2 h0 h2 => q p H2 (e.trans e2) (e.free h0) h2
theorem fnOk_ex {ι : Type} {k : Nat} {f : Addr} {fd : FuncData} {ps : List Str} {sp : ι → Sp} (F : ∀ i, FnOk P w K mg base CX0 k f fd ps (sp i)) : FnOk P w K mg base CX0 k f fd ps (fun vs H Q E => ∃ i, sp i vs H Q E) :=
  ⟨fun vs H Q E h => Exists.elim h fun i h => (F i).len vs H Q E h, fun ar outer s H args us vs Q E hr e0 hb r h => Exists.elim h fun i h => (F i).run ar outer s H args us vs Q E hr e0 hb r h⟩
theorem ok_total (T : Txt K mg A) : FnOk P w K mg base CX0 3 A.f_total A.fd_total ["parts"] (fun vs H Q E => ∃ tl, spTotal K tl vs H Q E) := fnOk_ex (ok_total2 T)
theorem ok_negative (T : Txt K mg A) : FnOk P w K mg base CX0 1 A.f_negative A.fd_negative ["part"] spNeg := by
  refine T.d_negative.F.ok sc_negative (fun vs H Q E h => ?_) (fun cdv ar outer s H vs Q E hr h => ?_)
  · obtain ⟨v, x, rfl, _⟩ := h
    rfl
  obtain ⟨_, x, rfl, ⟨p, rfl, hp⟩, q⟩ := h
  refine ⟨_, (pss_cons (ps_asg (pv 0) (pg_tup rfl (pgs_cons (pg_name (i := 1) sc_negative.nd rfl (Or.inl rfl)) (pgs_cons (pg_name (i := 2) sc_negative.nd rfl (Or.inl rfl)) pgs_nil))))
    (pss_one (ps_ret (pe_tup (pa_cons (pe_un un_neg (pv 1)) (pa_cons (pv 2) pa_nil)))))), ?_⟩
  refine ⟨_, rfl, p, _, rfl, SqT.of hp, rfl, _, _, rfl, _, _, rfl, rfl, ?_⟩
  refine ⟨_, rfl, _, rfl, _, rfl, slr rfl, fun t ht => ?_⟩
  show Q (.ref t) (upd H t (.tup [.int (-x.num), .int ((x.den : Nat) : Int)]))
  rw [fr_of (x := -x) (by rw [Rat.neg_num]) (by rw [Rat.neg_den])]
  exact q.lay (Same.refl H) ht
/-- -1, 0, 1 -/
def signR (x y : Rat) : Int := if x = y then 0 else if x < y then -1 else 1
theorem sign_swap (x y : Rat) : signR y x = 0 - signR x y := by
  unfold signR
  by_cases h : x = y
  · subst h
    rw [if_pos rfl]
    rfl
  · rw [if_neg h, if_neg (Ne.symm h)]
    by_cases h1 : x < y
    · rw [if_pos h1, if_neg (by grind)]
      rfl
    · rw [if_neg h1, if_pos (by grind)]
      rfl
theorem sign_add (x y z : Rat) : signR (x + z) (y + z) = signR x y := by
  unfold signR
  have h1 : (x + z = y + z) ↔ x = y := ⟨fun h => by grind, fun h => by rw [h]⟩
  have h2 : (x + z < y + z) ↔ x < y := Rat.add_lt_add_right
  simp only [h1, h2]
theorem sign_less (x y : Rat) : (if decide (y < x) = true then (1 : Int) else 0) - (if decide (x < y) = true then (1 : Int) else 0) = signR x y := by
  unfold signR
  by_cases h : x = y
  · subst h
    have h1 : ¬ x < x := by grind
    simp [h1]
  · rw [if_neg h]
    by_cases h1 : x < y
    · have h2 : ¬ y < x := by grind
      simp [h1, h2]
    · have h2 : y < x := by grind
      simp [h1, h2]
theorem sign_self (x : Rat) : signR x x = 0 := by
  unfold signR
  rw [if_pos rfl]
def spOrder : Sp := fun vs H Q _ => ∃ (v u : V) (x y : Rat) (j k : Nat), vs = [v, u] ∧ IsR H v x ∧ IsR H u y ∧ RM.Bd j x ∧ RM.Bd k y ∧ j + k + 1 ≤ 8000 ∧ Q (.int (signR x y)) H
theorem cross_eq (x y : Rat) : x.num * ((y.den : Nat) : Int) = y.num * ((x.den : Nat) : Int) ↔ x = y := by
  constructor
  · intro h
    rw [← Rat.num_divInt_den x, ← Rat.num_divInt_den y, ← Rat.divInt_mul_right (a := ((y.den : Nat) : Int)) (Int.ne_of_gt (RM.den_p y)), h, Int.mul_comm ((x.den : Nat) : Int), Rat.divInt_mul_right (Int.ne_of_gt (RM.den_p x))]
  · rintro rfl
    rfl
theorem ok_order (T : Txt K mg A) : FnOk P w K mg base CX0 1 A.f_order A.fd_order ["one", "other"] spOrder := by
  refine T.d_order.F.ok sc_order (fun vs H Q E h => ?_) (fun cdv ar outer s H vs Q E hr h => ?_)
  · obtain ⟨v, u, x, y, j, k, rfl, _⟩ := h
    rfl
  obtain ⟨_, _, x, y, j, k, rfl, ⟨p, rfl, hp⟩, ⟨r, rfl, hq⟩, bx, bY, hz, q⟩ := h
  refine ⟨_, (pss_cons (ps_set (i := 2) sc_order.nd rfl (Or.inl rfl) (pe_op op_mulW (pe_ix (r := rIxT K) ix_tup (pv 0) pe_int (fun _ _ => rfl)) (pe_ix (r := rIxT K) ix_tup (pv 1) pe_int (fun _ _ => rfl))))
    (pss_cons (ps_set (i := 3) sc_order.nd rfl (Or.inl rfl) (pe_op op_mulW (pe_ix (r := rIxT K) ix_tup (pv 1) pe_int (fun _ _ => rfl)) (pe_ix (r := rIxT K) ix_tup (pv 0) pe_int (fun _ _ => rfl))))
    (pss_cons (ps_if (pt_cmpR op_eq (pv 2) (pv 3) (nomark _)) (pss_one (ps_ret pe_int)) pss_nil)
    (pss_one (ps_ret (pe_ifExp (pt_cmpR op_lt (pv 2) (pv 3) (nomark _)) (pe_un un_neg pe_int) pe_int)))))), ?_⟩
  refine ⟨_, rfl, p, _, _, _, rfl, rfl, SqT.of hp, ix0, _, rfl, r, _, _, _, rfl, rfl, SqT.of hq, ix1, _, _, rfl, rfl, w_mul bx.1 bY.den (by omega), ?_⟩
  refine ⟨_, rfl, r, _, _, _, rfl, rfl, SqT.of hq, ix0, _, rfl, p, _, _, _, rfl, rfl, SqT.of hp, ix1, _, _, rfl, rfl, w_mul bY.1 bx.den (by omega), ?_⟩
  refine ⟨_, rfl, _, rfl, rfl, _, rfl, ?_⟩
  unfold signR at q
  refine ite2 (fun c => ?_) (fun c => ?_)
  · have c' : x = y := (cross_eq x y).mp (by have z := of_decide_eq_true c; injection z)
    rw [if_pos c'] at q
    exact q
  · have c' : ¬ x = y := fun z => of_decide_eq_false (Bool.eq_false_iff.mpr c) (congrArg V.int ((cross_eq x y).mpr z))
    rw [if_neg c'] at q
    refine ⟨_, rfl, _, rfl, _, _, rfl, rfl, _, rfl, ?_⟩
    refine ite2 (fun c => ?_) (fun c => ?_)
    · have c2 : x < y := (Rat.lt_iff x y).mpr (of_decide_eq_true c)
      rw [if_pos c2] at q
      exact ⟨_, rfl, q⟩
    · have c2 : ¬ x < y := fun z => of_decide_eq_false (Bool.eq_false_iff.mpr c) ((Rat.lt_iff x y).mp z)
      rw [if_neg c2] at q
      exact q
/-- the parts are given one by one -/
def spPlus : Sp := fun vs H Q _ => ∃ (qs : List Rat) (k : Nat), RL H vs qs ∧ AllBd k qs ∧ 1 + (k + 1) * qs.length + k + 1 ≤ 8000 ∧ NewT H Q (FR (RM.sumR qs))
def spTimes : Sp := fun vs H Q _ => ∃ (qs : List Rat) (k : Nat), RL H vs qs ∧ AllBd k qs ∧ 1 + (k + 1) * qs.length + k + 1 ≤ 8000 ∧ NewT H Q (FR (RM.mulR qs))
theorem fnR_star {x pv : Str} {st : Stmt} {f : Addr} {fd : FuncData} {N : List Str} {k : Nat} {sp : Sp} (D : DfS K mg x st pv f fd) (S : FnScope N [pv] (defScope st))
    (hbody : ∀ (cdv : Value) (ar : Around) (outer : List Env) (s : Shared) (H : Hp) (vs : List V) (Q : VK) (E : XK), Room k (ar.deeper (PyProof.Rows.envOfC x (defScope st) s.heap.objs.size f cdv)) → sp vs H Q E →
      ∃ t, PSs (cxOf CX0 P w K mg base N x (defScope st) f cdv ar outer s H E).nox (defBody st) t ∧ t { nx := fun _ H' => Q .non H', rt := Q } (L2.start N vs) H) :
    FnR P w K mg base CX0 (k + 1) f (fun vs H Q E => vs.length ≤ sizeLine ∧ ∀ p, H p = none → sp [.ref p] (upd H p (.tup vs)) Q E) := by
  obtain ⟨oc, od, kV, doc, pm, an, cdv, ct, osl, e, lk, hcd⟩ := D.F.ex
  have hb := D.hb
  rw [e] at lk hb
  refine FnR.imp (StX.fn_star (ps := []) (pv := pv) (sp := sp) lk hcd S StX.cxUp_none (fun us rest hl => ?_) fun ar outer s H vs Q E hr hsp => ?_) fun vs H Q E h => ⟨[], vs, rfl, rfl, h.1, h.2⟩
  · have : us = [] := List.eq_nil_of_length_eq_zero hl
    subst this
    exact hb rest
  · obtain ⟨t, h, q⟩ := hbody cdv ar outer s H vs Q E hr hsp
    exact ⟨t, h.nox, q⟩
theorem lin {n k : Nat} (h : 1 + (k + 1) * n + k + 1 ≤ 8000) : n ≤ 100000 := by
  have : n ≤ (k + 1) * n := by
    rw [Nat.succ_mul]
    omega
  omega
theorem ok_plus (T : Txt K mg A) : FnR P w K mg base CX0 4 A.f_plus spPlus := by
  refine FnR.imp (fnR_star (sp := spTotal K false) T.d_plus sc_plus fun cdv ar outer s H vs Q E hr h => ?_) fun vs H Q E h => ?_
  · obtain ⟨l, us, qs, k, rfl, hl, hR, hB, hz, q⟩ := h
    refine ⟨_, (pss_one (ps_ret (pe_call (ok_total T) (hr.mono (by decide)) rfl T.d_total.m T.d_total.F.kp T.d_total.b .nil pass0 (pa_cons (pv 0) pa_nil)))), ?_⟩
    exact ⟨_, rfl, false, l, us, qs, k, rfl, hl, hR, hB, hz, q⟩
  · obtain ⟨qs, k, hR, hB, hz, q⟩ := h
    have hlen := paired_len hR
    refine ⟨sl_small (by rw [hlen]; exact lin hz), fun p hp => ⟨p, vs, qs, k, rfl, upd_same, hR.mono (Same.new hp _), hB, hz, fun r H2 e2 h0 h2 => ?_⟩⟩
    exact q r H2 ((Same.new hp _).trans e2) ((Same.new hp _).free h0) h2
theorem ok_times (T : Txt K mg A) : FnR P w K mg base CX0 4 A.f_times spTimes := by
  refine FnR.imp (fnR_star (sp := fun vs H Q _ => ∃ (l : Addr) (us : List V) (qs : List Rat) (k : Nat), vs = [.ref l] ∧ H l = some (.tup us) ∧ RL H us qs ∧ AllBd k qs ∧ 1 + (k + 1) * qs.length + k + 1 ≤ 8000 ∧ NewT H Q (FR (RM.mulR qs))) T.d_times sc_times fun cdv ar outer s H vs Q E hr h => ?_) fun vs H Q E h => ?_
  · obtain ⟨l, us, qs, k, rfl, hl, hR, hB, hz, q⟩ := h
    have hlen := paired_len hR
    refine ⟨_, (pss_cons (ps_asg2 pe_int (pg_name (i := 1) sc_times.nd rfl (Or.inl rfl)) (pg_name (i := 2) sc_times.nd rfl (Or.inl rfl)))
    (pss_cons (ps_for PassesOwn.never rfl (pi_tup (pv 0)) (pg_tup rfl (pgs_cons (pg_name (i := 3) sc_times.nd rfl (Or.inl rfl)) (pgs_cons (pg_name (i := 4) sc_times.nd rfl (Or.inl rfl)) pgs_nil))) (pss_cons (ps_aug (i := 1) sc_times.nd rfl (.inl rfl) (pv 3) iop_mulW)
    (pss_one (ps_aug (i := 2) sc_times.nd rfl (.inl rfl) (pv 4) iop_mulW))))
    (pss_one (ps_ret (pe_call (ok_reduced T) (hr.mono (by decide)) rfl T.d_reduced.m T.d_reduced.F.kp T.d_reduced.b .nil pass0 (pa_cons (pv 1) (pa_cons (pv 2) pa_nil))))))), ?_⟩
    refine ⟨_, rfl, l, rfl, ⟨_, SqT.of hl⟩, ?_⟩
    refine for_tup (xs := us) (fun i σ H' => Same H H' ∧ ∃ (n d : Int) (u1 u2 : Option V), σ = [some (.ref l), some (.int n), some (.int d), u1, u2] ∧ 0 < d ∧ Rat.divInt n d = RM.mulR (qs.take i) ∧ n.natAbs < 2 ^ (1 + k * i) ∧ d.natAbs < 2 ^ (1 + k * i))
      ⟨Same.refl H, 1, 1, none, none, rfl, by decide, rfl, by rw [Nat.mul_zero]; decide, by rw [Nat.mul_zero]; decide⟩ (fun i σ H' _ h => SqT.of (h.1 _ _ hl)) ?_ ?_
    · rintro i x σ H' hi ⟨e, n, d, u1, u2, rfl, hd, hs, hn, hdd⟩
      obtain ⟨y, hy, hv⟩ := paired_at1 hR hi
      obtain ⟨f, rfl, hf⟩ := hv.mono e
      have hi' : i < qs.length := (List.getElem?_eq_some_iff.mp hy).1
      have hm : k * i ≤ k * qs.length := Nat.mul_le_mul_left _ (by omega)
      have hm2 : (k + 1) * qs.length = k * qs.length + qs.length := by rw [Nat.add_mul, Nat.one_mul]
      have hx : k * (i + 1) = k * i + k := by rw [Nat.mul_add, Nat.mul_one]
      have bY := hB.get hy
      refine ⟨f, _, rfl, SqT.of hf, rfl, _, _, rfl, _, _, rfl, rfl, ?_⟩
      refine ⟨_, rfl, _, rfl, _, _, rfl, rfl, w_mul hn bY.1 (by omega), ?_⟩
      refine ⟨_, rfl, _, rfl, _, _, rfl, rfl, w_mul hdd bY.den (by omega), ?_⟩
      refine ⟨e, _, _, _, _, rfl, Int.mul_pos hd (RM.den_p y), ?_, ?_, ?_⟩
      · rw [RM.take_succ hy, RM.mul_snoc, ← hs, ← Rat.divInt_mul_divInt, Rat.num_divInt_den]
      · exact Nat.lt_of_lt_of_le (RM.abs_mul_lt hn bY.1) (RM.pow_le (by omega))
      · exact Nat.lt_of_lt_of_le (RM.abs_mul_lt hdd bY.den) (RM.pow_le (by omega))
    · rintro σ H' ⟨e, n, d, u1, u2, rfl, hd, hs, hn, hdd⟩
      rw [hlen] at hdd
      have hm2 : (k + 1) * qs.length = k * qs.length + qs.length := by rw [Nat.add_mul, Nat.one_mul]
      refine ⟨_, rfl, _, rfl, n, d, rfl, by omega, Nat.lt_of_lt_of_le hdd (RM.pow_le (by omega)), ?_⟩
      rw [hs, hlen, List.take_length]
      exact fun p H2 e2 h0 h2 => q p H2 (e.trans e2) (e.free h0) h2
  · obtain ⟨qs, k, hR, hB, hz, q⟩ := h
    have hlen := paired_len hR
    refine ⟨sl_small (by rw [hlen]; exact lin hz), fun p hp => ⟨p, vs, qs, k, rfl, upd_same, hR.mono (Same.new hp _), hB, hz, fun r H2 e2 h0 h2 => ?_⟩⟩
    exact q r H2 ((Same.new hp _).trans e2) ((Same.new hp _).free h0) h2
end

-- CUT
/-! ## Draws of fractions -/
/-- tuples stay -/
def KeepT (H H' : Hp) : Prop := ∀ p xs, H p = some (.tup xs) → H' p = some (.tup xs)
theorem _root_.L2.Same.kt {H H' : Hp} (e : Same H H') : KeepT H H' := fun p xs h => e p _ h
theorem Apart.kt {b : Addr} {H H' : Hp} (e : Apart b H H') {l : Addr} (B : Bag H b l) : KeepT H H' := fun p xs h => e p _ (B.nt h) h
theorem KeepT.trans {H H1 H2 : Hp} (x : KeepT H H1) (y : KeepT H1 H2) : KeepT H H2 := fun p xs h => y p xs (x p xs h)
theorem KeepT.refl (H : Hp) : KeepT H H := fun _ _ h => h
theorem kt_list {H : Hp} {D : Addr} {xs : List V} {o : HO} (h : H D = some (.lst xs)) : KeepT H (upd H D o) := fun p ys e => by
  rw [upd_ne (ne_of e h (fun z => nomatch z))]
  exact e
theorem IsR.keep {H H' : Hp} {v : V} {x : Rat} (h : IsR H v x) (e : KeepT H H') : IsR H' v x := by
  obtain ⟨p, h1, h2⟩ := h
  exact ⟨p, h1, e _ _ h2⟩
theorem RL.keep {H H' : Hp} {vs : List V} {qs : List Rat} (h : RL H vs qs) (e : KeepT H H') : RL H' vs qs := paired_imp (fun _ _ z => z.keep e) h
theorem paired_snoc {α β : Type} {R : α → β → Prop} {x : α} {y : β} (r : R x y) : ∀ {xs : List α} {ys : List β}, Paired R xs ys → Paired R (xs ++ [x]) (ys ++ [y])
  | _, _, .nil => .cons r .nil
  | _, _, .cons h t => .cons h (paired_snoc r t)
theorem AllBd.snoc {k : Nat} {qs : List Rat} {x : Rat} (h : AllBd k qs) (b : RM.Bd k x) : AllBd k (qs ++ [x]) := fun y hy => by
  rcases List.mem_append.mp hy with z | z
  · exact h y z
  · rw [List.mem_singleton.mp z]
    exact b
theorem AllBd.nil {k : Nat} : AllBd k [] := fun _ h => absurd h (by simp)
theorem AllBd.cons {k : Nat} {qs : List Rat} {x : Rat} (b : RM.Bd k x) (h : AllBd k qs) : AllBd k (x :: qs) := fun y hy => by
  rcases List.mem_cons.mp hy with z | z
  · rw [z]
    exact b
  · exact h y z
theorem eqI {K : PySem.W.Frag} {H : Hp} {n : Nat} (i : Int) : EqD K H n (.int i) (.int i) := EqD.flat (x := .int i) True.intro
theorem eqI2 {K : PySem.W.Frag} {H : Hp} {n : Nat} {i j : Int} (h : i = j) : EqD K H n (.int i) (.int j) := by rw [h]; exact eqI j
theorem eqR {K : PySem.W.Frag} {H : Hp} {v u : V} {x : Rat} {n : Nat} (h : IsR H v x) (g : IsR H u x) : EqD K H (n + 1) v u := by
  obtain ⟨p, rfl, hp⟩ := h
  obtain ⟨r, rfl, hr⟩ := g
  exact .inr (.inr ⟨p, r, _, _, rfl, rfl, hp, hr, .cons (eqI _) (.cons (eqI _) .nil), by show 2 ≤ 100000; decide⟩)
theorem eqL {K : PySem.W.Frag} {H : Hp} {a b : Addr} {xs ys : List V} {n : Nat} (h : H a = some (.lst xs)) (g : H b = some (.lst ys)) (hp : Paired (EqD K H n) xs ys) (hl : xs.length ≤ 100000) : EqD K H (n + 1) (.ref a) (.ref b) :=
  .inr (.inl ⟨a, b, xs, ys, rfl, rfl, h, g, hp, hl⟩)
theorem eqRL {K : PySem.W.Frag} {H : Hp} {n : Nat} : ∀ {vs us : List V} {qs : List Rat}, RL H vs qs → RL H us qs → Paired (EqD K H (n + 1)) vs us
  | _, _, _, .nil, .nil => .nil
  | _, _, _, .cons a r, .cons b t => .cons (eqR a b) (eqRL r t)
/-! ### == of lists of fractions -/
def frD (x : Rat) : PyData := .tuple [.int x.num, .int ((x.den : Nat) : Int)]
theorem dp_fr {K : PySem.W.Frag} {H : Hp} {v : V} {x : Rat} (h : IsR H v x) : Dp K H v (frD x) := by
  obtain ⟨p, rfl, hp⟩ := h
  exact .tup (SqT.of hp) (.cons (.int _) (.cons (.int _) .nil))
theorem dp_rl {K : PySem.W.Frag} {H : Hp} : ∀ {vs : List V} {qs : List Rat}, RL H vs qs → DpAll K H vs (qs.map frD)
  | _, _, .nil => .nil
  | _, _, .cons r t => .cons (dp_fr r) (dp_rl t)
theorem can_fr : ∀ qs : List Rat, PyData.canLayAll0 (qs.map frD) = true
  | [] => rfl
  | x :: r => by
    show (PyData.canLay0 (frD x) && PyData.canLayAll0 (r.map frD)) = true
    rw [can_fr r]
    rfl
theorem dep_fr : ∀ qs : List Rat, PyData.depthAll (qs.map frD) ≤ 1
  | [] => Nat.zero_le _
  | x :: r => by
    show max (PyData.depth (frD x)) (PyData.depthAll (r.map frD)) ≤ 1
    exact Nat.max_le.mpr ⟨Nat.le_refl 1, dep_fr r⟩
theorem shp_fr (qs : List Rat) : SeqAt.shaped (.list (qs.map frD)) = true := by
  unfold SeqAt.shaped
  have h1 : PyData.canLay0 (.list (qs.map frD)) = true := can_fr qs
  have h2 : PyData.depth (.list (qs.map frD)) ≤ 64 := by
    show PyData.depthAll (qs.map frD) + 1 ≤ 64
    have := dep_fr qs
    omega
  rw [h1, decide_eq_true h2]
  rfl
theorem eqv_fr (qs : List Rat) : PyData.eqv (.list (qs.map frD)) (.list (qs.map frD)) = true := SeqAt.eqv_refl _ (can_fr qs)
theorem sz {n : Nat} (h : Nat.ble n 8000 = true) : n ≤ 8000 := Nat.le_of_ble_eq_true h
theorem sum2 (x y : Rat) : RM.sumR [x, y] = x + y := by
  show (0 : Rat) + x + y = x + y
  rw [Rat.zero_add]
theorem sum1 (x : Rat) : RM.sumR [x] = x := by
  show (0 : Rat) + x = x
  rw [Rat.zero_add]
theorem mul2 (x y : Rat) : RM.mulR [x, y] = x * y := by
  show (1 : Rat) * x * y = x * y
  rw [Rat.one_mul]
theorem mul1 (x : Rat) : RM.mulR [x] = x := by
  show (1 : Rat) * x = x
  rw [Rat.one_mul]
theorem mul3 (x y z : Rat) : RM.mulR [x, y, z] = x * y * z := by
  show (1 : Rat) * x * y * z = x * y * z
  rw [Rat.one_mul]

def spRatio : Sp := fun vs H Q _ => ∃ (b l : Addr) (m : Int) (k : Nat), vs = [.ref b, .int m] ∧ Bag H b l ∧ 1 ≤ m ∧ m < 2 ^ 60 ∧ (m + 12).natAbs < 2 ^ k ∧ ∀ (p : Addr) (H' : Hp) (x : Rat), Apart b H H' → Bag H' b l → H p = none → H' p = some (.tup (FR x)) → RM.Bd k x → Q (.ref p) H'
section
variable {P : Program} {w : World} {K : PySem.W.Frag} {mg : Str → Option Value} {base : Heap} {A : Ad}
theorem ok_ratio (T : Txt K mg A) : FnOk P w K mg base CX0 3 A.f_ratio A.fd_ratio ["_law_bag_here", "_law_most"] spRatio := by
  refine T.d_ratio.F.ok sc_ratio (fun vs H Q E h => ?_) (fun cdv ar outer s H vs Q E hr h => ?_)
  · obtain ⟨b, l0, m, k, rfl, _⟩ := h
    rfl
  obtain ⟨b, l0, m, k, rfl, B, m1, m2, m3, q⟩ := h
  refine ⟨_, (pss_cons (ps_set (i := 2) sc_ratio.nd rfl (Or.inl rfl) (pe_call (ok_of T) (hr.mono (by decide)) rfl T.d_of.m T.d_of.F.kp T.d_of.b .nil pass0 (pa_cons (pv 0) (pa_cons (pe_lst (pa_cons pe_int (pa_cons pe_int (pa_cons (pv 1) pa_nil)))) pa_nil))))
    (pss_one (ps_ret (pe_call (ok_low T) (hr.mono (by decide)) rfl T.d_low.m T.d_low.F.kp T.d_low.b .nil pass0 (pa_cons (pe_op op_sub (pe_call (ok_pull T) (hr.mono (by decide)) rfl T.d_pull.m T.d_pull.F.kp T.d_pull.b .nil pass0 (pa_cons (pv 0) (pa_cons (pe_op op_add (pe_op op_mul pe_int (pv 2)) pe_int) pa_nil))) (pv 2)) (pa_cons (pe_op op_add pe_int (pe_call (ok_pull T) (hr.mono (by decide)) rfl T.d_pull.m T.d_pull.F.kp T.d_pull.b .nil pass0 (pa_cons (pv 0) (pa_cons (pv 2) pa_nil)))) pa_nil)))))), ?_⟩
  refine ⟨_, rfl, _, rfl, slr rfl, fun l hl => ?_⟩
  have B1 := B.new hl (.lst [V.int 3, V.int 10, V.int m])
  refine ⟨b, l0, l, _, rfl, B1, SqL.of upd_same, B.ne hl, by show 0 < 3; decide, by show 3 ≤ 1000; decide, fun i v H1 hi ap1 B2 => ?_⟩
  obtain ⟨t, rfl, t1, t2⟩ : ∃ t : Int, v = .int t ∧ 1 ≤ t ∧ t ≤ m + 10 := by
    match i, hi with
    | 0, hi => cases hi; exact ⟨3, rfl, by omega, by omega⟩
    | 1, hi => cases hi; exact ⟨10, rfl, by omega, by omega⟩
    | 2, hi => cases hi; exact ⟨m, rfl, by omega, by omega⟩
  have pw : (2 : Nat) ^ 62 ≤ 2 ^ 200 := RM.pow_le (by decide)
  have pw8 : (2 : Nat) ^ 62 ≤ 2 ^ 8000 := RM.pow_le (by decide)
  refine ⟨_, rfl, _, rfl, _, _, rfl, rfl, .inl ⟨by decide, by decide⟩, _, _, rfl, rfl, b, l0, _, rfl, B2, by show 0 < 2 * t + 1; omega, ?_, fun r H2 r0 r1 ap2 B3 => ?_⟩
  · refine Nat.lt_of_lt_of_le (show (2 * t + 1).natAbs < 2 ^ 62 from ?_) pw
    omega
  have r2 : r < 2 * t + 1 := r1
  refine ⟨_, rfl, _, _, rfl, rfl, _, rfl, _, rfl, b, l0, t, rfl, B3, by omega, Nat.lt_of_lt_of_le (show t.natAbs < 2 ^ 62 by omega) pw, fun d H3 d0 d1 ap3 B4 => ?_⟩
  refine ⟨_, _, rfl, rfl, r - t, 1 + d, rfl, by omega, Nat.lt_of_lt_of_le (show (1 + d).natAbs < 2 ^ 62 by omega) pw8, fun p H4 e hp hp4 => ?_⟩
  have all : Apart b H H4 := ((((Same.new hl _).apart.trans ap1).trans ap2).trans ap3).trans e.apart
  have hpn : H p = none := by
    cases hh : H p with
    | none => rfl
    | some o =>
      by_cases hpb : p = b
      · subst hpb
        obtain ⟨_, z⟩ := B4.there
        rw [z] at hp
        cases hp
      · have z := (((Same.new hl (.lst [V.int 3, V.int 10, V.int m])).apart.trans ap1).trans ap2).trans ap3 p o hpb hh
        rw [z] at hp
        cases hp
  exact q p H4 _ all (B4.same e) hpn hp4 (RM.Bd.div (by omega) (by omega) (by omega))
end


def spLaw (K : PySem.W.Frag) : Sp := fun vs H Q _ => ∃ (a : Addr) (ns : List Int), vs = [.ref a] ∧ SqL K H a (ns.map V.int) ∧ ns.length ≤ 63 ∧ ∀ H', Q (.bl true) H'
/-- the comprehension's list so far -/
def Ratios (k : Nat) (H1 : Hp) (b l D : Addr) (i : Nat) (H' : Hp) : Prop := Bag H' b l ∧ Apart b H1 H' ∧ ∃ (us : List V) (qs : List Rat), H' D = some (.lst us) ∧ us.length = i ∧ RL H' us qs ∧ AllBd k qs
theorem ratios_start {k : Nat} {H1 : Hp} {b l D : Addr} (B : Bag H1 b l) (hD : H1 D = none) : Ratios k H1 b l D 0 (upd H1 D (.lst [])) :=
  ⟨B.new hD _, (Same.new hD _).apart, [], [], upd_same, rfl, .nil, AllBd.nil⟩
theorem ratios_step {k i : Nat} {H1 H' H2 : Hp} {b l D p : Addr} {x : Rat} {us : List V} (B1 : Bag H1 b l) (hD0 : H1 D = none) (h : Ratios k H1 b l D i H') (hus : H' D = some (.lst us)) (ap : Apart b H' H2) (B2 : Bag H2 b l) (hp : H2 p = some (.tup (FR x))) (bx : RM.Bd k x) :
    Ratios k H1 b l D (i + 1) (upd H2 D (.lst (us ++ [.ref p]))) := by
  obtain ⟨B, e, us', qs, hD, hl, hR, hB⟩ := h
  have := hus.symm.trans hD
  cases this
  have hDb : D ≠ b := B1.ne hD0
  have hD2 : H2 D = some (.lst us) := ap _ _ hDb hD
  have kt : KeepT H2 (upd H2 D (.lst (us ++ [.ref p]))) := kt_list hD2
  refine ⟨B2.upd hDb (B1.ne2 hD0), fun c o nc ec => ?_, us ++ [.ref p], qs ++ [x], upd_same, by rw [List.length_append, hl]; rfl, ?_, hB.snoc bx⟩
  · rw [upd_ne (ne_of_none ec hD0)]
    exact ap _ _ nc (e _ _ nc ec)
  · exact paired_snoc ⟨p, rfl, kt _ _ hp⟩ ((hR.keep (ap.kt B)).keep kt)
section
variable {P : Program} {w : World} {K : PySem.W.Frag} {mg : Str → Option Value} {base : Heap} {A : Ad}
theorem ok_law (T : Txt K mg A) : FnOk P w K mg base CX0 12 A.f_law A.fd_law ["_law_script"] (spLaw K) := by
  refine T.d_law.F.ok sc_law (fun vs H Q E h => ?_) (fun cdv ar outer s H vs Q E hr h => ?_)
  · obtain ⟨a, ns, rfl, _⟩ := h
    rfl
  obtain ⟨a, ns, rfl, hS, h63, q⟩ := h
  refine ⟨_, (pss_cons (ps_set (i := 1) sc_law.nd rfl (Or.inr rfl) (pe_call (ok_bag T) (hr.mono (by decide)) rfl T.d_bag.m T.d_bag.F.kp T.d_bag.b .nil pass0 (pa_cons (pv 0) pa_nil)))
    (pss_cons (ps_for PassesOwn.never rfl (pi_range1 rfl T.range (pa_cons pe_int pa_nil)) (pg_name (i := 2) sc_law.nd rfl (Or.inl rfl)) (pss_cons (ps_setLc (i := 3) (own := [("_law_k", 14)]) (g := gName 14) (tt := tYes) rfl sc_law.nd rfl rfl (sw_true rfl rfl rfl (by decide +kernel)) (pi_range1 rfl T.range (pa_cons (pe_call (ok_pull T) (hr.mono (by decide)) rfl T.d_pull.m T.d_pull.F.kp T.d_pull.b .nil pass0 (pa_cons (pv 1) (pa_cons pe_int pa_nil))) pa_nil)) (blkOk_by (own := [("_law_k", 14)]) (N := ["_law_script", "_law_bag_here", "_law_turn", "_law_some", "_law_product", "_law_one", "_law_given", "_law_a", "_law_b", "_law_c", "_law_found", "_law_due", "_law_signs", "_law_sign", "_law_k"]) (sc := defScope s_law) (by decide +kernel)) (fun _ _ _ _ _ => (pg_name (i := 14) sc_law.nd rfl (Or.inl rfl))) (fun _ _ _ _ _ => pts_nil) (fun _ _ _ _ _ => (pe_call (ok_ratio T) (hr.mono (by decide)) rfl T.d_ratio.m T.d_ratio.F.kp T.d_ratio.b .nil pass0 (pa_cons (pv 1) (pa_cons (pe_op op_pow pe_int pe_int) pa_nil)))))
    (pss_cons (ps_set (i := 4) sc_law.nd rfl (Or.inl rfl) (pe_tup (pa_cons pe_int (pa_cons pe_int pa_nil))))
    (pss_cons (ps_for PassesOwn.never rfl (pi_list (pv 3)) (pg_name (i := 5) sc_law.nd rfl (Or.inl rfl)) (pss_one (ps_set (i := 4) sc_law.nd rfl (Or.inl rfl) (pe_call (ok_mul T) (hr.mono (by decide)) rfl T.d_mul.m T.d_mul.F.kp T.d_mul.b .nil pass0 (pa_cons (pv 4) (pa_cons (pv 5) pa_nil))))))
    (pss_cons (ps_set (i := 6) sc_law.nd rfl (Or.inl rfl) (pe_callTy (r := rListK K) call_list_of (by rfl) T.list (by decide +kernel) (pa_cons (pv 3) pa_nil)))
    (pss_cons (ps_if (PW.pt (pw_or (pt_not (pt_val (pe_call (ok_same T) (hr.mono (by decide)) rfl T.d_same.m T.d_same.F.kp T.d_same.b .nil pass0 (pa_cons (pe_lst (pa_cons (pe_call (ok_total T) (hr.mono (by decide)) rfl T.d_total.m T.d_total.F.kp T.d_total.b .nil pass0 (pa_cons (pv 6) pa_nil)) (pa_cons (pe_call (ok_total T) (hr.mono (by decide)) rfl T.d_total.m T.d_total.F.kp T.d_total.b .nil pass0 (pa_cons (pe_callTy (r := rTupK K) call_tuple_of (by rfl) T.tuple (by decide +kernel) (pa_cons (pv 3) pa_nil)) pa_nil)) pa_nil))) (pa_cons (pe_lst (pa_cons (pe_call (ok_sum T) (hr.mono (by decide)) rfl T.d_sum.m T.d_sum.F.kp T.d_sum.b .nil pass0 (pa_cons (pv 3) pa_nil)) (pa_cons (pe_call (ok_sum T) (hr.mono (by decide)) rfl T.d_sum.m T.d_sum.F.kp T.d_sum.b .nil pass0 (pa_cons (pv 3) pa_nil)) pa_nil))) pa_nil))))) (pw_or1 (pt_cmpR (r := rNeD K) (op_neD hr.units) (pv 6) (pv 3) (nomark _))))) (pss_one (ps_ret pe_bl)) pss_nil)
    (pss_cons (ps_asg (pe_lc (own := [("_law_k", 14)]) (g := gName 14) (tt := tYes) rfl sc_law.nd (pi_range1 rfl T.range (pa_cons pe_int pa_nil)) (blkOk_by (own := [("_law_k", 14)]) (N := ["_law_script", "_law_bag_here", "_law_turn", "_law_some", "_law_product", "_law_one", "_law_given", "_law_a", "_law_b", "_law_c", "_law_found", "_law_due", "_law_signs", "_law_sign", "_law_k"]) (sc := defScope s_law) (by decide +kernel)) (fun _ _ _ _ _ => (pg_name (i := 14) sc_law.nd rfl (Or.inl rfl))) (fun _ _ _ _ _ => pts_nil) (fun _ _ _ _ _ => (pe_call (ok_ratio T) (hr.mono (by decide)) rfl T.d_ratio.m T.d_ratio.F.kp T.d_ratio.b .nil pass0 (pa_cons (pv 1) (pa_cons pe_int pa_nil))))) (pg_unl rfl (pgs_cons (pg_name (i := 7) sc_law.nd rfl (Or.inl rfl)) (pgs_cons (pg_name (i := 8) sc_law.nd rfl (Or.inl rfl)) (pgs_cons (pg_name (i := 9) sc_law.nd rfl (Or.inl rfl)) pgs_nil)))))
    (pss_cons (ps_set (i := 10) sc_law.nd rfl (Or.inl rfl) (pe_lst (pa_cons (pe_callN (ok_plus T) (hr.mono (by decide)) rfl T.d_plus.m T.d_plus.F.kp pass0 (pa_cons (pv 7) (pa_cons (pv 8) pa_nil))) (pa_cons (pe_callN (ok_plus T) (hr.mono (by decide)) rfl T.d_plus.m T.d_plus.F.kp pass0 (pa_cons (pv 7) (pa_cons (pv 8) (pa_cons (pv 9) pa_nil)))) (pa_cons (pe_callN (ok_plus T) (hr.mono (by decide)) rfl T.d_plus.m T.d_plus.F.kp pass0 (pa_cons (pv 7) pa_nil)) (pa_cons (pe_callN (ok_times T) (hr.mono (by decide)) rfl T.d_times.m T.d_times.F.kp pass0 (pa_cons (pv 7) (pa_cons (pv 8) pa_nil))) (pa_cons (pe_callN (ok_times T) (hr.mono (by decide)) rfl T.d_times.m T.d_times.F.kp pass0 (pa_cons (pv 7) (pa_cons (pv 8) (pa_cons (pv 9) pa_nil)))) (pa_cons (pe_callN (ok_times T) (hr.mono (by decide)) rfl T.d_times.m T.d_times.F.kp pass0 (pa_cons (pv 9) pa_nil)) (pa_cons (pe_call (ok_negative T) (hr.mono (by decide)) rfl T.d_negative.m T.d_negative.F.kp T.d_negative.b .nil pass0 (pa_cons (pv 7) pa_nil)) pa_nil)))))))))
    (pss_cons (ps_set (i := 11) sc_law.nd rfl (Or.inl rfl) (pe_lst (pa_cons (pe_call (ok_add T) (hr.mono (by decide)) rfl T.d_add.m T.d_add.F.kp T.d_add.b .nil pass0 (pa_cons (pv 7) (pa_cons (pv 8) pa_nil))) (pa_cons (pe_call (ok_sum T) (hr.mono (by decide)) rfl T.d_sum.m T.d_sum.F.kp T.d_sum.b .nil pass0 (pa_cons (pe_lst (pa_cons (pv 7) (pa_cons (pv 8) (pa_cons (pv 9) pa_nil)))) pa_nil)) (pa_cons (pv 7) (pa_cons (pe_call (ok_mul T) (hr.mono (by decide)) rfl T.d_mul.m T.d_mul.F.kp T.d_mul.b .nil pass0 (pa_cons (pv 7) (pa_cons (pv 8) pa_nil))) (pa_cons (pe_call (ok_mul T) (hr.mono (by decide)) rfl T.d_mul.m T.d_mul.F.kp T.d_mul.b .nil pass0 (pa_cons (pe_call (ok_mul T) (hr.mono (by decide)) rfl T.d_mul.m T.d_mul.F.kp T.d_mul.b .nil pass0 (pa_cons (pv 7) (pa_cons (pv 8) pa_nil))) (pa_cons (pv 9) pa_nil))) (pa_cons (pv 9) (pa_cons (pe_call (ok_neg T) (hr.mono (by decide)) rfl T.d_neg.m T.d_neg.F.kp T.d_neg.b .nil pass0 (pa_cons (pv 7) pa_nil)) pa_nil)))))))))
    (pss_cons (ps_if (pt_not (pt_val (pe_call (ok_same T) (hr.mono (by decide)) rfl T.d_same.m T.d_same.F.kp T.d_same.b .nil pass0 (pa_cons (pv 10) (pa_cons (pv 11) pa_nil))))) (pss_one (ps_ret pe_bl)) pss_nil)
    (pss_cons (ps_if (PW.pt (pw_and (pt_cmpR (r := rNeD K) (op_neD hr.units) (pv 3) (pe_lst pa_nil) (nomark _)) (pw_and1 (pt_not (pt_val (pe_call (ok_same T) (hr.mono (by decide)) rfl T.d_same.m T.d_same.F.kp T.d_same.b .nil pass0 (pa_cons (pe_callN (ok_times T) (hr.mono (by decide)) rfl T.d_times.m T.d_times.F.kp pass0 (pa_cons (pv 4) (pa_cons (pe_ix (r := rIxL K) ix_list (pv 3) pe_int (fun _ _ => rfl)) pa_nil))) (pa_cons (pe_call (ok_mul T) (hr.mono (by decide)) rfl T.d_mul.m T.d_mul.F.kp T.d_mul.b .nil pass0 (pa_cons (pv 4) (pa_cons (pe_ix (r := rIxL K) ix_list (pv 3) pe_int (fun _ _ => rfl)) pa_nil))) pa_nil)))))))) (pss_one (ps_ret pe_bl)) pss_nil)
    (pss_cons (ps_set (i := 12) sc_law.nd rfl (Or.inl rfl) (pe_lst (pa_cons (pe_call (ok_order T) (hr.mono (by decide)) rfl T.d_order.m T.d_order.F.kp T.d_order.b .nil pass0 (pa_cons (pv 7) (pa_cons (pv 8) pa_nil))) (pa_cons (pe_call (ok_order T) (hr.mono (by decide)) rfl T.d_order.m T.d_order.F.kp T.d_order.b .nil pass0 (pa_cons (pv 8) (pa_cons (pv 7) pa_nil))) (pa_cons (pe_call (ok_order T) (hr.mono (by decide)) rfl T.d_order.m T.d_order.F.kp T.d_order.b .nil pass0 (pa_cons (pv 7) (pa_cons (pv 7) pa_nil))) (pa_cons (pe_call (ok_order T) (hr.mono (by decide)) rfl T.d_order.m T.d_order.F.kp T.d_order.b .nil pass0 (pa_cons (pe_callN (ok_plus T) (hr.mono (by decide)) rfl T.d_plus.m T.d_plus.F.kp pass0 (pa_cons (pv 7) (pa_cons (pv 9) pa_nil))) (pa_cons (pe_callN (ok_plus T) (hr.mono (by decide)) rfl T.d_plus.m T.d_plus.F.kp pass0 (pa_cons (pv 8) (pa_cons (pv 9) pa_nil))) pa_nil))) pa_nil))))))
    (pss_cons (ps_set (i := 13) sc_law.nd rfl (Or.inl rfl) (pe_op op_sub (pe_callTy call_int1 (by rfl) T.int (by decide +kernel) (pa_cons (pe_call (ok_less T) (hr.mono (by decide)) rfl T.d_less.m T.d_less.F.kp T.d_less.b .nil pass0 (pa_cons (pv 8) (pa_cons (pv 7) pa_nil))) pa_nil)) (pe_callTy call_int1 (by rfl) T.int (by decide +kernel) (pa_cons (pe_call (ok_less T) (hr.mono (by decide)) rfl T.d_less.m T.d_less.F.kp T.d_less.b .nil pass0 (pa_cons (pv 7) (pa_cons (pv 8) pa_nil))) pa_nil))))
    (pss_one (ps_if (pt_not (pt_val (pe_call (ok_same T) (hr.mono (by decide)) rfl T.d_same.m T.d_same.F.kp T.d_same.b .nil pass0 (pa_cons (pv 12) (pa_cons (pe_lst (pa_cons (pv 13) (pa_cons (pe_op op_sub pe_int (pv 13)) (pa_cons pe_int (pa_cons (pv 13) pa_nil))))) pa_nil))))) (pss_one (ps_ret pe_bl)) pss_nil)))))))))))))))
    (pss_one (ps_ret (pe_call (ok_same T) (hr.mono (by decide)) rfl T.d_same.m T.d_same.F.kp T.d_same.b .nil pass0 (pa_cons (pe_lst (pa_cons (pe_callN0 (ok_plus T) (hr.mono (by decide)) rfl T.d_plus.m T.d_plus.F.kp pass0) (pa_cons (pe_callN0 (ok_times T) (hr.mono (by decide)) rfl T.d_times.m T.d_times.F.kp pass0) (pa_cons (pe_call (ok_total T) (hr.mono (by decide)) rfl T.d_total.m T.d_total.F.kp T.d_total.b .nil pass0 (pa_cons (pe_lst pa_nil) pa_nil)) pa_nil)))) (pa_cons (pe_lst (pa_cons (pe_tup (pa_cons pe_int (pa_cons pe_int pa_nil))) (pa_cons (pe_tup (pa_cons pe_int (pa_cons pe_int pa_nil))) (pa_cons (pe_tup (pa_cons pe_int (pa_cons pe_int pa_nil))) pa_nil)))) pa_nil))))))), ?_⟩
  refine ⟨_, rfl, a, ns, rfl, hS, h63, fun b l H1 e1 hb hl B => ?_⟩
  refine ⟨6, rfl, by decide, by decide, ?_⟩
  refine for_range (n := 6) (fun _ σ H' => Bag H' b l ∧ ∃ u0 u2 u3 u4 u5 u6 u7 u8 u9 u10 u11 u12 u13 u14 : Option V, σ = [u0, some (.ref b), u2, u3, u4, u5, u6, u7, u8, u9, u10, u11, u12, u13, u14]) ⟨B, _, _, _, _, _, _, _, _, _, _, _, _, _, _, rfl⟩ ?_ ?_
  · clear B e1 hb hl
    rintro i σ H1 hi ⟨B, u0, u2, u3, u4, u5, u6, u7, u8, u9, u10, u11, u12, u13, u14, rfl⟩
    -- the list of fractions
    refine ⟨_, rfl, b, l, 9, rfl, B, by decide, Nat.lt_of_lt_of_le (by decide : (9 : Int).natAbs < 2 ^ 4) (RM.pow_le (by decide)), fun r H2 r0 r1 ap B => ?_⟩
    refine ⟨r, rfl, by omega, by omega, fun D hD => ?_⟩
    refine lc_range (lo := 0) (n := r.toNat) (Ratios 21 H2 b l D) (ratios_start B hD) ?_ ?_
    · intro j H3 hj h
      obtain ⟨B3, _, us, qs, hus, hlen, _⟩ := id h
      refine ⟨rfl, ⟨_, rfl, _, _, rfl, rfl, ⟨by decide, by decide, by decide⟩, b, l, _, 21, rfl, B3, by decide, by decide, by decide, fun p H4 x ap4 B4 p0 hp bx => ?_⟩⟩
      exact ⟨us, ap4 _ _ (B.ne hD) hus, sl_lt (by omega), ratios_step B hD h hus ap4 B4 hp bx⟩
    have hDb : D ≠ b := B.ne hD
    rintro H3 ⟨B3, ap3, us, qs, hus, hlen, hR, hB⟩
    have hl8 : qs.length ≤ 8 := by
      have := paired_len hR
      omega
    -- the product
    refine ⟨slr rfl, fun t ht => ?_⟩
    have e4 : Same H3 (upd H3 t (.tup [V.int 1, V.int 1])) := Same.new ht _
    refine ⟨_, rfl, D, rfl, ⟨_, SqL.of (e4 _ _ hus)⟩, ?_⟩
    refine for_list (xs := us) (fun j σ H' => Same H3 H' ∧ ∃ (f : Addr) (u2 u5 : Option V), σ = [u0, some (.ref b), u2, some (.ref D), some (.ref f), u5, u6, u7, u8, u9, u10, u11, u12, u13, u14] ∧ IsR H' (.ref f) (RM.mulR (qs.take j)))
      ⟨e4, t, _, _, rfl, t, rfl, upd_same⟩ (fun j σ H' _ h => SqL.of (h.1 _ _ hus)) ?_ ?_
    · rintro j x σ H' hj ⟨e, f, u2, u5, rfl, hf⟩
      obtain ⟨y, hy, hv⟩ := paired_at1 hR hj
      refine ⟨_, rfl, _, rfl, _, _, _, y, 1 + 21 * (qs.take j).length, 21, rfl, hf, hv.mono e, mul_bd (hB.take j), hB.get hy, ?_, fun p H5 e5 p0 hp => ?_⟩
      · have := take_le0 (k := 21) (i := j) (qs := qs)
        omega
      refine ⟨e.trans e5, p, _, _, rfl, p, rfl, ?_⟩
      rw [RM.take_succ hy, RM.mul_snoc]
      exact hp
    rintro σ H5 ⟨e5, f, u2, u5, rfl, hf⟩
    rw [show us.length = qs.length from paired_len hR, List.take_length] at hf
    -- the list again
    have hus5 := e5 _ _ hus
    refine ⟨_, rfl, D, _, rfl, .inl (SqL.of hus5), fun g hg => ?_⟩
    have e6 : Same H5 (upd H5 g (.lst us)) := Same.new hg _
    have hg6 : upd H5 g (.lst us) g = some (.lst us) := upd_same
    generalize upd H5 g (.lst us) = H6 at e6 hg6
    have es : 1 + (21 + 1) * qs.length + 21 + 1 ≤ 8000 := by omega
    have R6 := hR.mono (e5.trans e6)
    refine ⟨_, rfl, true, g, us, qs, 21, rfl, hg6, R6, hB, es, fun r1 H7 e7 _ h1 => ?_⟩
    refine ⟨_, rfl, D, _, rfl, .inl ⟨SqL.of ((e6.trans e7) _ _ hus5), fun tp htp => ?_⟩⟩
    have e8 : Same H7 (upd H7 tp (.tup us)) := Same.new htp _
    refine ⟨false, tp, us, qs, 21, rfl, upd_same, R6.mono (e7.trans e8), hB, es, fun r2 H9 e9 _ h2 => ?_⟩
    refine ⟨slr rfl, fun l1 hl1 => ?_⟩
    have e10 : Same H9 (upd H9 l1 (.lst [.ref r1, .ref r2])) := Same.new hl1 _
    have hl1' : upd H9 l1 (.lst [.ref r1, .ref r2]) l1 = some (.lst [.ref r1, .ref r2]) := upd_same
    generalize upd H9 l1 (.lst [.ref r1, .ref r2]) = H10 at e10 hl1'
    have E10 := e7.trans (e8.trans (e9.trans e10))
    refine ⟨_, rfl, D, us, qs, 21, rfl, (e6.trans E10) _ _ hus5, R6.mono E10, hB, es, fun r3 H11 e11 _ h3 => ?_⟩
    refine ⟨_, rfl, D, us, qs, 21, rfl, ((e6.trans E10).trans e11) _ _ hus5, R6.mono (E10.trans e11), hB, es, fun r4 H12 e12 _ h4 => ?_⟩
    refine ⟨slr rfl, fun l2 hl2 => ?_⟩
    have e13 : Same H12 (upd H12 l2 (.lst [.ref r3, .ref r4])) := Same.new hl2 _
    have E13 := E10.trans (e11.trans (e12.trans e13))
    have L1 : RL _ [.ref r1, .ref r2] [RM.sumR qs, RM.sumR qs] := .cons ⟨r1, rfl, (e8.trans (e9.trans (e10.trans (e11.trans (e12.trans e13))))) _ _ h1⟩ (.cons ⟨r2, rfl, (e10.trans (e11.trans (e12.trans e13))) _ _ h2⟩ .nil)
    have L2 : RL _ [.ref r3, .ref r4] [RM.sumR qs, RM.sumR qs] := .cons ⟨r3, rfl, (e12.trans e13) _ _ h3⟩ (.cons ⟨r4, rfl, e13 _ _ h4⟩ .nil)
    refine ⟨_, _, rfl, eqL ((e11.trans (e12.trans e13)) _ _ hl1') upd_same (eqRL L1 L2) (by show 2 ≤ 100000; decide), fun H14 e14 => ?_⟩
    have E14 := E13.trans e14
    clear L1 L2 E10 E13
    refine ⟨_, rfl, iteF ?_⟩
    have R14 := R6.mono E14
    have hus14 := (e6.trans E14) _ _ hus5
    have B14 := B3.same (e5.trans (e6.trans E14))
    have f14 := hf.mono (e6.trans E14)
    refine ⟨_, rfl, _, rfl, _, _, .lst (SqL.of (E14 _ _ hg6)) (dp_rl R14), .lst (SqL.of hus14) (dp_rl R14), shp_fr qs, shp_fr qs, _, rfl, ?_⟩
    rw [eqv_fr]
    refine iteF ?_
    clear e4 e5 e6 e7 e8 e9 e10 e11 e12 e13 e14 E14 h1 h2 h3 h4 hl1 hl1' hl2 htp hg6 hg R6 hR hus5 hus hf B3
    -- three fractions
    refine ⟨3, rfl, by decide, by decide, fun D2 hD2 => ?_⟩
    refine lc_range (lo := 0) (n := (3 : Int).toNat) (Ratios 7 H14 b l D2) (ratios_start B14 hD2) ?_ ?_
    · intro j H3 hj h
      obtain ⟨B3, _, us, qs, hus, hlen, _⟩ := id h
      have hj3 : j < 3 := hj
      refine ⟨rfl, ⟨_, rfl, b, l, _, 7, rfl, B3, by decide, by decide, by decide, fun p H4 x ap4 B4 p0 hp bx => ?_⟩⟩
      exact ⟨us, ap4 _ _ (B14.ne hD2) hus, sl_lt (by omega), ratios_step B14 hD2 h hus ap4 B4 hp bx⟩
    rintro H15 ⟨B15, ap15, vs3, qs3, hv3, hl3, L15, hB3⟩
    obtain ⟨va, vb, vc, rfl⟩ : ∃ va vb vc, vs3 = [va, vb, vc] := by
      match vs3, hl3 with
      | [va, vb, vc], _ => exact ⟨va, vb, vc, rfl⟩
    obtain ⟨x, y, z, rfl⟩ : ∃ x y z, qs3 = [x, y, z] := by
      have := paired_len L15
      match qs3, this with
      | [x, y, z], _ => exact ⟨x, y, z, rfl⟩
    have bx : RM.Bd 7 x := hB3 x (by simp)
    have bY : RM.Bd 7 y := hB3 y (by simp)
    have bz : RM.Bd 7 z := hB3 z (by simp)
    obtain ⟨_, ia, La⟩ : ∃ _ : True, IsR H15 va x ∧ RL H15 [vb, vc] [y, z] := by cases L15 with | cons a r => exact ⟨trivial, a, r⟩
    obtain ⟨_, ib, ic⟩ : ∃ _ : True, IsR H15 vb y ∧ IsR H15 vc z := by cases La with | cons a r => cases r with | cons c r => exact ⟨trivial, a, c⟩
    have R15 := R14.keep (ap15.kt B14)
    have f15 := f14.keep (ap15.kt B14)
    have hus15 := ap15 _ _ hDb hus14
    refine ⟨D2, _, rfl, SqL.of hv3, rfl, _, _, rfl, _, _, rfl, _, _, rfl, rfl, ?_⟩
    clear L15 La hv3 ap15 R14 f14 hus14 B14 hD2 hB3 hl3
    have ab2 : AllBd 7 [x, y] := AllBd.cons bx (AllBd.cons bY AllBd.nil)
    have ab3 : AllBd 7 [x, y, z] := AllBd.cons bx (AllBd.cons bY (AllBd.cons bz AllBd.nil))
    have ab1 : AllBd 7 [x] := AllBd.cons bx AllBd.nil
    have ac1 : AllBd 7 [z] := AllBd.cons bz AllBd.nil
    -- the seven that are found
    refine ⟨_, rfl, _, rfl, [x, y], 7, .cons ia (.cons ib .nil), ab2, sz rfl, fun r1 H16 e16 _ h1 => ?_⟩
    refine ⟨_, rfl, _, rfl, _, rfl, [x, y, z], 7, .cons (ia.mono e16) (.cons (ib.mono e16) (.cons (ic.mono e16) .nil)), ab3, sz rfl, fun r2 H17 e17 _ h2 => ?_⟩
    have E17 := e16.trans e17
    have L := RL.mono (.cons ⟨r1, rfl, h1⟩ .nil : RL H16 [.ref r1] [_]) e17
    refine ⟨_, rfl, [x], 7, .cons (ia.mono E17) .nil, ab1, sz rfl, fun r3 H18 e18 _ h3 => ?_⟩
    have E18 := E17.trans e18
    refine ⟨_, rfl, _, rfl, [x, y], 7, .cons (ia.mono E18) (.cons (ib.mono E18) .nil), ab2, sz rfl, fun r4 H19 e19 _ h4 => ?_⟩
    have E19 := E18.trans e19
    refine ⟨_, rfl, _, rfl, _, rfl, [x, y, z], 7, .cons (ia.mono E19) (.cons (ib.mono E19) (.cons (ic.mono E19) .nil)), ab3, sz rfl, fun r5 H20 e20 _ h5 => ?_⟩
    have E20 := E19.trans e20
    refine ⟨_, rfl, [z], 7, .cons (ic.mono E20) .nil, ac1, sz rfl, fun r6 H21 e21 _ h6 => ?_⟩
    have E21 := E20.trans e21
    refine ⟨_, rfl, _, x, rfl, ia.mono E21, fun r7 H22 e22 _ h7 => ?_⟩
    refine ⟨slr rfl, fun lf hlf => ?_⟩
    have e23 : Same H22 (upd H22 lf (.lst [.ref r1, .ref r2, .ref r3, .ref r4, .ref r5, .ref r6, .ref r7])) := Same.new hlf _
    have hlf' : upd H22 lf (.lst [.ref r1, .ref r2, .ref r3, .ref r4, .ref r5, .ref r6, .ref r7]) lf = some (.lst [.ref r1, .ref r2, .ref r3, .ref r4, .ref r5, .ref r6, .ref r7]) := upd_same
    generalize upd H22 lf (.lst [.ref r1, .ref r2, .ref r3, .ref r4, .ref r5, .ref r6, .ref r7]) = H23 at e23 hlf'
    have E23 := E21.trans (e22.trans e23)
    have L23 : RL H23 [.ref r1, .ref r2, .ref r3, .ref r4, .ref r5, .ref r6, .ref r7] [RM.sumR [x, y], RM.sumR [x, y, z], RM.sumR [x], RM.mulR [x, y], RM.mulR [x, y, z], RM.mulR [z], -x] :=
      .cons ⟨r1, rfl, (e17.trans (e18.trans (e19.trans (e20.trans (e21.trans (e22.trans e23)))))) _ _ h1⟩ (.cons ⟨r2, rfl, (e18.trans (e19.trans (e20.trans (e21.trans (e22.trans e23))))) _ _ h2⟩
      (.cons ⟨r3, rfl, (e19.trans (e20.trans (e21.trans (e22.trans e23)))) _ _ h3⟩ (.cons ⟨r4, rfl, (e20.trans (e21.trans (e22.trans e23))) _ _ h4⟩ (.cons ⟨r5, rfl, (e21.trans (e22.trans e23)) _ _ h5⟩ (.cons ⟨r6, rfl, (e22.trans e23) _ _ h6⟩ (.cons ⟨r7, rfl, e23 _ _ h7⟩ .nil))))))
    clear e17 e18 e19 e20 e21 e22 e23 E17 E18 E19 E20 E21 h1 h2 h3 h4 h5 h6 h7 hlf e16 L
    have ia23 := ia.mono E23
    have ib23 := ib.mono E23
    have ic23 := ic.mono E23
    have R23 := R15.mono E23
    have f23 := f15.mono E23
    have hus23 := E23 _ _ hus15
    have B23 := B15.same E23
    clear ia ib ic R15 f15 hus15 B15 E23
    -- the seven that are due
    refine ⟨_, rfl, _, rfl, _, _, x, y, 7, 7, rfl, ia23, ib23, bx, bY, by decide, fun s1 H24 e24 _ h1 => ?_⟩
    refine ⟨_, rfl, _, rfl, _, rfl, slr rfl, fun l3 hl3 => ?_⟩
    have e25 : Same H24 (upd H24 l3 (.lst [va, vb, vc])) := Same.new hl3 _
    have E25 := e24.trans e25
    refine ⟨l3, _, [x, y, z], 7, rfl, upd_same, .cons (ia23.mono E25) (.cons (ib23.mono E25) (.cons (ic23.mono E25) .nil)), ab3, sz rfl, fun s2 H26 e26 _ h2 => ?_⟩
    have E26 := E25.trans e26
    refine ⟨_, rfl, ?_⟩
    refine ⟨_, rfl, _, rfl, _, _, x, y, 7, 7, rfl, ia23.mono E26, ib23.mono E26, bx, bY, by decide, fun s4 H27 e27 _ h4 => ?_⟩
    have E27 := E26.trans e27
    refine ⟨_, rfl, _, rfl, _, _, x, y, 7, 7, rfl, ia23.mono E27, ib23.mono E27, bx, bY, by decide, fun s0 H28 e28 _ h0 => ?_⟩
    have E28 := E27.trans e28
    refine ⟨_, rfl, _, _, x * y, z, 14, 7, rfl, ⟨s0, rfl, h0⟩, ic23.mono E28, bx.mul bY, bz, by decide, fun s5 H29 e29 _ h5 => ?_⟩
    have E29 := E28.trans e29
    refine ⟨_, rfl, ?_⟩
    refine ⟨_, rfl, _, x, rfl, ia23.mono E29, fun s7 H30 e30 _ h7 => ?_⟩
    refine ⟨slr rfl, fun ld hld => ?_⟩
    have e31 : Same H30 (upd H30 ld (.lst [.ref s1, .ref s2, va, .ref s4, .ref s5, vc, .ref s7])) := Same.new hld _
    have hld' : upd H30 ld (.lst [.ref s1, .ref s2, va, .ref s4, .ref s5, vc, .ref s7]) ld = some (.lst [.ref s1, .ref s2, va, .ref s4, .ref s5, vc, .ref s7]) := upd_same
    generalize upd H30 ld (.lst [.ref s1, .ref s2, va, .ref s4, .ref s5, vc, .ref s7]) = H31 at e31 hld'
    have E31 := E29.trans (e30.trans e31)
    have L31 : RL H31 [.ref s1, .ref s2, va, .ref s4, .ref s5, vc, .ref s7] [x + y, RM.sumR [x, y, z], x, x * y, x * y * z, z, -x] :=
      .cons ⟨s1, rfl, (e25.trans (e26.trans (e27.trans (e28.trans (e29.trans (e30.trans e31)))))) _ _ h1⟩ (.cons ⟨s2, rfl, (e27.trans (e28.trans (e29.trans (e30.trans e31)))) _ _ h2⟩
      (.cons (ia23.mono E31) (.cons ⟨s4, rfl, (e28.trans (e29.trans (e30.trans e31))) _ _ h4⟩ (.cons ⟨s5, rfl, (e30.trans e31) _ _ h5⟩ (.cons (ic23.mono E31) (.cons ⟨s7, rfl, e31 _ _ h7⟩ .nil))))))
    rw [sum2, sum1, mul2, mul1, mul3] at L23
    refine ⟨_, rfl, _, rfl, _, _, rfl, eqL (E31 _ _ hlf') hld' (eqRL (L23.mono E31) L31) (by show 7 ≤ 100000; decide), fun H32 e32 => ?_⟩
    refine ⟨_, rfl, iteF ?_⟩
    have E32 := E31.trans e32
    clear L31 L23 e24 e25 e26 e27 e28 e29 e30 e31 e32 E25 E26 E27 E28 E29 E31 h0 h1 h2 h4 h5 h7 hld hld' hl3 hlf'
    have ia := ia23.mono E32
    have ib := ib23.mono E32
    have ic := ic23.mono E32
    have R32 := R23.mono E32
    have f32 := f23.mono E32
    have hus32 := E32 _ _ hus23
    have B32 := B23.same E32
    clear ia23 ib23 ic23 R23 f23 hus23 B23 E32
    -- a product with the first one
    dsimp only [tNext]
    refine seq_key (fun σ' H' => Same H32 H' ∧ ∃ u0 u2 u3 u4 u5 u6 u10 u11 u12 u13 u14 : Option V, σ' = [u0, some (.ref b), u2, u3, u4, u5, u6, some va, some vb, some vc, u10, u11, u12, u13, u14]) ?_ (fun k => ?_)
    · rintro _ H33 ⟨e33, u0, u2, u3, u4, u5, u6, u10, u11, u12, u13, u14, rfl⟩
      have B33 := B32.same e33
      have ia := ia.mono e33
      have ib := ib.mono e33
      have ic := ic.mono e33
      have axz : AllBd 7 [x, z] := AllBd.cons bx (AllBd.cons bz AllBd.nil)
      have ayz : AllBd 7 [y, z] := AllBd.cons bY (AllBd.cons bz AllBd.nil)
      -- signs
      refine ⟨_, rfl, _, rfl, _, _, x, y, 7, 7, rfl, ia, ib, bx, bY, by decide, ?_⟩
      refine ⟨_, rfl, _, rfl, _, _, y, x, 7, 7, rfl, ib, ia, bY, bx, by decide, ?_⟩
      refine ⟨_, rfl, _, rfl, _, _, x, x, 7, 7, rfl, ia, ia, bx, bx, by decide, ?_⟩
      refine ⟨_, rfl, _, rfl, [x, z], 7, .cons ia (.cons ic .nil), axz, sz rfl, fun r1 H34 e34 _ h1 => ?_⟩
      refine ⟨_, rfl, _, rfl, [y, z], 7, .cons (ib.mono e34) (.cons (ic.mono e34) .nil), ayz, sz rfl, fun r2 H35 e35 _ h2 => ?_⟩
      refine ⟨_, _, RM.sumR [x, z], RM.sumR [y, z], 15, 15, rfl, ⟨r1, rfl, e35 _ _ h1⟩, ⟨r2, rfl, h2⟩, by rw [sum2]; exact bx.add bz, by rw [sum2]; exact bY.add bz, by decide, ?_⟩
      have E35 := e34.trans e35
      refine ⟨slr rfl, fun lf hlf => ?_⟩
      have e36 := Same.new hlf (.lst [V.int (signR x y), V.int (signR y x), V.int (signR x x), V.int (signR (RM.sumR [x, z]) (RM.sumR [y, z]))])
      have hlf' : upd H35 lf (.lst [V.int (signR x y), V.int (signR y x), V.int (signR x x), V.int (signR (RM.sumR [x, z]) (RM.sumR [y, z]))]) lf = _ := upd_same
      have E36 := E35.trans e36
      have ia := ia.mono E36
      have ib := ib.mono E36
      refine ⟨_, rfl, _, rfl, _, _, y, x, 7, 7, rfl, ib, ia, bY, bx, by decide, .inr ⟨_, rfl, _, rfl, _, rfl, _, _, x, y, 7, 7, rfl, ia, ib, bx, bY, by decide, .inr ⟨_, rfl, _, _, rfl, rfl, ?_⟩⟩⟩
      refine ⟨_, rfl, _, rfl, _, rfl, _, _, rfl, rfl, _, rfl, slr rfl, fun ld hld => ?_⟩
      have e37 := Same.new hld (.lst [V.int ((if decide (y < x) = true then (1 : Int) else 0) - (if decide (x < y) = true then (1 : Int) else 0)), V.int (0 - ((if decide (y < x) = true then (1 : Int) else 0) - (if decide (x < y) = true then (1 : Int) else 0))), V.int 0, V.int ((if decide (y < x) = true then (1 : Int) else 0) - (if decide (x < y) = true then (1 : Int) else 0))])
      refine ⟨_, _, rfl, eqL (e37 _ _ hlf') upd_same (.cons (eqI2 (sign_less x y).symm) (.cons (eqI2 (by rw [sign_less, sign_swap])) (.cons (eqI2 (sign_self x)) (.cons (eqI2 (by rw [sum2, sum2, sign_add, sign_less])) .nil)))) (by show 4 ≤ 100000; decide), fun H38 e38 => ?_⟩
      refine ⟨_, rfl, iteF ?_⟩
      exact ⟨B33.same (E36.trans (e37.trans e38)), _, _, _, _, _, _, _, _, _, _, _, _, _, _, rfl⟩
    · refine ⟨_, rfl, slr rfl, fun l0 hl0 => ?_⟩
      have e33 : Same H32 (upd H32 l0 (.lst [])) := Same.new hl0 _
      refine ⟨_, _, .lst (SqL.of (e33 _ _ hus32)) (dp_rl (R32.mono e33)), .lst (SqL.of upd_same) .nil, shp_fr qs, shp_fr [], _, rfl, ?_⟩
      match us, qs, R32, hus32, hB, hl8, f32 with
      | _, _, .nil, _, _, _, _ => exact iteF (k _ _ ⟨e33, _, _, _, _, _, _, _, _, _, _, _, rfl⟩)
      | v0 :: ur, q0 :: qr, .cons i0 Rr, hus32, hB, hl8, f32 =>
        have b0 : RM.Bd 21 q0 := hB q0 List.mem_cons_self
        have bp : RM.Bd 200 (RM.mulR (q0 :: qr)) := (mul_bd hB).mono (by omega)
        refine iteT ?_
        refine ⟨_, rfl, _, rfl, D, _, _, _, rfl, rfl, SqL.of (e33 _ _ hus32), at_of (j := 0) rfl rfl, ?_⟩
        refine ⟨[RM.mulR (q0 :: qr), q0], 200, .cons (f32.mono e33) (.cons (i0.mono e33) .nil), AllBd.cons bp (AllBd.cons (b0.mono (by decide)) AllBd.nil), sz rfl, fun r1 H34 e34 _ h1 => ?_⟩
        have E34 := e33.trans e34
        refine ⟨_, rfl, _, rfl, D, _, _, _, rfl, rfl, SqL.of (E34 _ _ hus32), at_of (j := 0) rfl rfl, ?_⟩
        refine ⟨_, _, RM.mulR (q0 :: qr), q0, 200, 21, rfl, f32.mono E34, i0.mono E34, bp, b0, by decide, fun r2 H35 e35 _ h2 => ?_⟩
        rw [mul2] at h1
        refine ⟨_, _, rfl, eqR ⟨r1, rfl, e35 _ _ h1⟩ ⟨r2, rfl, h2⟩, fun H36 e36 => ?_⟩
        refine ⟨_, rfl, iteF ?_⟩
        exact k _ _ ⟨E34.trans (e35.trans e36), _, _, _, _, _, _, _, _, _, _, _, rfl⟩
  · rintro σ H1 ⟨B, u0, u2, u3, u4, u5, u6, u7, u8, u9, u10, u11, u12, u13, u14, rfl⟩
    refine ⟨[], 1, .nil, AllBd.nil, sz rfl, fun r1 H2 e2 _ h1 => ?_⟩
    refine ⟨[], 1, .nil, AllBd.nil, sz rfl, fun r2 H3 e3 _ h2 => ?_⟩
    refine ⟨slr rfl, fun l0 hl0 => ?_⟩
    have e4 : Same H3 (upd H3 l0 (.lst [])) := Same.new hl0 _
    refine ⟨true, l0, [], [], 1, rfl, upd_same, .nil, AllBd.nil, sz rfl, fun r3 H5 e5 _ h3 => ?_⟩
    refine ⟨slr rfl, fun l1 hl1 => ?_⟩
    have e6 : Same H5 (upd H5 l1 (.lst [.ref r1, .ref r2, .ref r3])) := Same.new hl1 _
    have hl1' : upd H5 l1 (.lst [.ref r1, .ref r2, .ref r3]) l1 = some (.lst [.ref r1, .ref r2, .ref r3]) := upd_same
    generalize upd H5 l1 (.lst [.ref r1, .ref r2, .ref r3]) = H6 at e6 hl1'
    refine ⟨slr rfl, fun t1 ht1 => ?_⟩
    have e7 : Same H6 (upd H6 t1 (.tup [.int 0, .int 1])) := Same.new ht1 _
    have h4 : upd H6 t1 (.tup [.int 0, .int 1]) t1 = some (.tup (FR 0)) := upd_same
    generalize upd H6 t1 (.tup [.int 0, .int 1]) = H7 at e7 h4
    refine ⟨slr rfl, fun t2 ht2 => ?_⟩
    have e8 : Same H7 (upd H7 t2 (.tup [.int 1, .int 1])) := Same.new ht2 _
    have h5 : upd H7 t2 (.tup [.int 1, .int 1]) t2 = some (.tup (FR 1)) := upd_same
    generalize upd H7 t2 (.tup [.int 1, .int 1]) = H8 at e8 h5
    refine ⟨slr rfl, fun t3 ht3 => ?_⟩
    have e9 : Same H8 (upd H8 t3 (.tup [.int 0, .int 1])) := Same.new ht3 _
    have h6 : upd H8 t3 (.tup [.int 0, .int 1]) t3 = some (.tup (FR 0)) := upd_same
    generalize upd H8 t3 (.tup [.int 0, .int 1]) = H9 at e9 h6
    refine ⟨slr rfl, fun l2 hl2 => ?_⟩
    have e10 : Same H9 (upd H9 l2 (.lst [.ref t1, .ref t2, .ref t3])) := Same.new hl2 _
    have E := e7.trans (e8.trans (e9.trans e10))
    have L1 : RL _ [.ref r1, .ref r2, .ref r3] [0, 1, 0] := .cons ⟨r1, rfl, (e3.trans (e4.trans (e5.trans (e6.trans E)))) _ _ h1⟩ (.cons ⟨r2, rfl, (e4.trans (e5.trans (e6.trans E))) _ _ h2⟩ (.cons ⟨r3, rfl, (e6.trans E) _ _ h3⟩ .nil))
    have L2 : RL _ [.ref t1, .ref t2, .ref t3] [0, 1, 0] := .cons ⟨t1, rfl, (e8.trans (e9.trans e10)) _ _ h4⟩ (.cons ⟨t2, rfl, (e9.trans e10) _ _ h5⟩ (.cons ⟨t3, rfl, e10 _ _ h6⟩ .nil))
    refine ⟨_, _, rfl, eqL (E _ _ hl1') upd_same (eqRL L1 L2) (by show 3 ≤ 100000; decide), fun H11 e11 => ?_⟩
    exact q _
end

theorem all_mk {l : PySem.W.OpenLaw} {w : World} {K : PySem.W.Frag} {h : Heap} {mg : Str → Option Value} {fa f1 f2 f3 f4 f5 f6 f7 f8 f9 f10 f11 f12 f13 f14 f15 f16 f17 f18 f19 f20 : Addr} (X : K.In h) (G : h.Ns mainGlobals mg) (hfa : mg "law" = some (.ref fa))
    {od1 an1 od2 an2 od3 an3 od4 an4 od5 an5 od6 an6 od7 an7 od8 an8 od9 an9 od10 an10 od11 an11 od12 an12 od13 an13 od14 an14 od15 an15 od16 an16 od17 an17 od18 an18 od19 an19 od20 an20 : Option Addr} {sl1 sl2 sl3 sl4 sl5 sl6 sl7 sl8 sl9 sl10 sl11 sl12 sl13 sl14 sl15 sl16 sl17 sl18 sl19 sl20 : Array (Option Value)} {oc1 kV1 dc1 pm1 cd1 ct1 oc2 kV2 dc2 pm2 cd2 ct2 oc3 kV3 dc3 pm3 cd3 ct3 oc4 kV4 dc4 pm4 cd4 ct4 oc5 kV5 dc5 pm5 cd5 ct5 oc6 kV6 dc6 pm6 cd6 ct6 oc7 kV7 dc7 pm7 cd7 ct7 oc8 kV8 dc8 pm8 cd8 ct8 oc9 kV9 dc9 pm9 cd9 ct9 oc10 kV10 dc10 pm10 cd10 ct10 oc11 kV11 dc11 pm11 cd11 ct11 oc12 kV12 dc12 pm12 cd12 ct12 oc13 kV13 dc13 pm13 cd13 ct13 oc14 kV14 dc14 pm14 cd14 ct14 oc15 kV15 dc15 pm15 cd15 ct15 oc16 kV16 dc16 pm16 cd16 ct16 oc17 kV17 dc17 pm17 cd17 ct17 oc18 kV18 dc18 pm18 cd18 ct18 oc19 kV19 dc19 pm19 cd19 ct19 oc20 kV20 dc20 pm20 cd20 ct20 : Value}
    (a1 : PySem.W.nsIn K mainGlobals "common_divisor" = some (some (.ref f1))) (l1 : K.lookup f1 = some ⟨oc1, od1, .func (PySem.W.fnOf "common_divisor" "common_divisor" (defArgs s_common_divisor) (defBody s_common_divisor) (defScope s_common_divisor) .none kV1 dc1 pm1 an1 cd1 ct1), sl1⟩) (c1 : PySem.W.codeIn K cd1 "common_divisor" = true) (k1 : PySem.W.keepIn K (.ref f1) = true)
    (a2 : PySem.W.nsIn K mainGlobals "reduced" = some (some (.ref f2))) (l2 : K.lookup f2 = some ⟨oc2, od2, .func (PySem.W.fnOf "reduced" "reduced" (defArgs s_reduced) (defBody s_reduced) (defScope s_reduced) .none kV2 dc2 pm2 an2 cd2 ct2), sl2⟩) (c2 : PySem.W.codeIn K cd2 "reduced" = true) (k2 : PySem.W.keepIn K (.ref f2) = true)
    (a3 : PySem.W.nsIn K mainGlobals "plus" = some (some (.ref f3))) (l3 : K.lookup f3 = some ⟨oc3, od3, .func (PySem.W.fnOf "plus" "plus" (defArgs s_plus) (defBody s_plus) (defScope s_plus) .none kV3 dc3 pm3 an3 cd3 ct3), sl3⟩) (c3 : PySem.W.codeIn K cd3 "plus" = true) (k3 : PySem.W.keepIn K (.ref f3) = true)
    (a4 : PySem.W.nsIn K mainGlobals "times" = some (some (.ref f4))) (l4 : K.lookup f4 = some ⟨oc4, od4, .func (PySem.W.fnOf "times" "times" (defArgs s_times) (defBody s_times) (defScope s_times) .none kV4 dc4 pm4 an4 cd4 ct4), sl4⟩) (c4 : PySem.W.codeIn K cd4 "times" = true) (k4 : PySem.W.keepIn K (.ref f4) = true)
    (a5 : PySem.W.nsIn K mainGlobals "total" = some (some (.ref f5))) (l5 : K.lookup f5 = some ⟨oc5, od5, .func (PySem.W.fnOf "total" "total" (defArgs s_total) (defBody s_total) (defScope s_total) .none kV5 dc5 pm5 an5 cd5 ct5), sl5⟩) (c5 : PySem.W.codeIn K cd5 "total" = true) (k5 : PySem.W.keepIn K (.ref f5) = true)
    (a6 : PySem.W.nsIn K mainGlobals "negative" = some (some (.ref f6))) (l6 : K.lookup f6 = some ⟨oc6, od6, .func (PySem.W.fnOf "negative" "negative" (defArgs s_negative) (defBody s_negative) (defScope s_negative) .none kV6 dc6 pm6 an6 cd6 ct6), sl6⟩) (c6 : PySem.W.codeIn K cd6 "negative" = true) (k6 : PySem.W.keepIn K (.ref f6) = true)
    (a7 : PySem.W.nsIn K mainGlobals "order" = some (some (.ref f7))) (l7 : K.lookup f7 = some ⟨oc7, od7, .func (PySem.W.fnOf "order" "order" (defArgs s_order) (defBody s_order) (defScope s_order) .none kV7 dc7 pm7 an7 cd7 ct7), sl7⟩) (c7 : PySem.W.codeIn K cd7 "order" = true) (k7 : PySem.W.keepIn K (.ref f7) = true)
    (a8 : PySem.W.nsIn K mainGlobals "_law_bag" = some (some (.ref f8))) (l8 : K.lookup f8 = some ⟨oc8, od8, .func (PySem.W.fnOf "_law_bag" "_law_bag" (defArgs s_bag) (defBody s_bag) (defScope s_bag) .none kV8 dc8 pm8 an8 cd8 ct8), sl8⟩) (c8 : PySem.W.codeIn K cd8 "_law_bag" = true) (k8 : PySem.W.keepIn K (.ref f8) = true)
    (a9 : PySem.W.nsIn K mainGlobals "_law_pull" = some (some (.ref f9))) (l9 : K.lookup f9 = some ⟨oc9, od9, .func (PySem.W.fnOf "_law_pull" "_law_pull" (defArgs s_pull) (defBody s_pull) (defScope s_pull) .none kV9 dc9 pm9 an9 cd9 ct9), sl9⟩) (c9 : PySem.W.codeIn K cd9 "_law_pull" = true) (k9 : PySem.W.keepIn K (.ref f9) = true)
    (a10 : PySem.W.nsIn K mainGlobals "_law_of" = some (some (.ref f10))) (l10 : K.lookup f10 = some ⟨oc10, od10, .func (PySem.W.fnOf "_law_of" "_law_of" (defArgs s_of) (defBody s_of) (defScope s_of) .none kV10 dc10 pm10 an10 cd10 ct10), sl10⟩) (c10 : PySem.W.codeIn K cd10 "_law_of" = true) (k10 : PySem.W.keepIn K (.ref f10) = true)
    (a11 : PySem.W.nsIn K mainGlobals "_law_same" = some (some (.ref f11))) (l11 : K.lookup f11 = some ⟨oc11, od11, .func (PySem.W.fnOf "_law_same" "_law_same" (defArgs s_same) (defBody s_same) (defScope s_same) .none kV11 dc11 pm11 an11 cd11 ct11), sl11⟩) (c11 : PySem.W.codeIn K cd11 "_law_same" = true) (k11 : PySem.W.keepIn K (.ref f11) = true)
    (a12 : PySem.W.nsIn K mainGlobals "_law_gcd" = some (some (.ref f12))) (l12 : K.lookup f12 = some ⟨oc12, od12, .func (PySem.W.fnOf "_law_gcd" "_law_gcd" (defArgs s_gcd) (defBody s_gcd) (defScope s_gcd) .none kV12 dc12 pm12 an12 cd12 ct12), sl12⟩) (c12 : PySem.W.codeIn K cd12 "_law_gcd" = true) (k12 : PySem.W.keepIn K (.ref f12) = true)
    (a13 : PySem.W.nsIn K mainGlobals "_law_low" = some (some (.ref f13))) (l13 : K.lookup f13 = some ⟨oc13, od13, .func (PySem.W.fnOf "_law_low" "_law_low" (defArgs s_low) (defBody s_low) (defScope s_low) .none kV13 dc13 pm13 an13 cd13 ct13), sl13⟩) (c13 : PySem.W.codeIn K cd13 "_law_low" = true) (k13 : PySem.W.keepIn K (.ref f13) = true)
    (a14 : PySem.W.nsIn K mainGlobals "_law_add" = some (some (.ref f14))) (l14 : K.lookup f14 = some ⟨oc14, od14, .func (PySem.W.fnOf "_law_add" "_law_add" (defArgs s_add) (defBody s_add) (defScope s_add) .none kV14 dc14 pm14 an14 cd14 ct14), sl14⟩) (c14 : PySem.W.codeIn K cd14 "_law_add" = true) (k14 : PySem.W.keepIn K (.ref f14) = true)
    (a15 : PySem.W.nsIn K mainGlobals "_law_sum" = some (some (.ref f15))) (l15 : K.lookup f15 = some ⟨oc15, od15, .func (PySem.W.fnOf "_law_sum" "_law_sum" (defArgs s_sum) (defBody s_sum) (defScope s_sum) .none kV15 dc15 pm15 an15 cd15 ct15), sl15⟩) (c15 : PySem.W.codeIn K cd15 "_law_sum" = true) (k15 : PySem.W.keepIn K (.ref f15) = true)
    (a16 : PySem.W.nsIn K mainGlobals "_law_mul" = some (some (.ref f16))) (l16 : K.lookup f16 = some ⟨oc16, od16, .func (PySem.W.fnOf "_law_mul" "_law_mul" (defArgs s_mul) (defBody s_mul) (defScope s_mul) .none kV16 dc16 pm16 an16 cd16 ct16), sl16⟩) (c16 : PySem.W.codeIn K cd16 "_law_mul" = true) (k16 : PySem.W.keepIn K (.ref f16) = true)
    (a17 : PySem.W.nsIn K mainGlobals "_law_neg" = some (some (.ref f17))) (l17 : K.lookup f17 = some ⟨oc17, od17, .func (PySem.W.fnOf "_law_neg" "_law_neg" (defArgs s_neg) (defBody s_neg) (defScope s_neg) .none kV17 dc17 pm17 an17 cd17 ct17), sl17⟩) (c17 : PySem.W.codeIn K cd17 "_law_neg" = true) (k17 : PySem.W.keepIn K (.ref f17) = true)
    (a18 : PySem.W.nsIn K mainGlobals "_law_less" = some (some (.ref f18))) (l18 : K.lookup f18 = some ⟨oc18, od18, .func (PySem.W.fnOf "_law_less" "_law_less" (defArgs s_less) (defBody s_less) (defScope s_less) .none kV18 dc18 pm18 an18 cd18 ct18), sl18⟩) (c18 : PySem.W.codeIn K cd18 "_law_less" = true) (k18 : PySem.W.keepIn K (.ref f18) = true)
    (a19 : PySem.W.nsIn K mainGlobals "_law_ratio" = some (some (.ref f19))) (l19 : K.lookup f19 = some ⟨oc19, od19, .func (PySem.W.fnOf "_law_ratio" "_law_ratio" (defArgs s_ratio) (defBody s_ratio) (defScope s_ratio) .none kV19 dc19 pm19 an19 cd19 ct19), sl19⟩) (c19 : PySem.W.codeIn K cd19 "_law_ratio" = true) (k19 : PySem.W.keepIn K (.ref f19) = true)
    (a20 : PySem.W.nsIn K mainGlobals "law" = some (some (.ref f20))) (l20 : K.lookup f20 = some ⟨oc20, od20, .func (PySem.W.fnOf "law" "law" (defArgs s_law) (defBody s_law) (defScope s_law) .none kV20 dc20 pm20 an20 cd20 ct20), sl20⟩) (c20 : PySem.W.codeIn K cd20 "law" = true) (k20 : PySem.W.keepIn K (.ref f20) = true)
    (z_abs : PySem.W.nsIn K mainGlobals "abs" = some none) (z_all : PySem.W.nsIn K mainGlobals "all" = some none) (z_bool : PySem.W.nsIn K mainGlobals "bool" = some none) (z_int : PySem.W.nsIn K mainGlobals "int" = some none) (z_isinstance : PySem.W.nsIn K mainGlobals "isinstance" = some none) (z_len : PySem.W.nsIn K mainGlobals "len" = some none) (z_list : PySem.W.nsIn K mainGlobals "list" = some none) (z_range : PySem.W.nsIn K mainGlobals "range" = some none) (z_str : PySem.W.nsIn K mainGlobals "str" = some none) (z_tuple : PySem.W.nsIn K mainGlobals "tuple" = some none) :
    ∃ fd : FuncData, (∀ (s : Shared) (v : Value), BindsTo s fd ⟨[v], []⟩ [("_law_script", v)]) ∧ ∀ base : Heap, K.In base → base.Ns mainGlobals mg → FnOk l.prog w K mg base CX0 12 fa fd ["_law_script"] (spLaw K) := by
  have e := hfa.symm.trans (PySem.W.mg_of X G a20)
  cases e
  have F1 := fun_mk (st := s_common_divisor) l1 c1 k1
  have b1 := F1.binds (ps := ["one", "other"]) fun _ _ _ _ _ _ us hl => match us, hl with | [_, _], _ => rfl
  have F2 := fun_mk (st := s_reduced) l2 c2 k2
  have b2 := F2.binds (ps := ["numerator", "denominator"]) fun _ _ _ _ _ _ us hl => match us, hl with | [_, _], _ => rfl
  have F3 := fun_mk (st := s_plus) l3 c3 k3
  have b3 : ∀ rest : List Value, bindArgs (PySem.W.fnOf "plus" "plus" (defArgs s_plus) (defBody s_plus) (defScope s_plus) .none kV3 dc3 pm3 an3 cd3 ct3) ⟨rest, []⟩ = (newTuple rest >>= fun t => pure [(("parts" : Str), t)]) := fun rest => match rest with | [] => rfl | _ :: _ => rfl
  have F4 := fun_mk (st := s_times) l4 c4 k4
  have b4 : ∀ rest : List Value, bindArgs (PySem.W.fnOf "times" "times" (defArgs s_times) (defBody s_times) (defScope s_times) .none kV4 dc4 pm4 an4 cd4 ct4) ⟨rest, []⟩ = (newTuple rest >>= fun t => pure [(("parts" : Str), t)]) := fun rest => match rest with | [] => rfl | _ :: _ => rfl
  have F5 := fun_mk (st := s_total) l5 c5 k5
  have b5 := F5.binds (ps := ["parts"]) fun _ _ _ _ _ _ us hl => match us, hl with | [_], _ => rfl
  have F6 := fun_mk (st := s_negative) l6 c6 k6
  have b6 := F6.binds (ps := ["part"]) fun _ _ _ _ _ _ us hl => match us, hl with | [_], _ => rfl
  have F7 := fun_mk (st := s_order) l7 c7 k7
  have b7 := F7.binds (ps := ["one", "other"]) fun _ _ _ _ _ _ us hl => match us, hl with | [_, _], _ => rfl
  have F8 := fun_mk (st := s_bag) l8 c8 k8
  have b8 := F8.binds (ps := ["_law_script"]) fun _ _ _ _ _ _ us hl => match us, hl with | [_], _ => rfl
  have F9 := fun_mk (st := s_pull) l9 c9 k9
  have b9 := F9.binds (ps := ["_law_bag_here", "_law_many"]) fun _ _ _ _ _ _ us hl => match us, hl with | [_, _], _ => rfl
  have F10 := fun_mk (st := s_of) l10 c10 k10
  have b10 := F10.binds (ps := ["_law_bag_here", "_law_some"]) fun _ _ _ _ _ _ us hl => match us, hl with | [_, _], _ => rfl
  have F11 := fun_mk (st := s_same) l11 c11 k11
  have b11 := F11.binds (ps := ["_law_found", "_law_due"]) fun _ _ _ _ _ _ us hl => match us, hl with | [_, _], _ => rfl
  have F12 := fun_mk (st := s_gcd) l12 c12 k12
  have b12 := F12.binds (ps := ["_law_a", "_law_b"]) fun _ _ _ _ _ _ us hl => match us, hl with | [_, _], _ => rfl
  have F13 := fun_mk (st := s_low) l13 c13 k13
  have b13 := F13.binds (ps := ["_law_a", "_law_b"]) fun _ _ _ _ _ _ us hl => match us, hl with | [_, _], _ => rfl
  have F14 := fun_mk (st := s_add) l14 c14 k14
  have b14 := F14.binds (ps := ["_law_p", "_law_q"]) fun _ _ _ _ _ _ us hl => match us, hl with | [_, _], _ => rfl
  have F15 := fun_mk (st := s_sum) l15 c15 k15
  have b15 := F15.binds (ps := ["_law_parts"]) fun _ _ _ _ _ _ us hl => match us, hl with | [_], _ => rfl
  have F16 := fun_mk (st := s_mul) l16 c16 k16
  have b16 := F16.binds (ps := ["_law_p", "_law_q"]) fun _ _ _ _ _ _ us hl => match us, hl with | [_, _], _ => rfl
  have F17 := fun_mk (st := s_neg) l17 c17 k17
  have b17 := F17.binds (ps := ["_law_p"]) fun _ _ _ _ _ _ us hl => match us, hl with | [_], _ => rfl
  have F18 := fun_mk (st := s_less) l18 c18 k18
  have b18 := F18.binds (ps := ["_law_p", "_law_q"]) fun _ _ _ _ _ _ us hl => match us, hl with | [_, _], _ => rfl
  have F19 := fun_mk (st := s_ratio) l19 c19 k19
  have b19 := F19.binds (ps := ["_law_bag_here", "_law_most"]) fun _ _ _ _ _ _ us hl => match us, hl with | [_, _], _ => rfl
  have F20 := fun_mk (st := s_law) l20 c20 k20
  have b20 := F20.binds (ps := ["_law_script"]) fun _ _ _ _ _ _ us hl => match us, hl with | [_], _ => rfl
  have T : Txt K mg ⟨f1, PySem.W.fnOf "common_divisor" "common_divisor" (defArgs s_common_divisor) (defBody s_common_divisor) (defScope s_common_divisor) .none kV1 dc1 pm1 an1 cd1 ct1, f2, PySem.W.fnOf "reduced" "reduced" (defArgs s_reduced) (defBody s_reduced) (defScope s_reduced) .none kV2 dc2 pm2 an2 cd2 ct2, f3, PySem.W.fnOf "plus" "plus" (defArgs s_plus) (defBody s_plus) (defScope s_plus) .none kV3 dc3 pm3 an3 cd3 ct3, f4, PySem.W.fnOf "times" "times" (defArgs s_times) (defBody s_times) (defScope s_times) .none kV4 dc4 pm4 an4 cd4 ct4, f5, PySem.W.fnOf "total" "total" (defArgs s_total) (defBody s_total) (defScope s_total) .none kV5 dc5 pm5 an5 cd5 ct5, f6, PySem.W.fnOf "negative" "negative" (defArgs s_negative) (defBody s_negative) (defScope s_negative) .none kV6 dc6 pm6 an6 cd6 ct6, f7, PySem.W.fnOf "order" "order" (defArgs s_order) (defBody s_order) (defScope s_order) .none kV7 dc7 pm7 an7 cd7 ct7, f8, PySem.W.fnOf "_law_bag" "_law_bag" (defArgs s_bag) (defBody s_bag) (defScope s_bag) .none kV8 dc8 pm8 an8 cd8 ct8, f9, PySem.W.fnOf "_law_pull" "_law_pull" (defArgs s_pull) (defBody s_pull) (defScope s_pull) .none kV9 dc9 pm9 an9 cd9 ct9, f10, PySem.W.fnOf "_law_of" "_law_of" (defArgs s_of) (defBody s_of) (defScope s_of) .none kV10 dc10 pm10 an10 cd10 ct10, f11, PySem.W.fnOf "_law_same" "_law_same" (defArgs s_same) (defBody s_same) (defScope s_same) .none kV11 dc11 pm11 an11 cd11 ct11, f12, PySem.W.fnOf "_law_gcd" "_law_gcd" (defArgs s_gcd) (defBody s_gcd) (defScope s_gcd) .none kV12 dc12 pm12 an12 cd12 ct12, f13, PySem.W.fnOf "_law_low" "_law_low" (defArgs s_low) (defBody s_low) (defScope s_low) .none kV13 dc13 pm13 an13 cd13 ct13, f14, PySem.W.fnOf "_law_add" "_law_add" (defArgs s_add) (defBody s_add) (defScope s_add) .none kV14 dc14 pm14 an14 cd14 ct14, f15, PySem.W.fnOf "_law_sum" "_law_sum" (defArgs s_sum) (defBody s_sum) (defScope s_sum) .none kV15 dc15 pm15 an15 cd15 ct15, f16, PySem.W.fnOf "_law_mul" "_law_mul" (defArgs s_mul) (defBody s_mul) (defScope s_mul) .none kV16 dc16 pm16 an16 cd16 ct16, f17, PySem.W.fnOf "_law_neg" "_law_neg" (defArgs s_neg) (defBody s_neg) (defScope s_neg) .none kV17 dc17 pm17 an17 cd17 ct17, f18, PySem.W.fnOf "_law_less" "_law_less" (defArgs s_less) (defBody s_less) (defScope s_less) .none kV18 dc18 pm18 an18 cd18 ct18, f19, PySem.W.fnOf "_law_ratio" "_law_ratio" (defArgs s_ratio) (defBody s_ratio) (defScope s_ratio) .none kV19 dc19 pm19 an19 cd19 ct19, fa, PySem.W.fnOf "law" "law" (defArgs s_law) (defBody s_law) (defScope s_law) .none kV20 dc20 pm20 an20 cd20 ct20⟩ := ⟨⟨F1, PySem.W.mg_of X G a1, b1⟩, ⟨F2, PySem.W.mg_of X G a2, b2⟩, ⟨F3, PySem.W.mg_of X G a3, b3⟩, ⟨F4, PySem.W.mg_of X G a4, b4⟩, ⟨F5, PySem.W.mg_of X G a5, b5⟩, ⟨F6, PySem.W.mg_of X G a6, b6⟩, ⟨F7, PySem.W.mg_of X G a7, b7⟩, ⟨F8, PySem.W.mg_of X G a8, b8⟩, ⟨F9, PySem.W.mg_of X G a9, b9⟩, ⟨F10, PySem.W.mg_of X G a10, b10⟩, ⟨F11, PySem.W.mg_of X G a11, b11⟩, ⟨F12, PySem.W.mg_of X G a12, b12⟩, ⟨F13, PySem.W.mg_of X G a13, b13⟩, ⟨F14, PySem.W.mg_of X G a14, b14⟩, ⟨F15, PySem.W.mg_of X G a15, b15⟩, ⟨F16, PySem.W.mg_of X G a16, b16⟩, ⟨F17, PySem.W.mg_of X G a17, b17⟩, ⟨F18, PySem.W.mg_of X G a18, b18⟩, ⟨F19, PySem.W.mg_of X G a19, b19⟩, ⟨F20, PySem.W.mg_of X G a20, b20⟩, PySem.W.mg_none_of X G z_abs, PySem.W.mg_none_of X G z_all, PySem.W.mg_none_of X G z_bool, PySem.W.mg_none_of X G z_int, PySem.W.mg_none_of X G z_isinstance, PySem.W.mg_none_of X G z_len, PySem.W.mg_none_of X G z_list, PySem.W.mg_none_of X G z_range, PySem.W.mg_none_of X G z_str, PySem.W.mg_none_of X G z_tuple⟩
  exact ⟨PySem.W.fnOf "law" "law" (defArgs s_law) (defBody s_law) (defScope s_law) .none kV20 dc20 pm20 an20 cd20 ct20, fun s v => .of_eq rfl, fun base _ _ => ok_law T⟩
theorem walk {l : PySem.W.OpenLaw} {q : Program} {loose : List Str} {XP : (Str → Option Value) → Heap → Prop} {YP : World → Heap → Prop} {d : DefRec} {K : Params → PySem.W.Frag} (hn : l.most = some 63) (hdf : d.params.defaults = [])
    (hY : ∀ (w : World) (h : Heap), YP w h → (K w.params).In h)
    (F : ∀ (w : World) (mg : Str → Option Value) (fa : Addr) (h : Heap), (K w.params).In h → h.Ns mainGlobals mg → mg d.name = some (.ref fa) →
      ∃ fd : FuncData, (∀ (s : Shared) (u : Value), BindsTo s fd ⟨[u], []⟩ [("_law_script", u)]) ∧ ∀ base : Heap, (K w.params).In base → base.Ns mainGlobals mg → FnOk l.prog w (K w.params) mg base CX0 12 fa fd ["_law_script"] (spLaw (K w.params))) :
    PySem.W.WalkO q loose XP YP l.row.toRowW d [] (fun f vs => PySem.call f vs) :=
  L2.walk_of (n := 63) (k := 12) (x := "_law_script") (CX := fun _ => CX0) (sp := fun w => spLaw (K w.params)) hn (by decide) hdf ⟨rfl, by decide, by decide⟩ hY F (fun _ _ a ns hl _ hS => ⟨a, ns, rfl, hS, hl, fun _ => rfl⟩) fun _ _ _ _ _ z => z
end Toy
open PySem PySem.W PyProof.Rows in
set_option maxRecDepth 100000 in
set_option maxHeartbeats 0 in
theorem PySem.Challenge.cw_graincourse_k03_sums_and_products_holds : PySem.Challenge.rw_graincourse_k03_sums_and_products.Holds := by
  w_on; o_law; k_head; (case hw => w_witness2)
  k_fill
  refine Toy.walk (l := PySem.Challenge.rw_graincourse_k03_sums_and_products) rfl rfl (fun w h Y => PySem.W.kIn_of Y) ?F
  case F =>
    intro w mg fa h KX G hmg
    refine' Toy.all_mk KX G hmg ?a1 ?l1 ?c1 ?k1 ?a2 ?l2 ?c2 ?k2 ?a3 ?l3 ?c3 ?k3 ?a4 ?l4 ?c4 ?k4 ?a5 ?l5 ?c5 ?k5 ?a6 ?l6 ?c6 ?k6 ?a7 ?l7 ?c7 ?k7 ?a8 ?l8 ?c8 ?k8 ?a9 ?l9 ?c9 ?k9 ?a10 ?l10 ?c10 ?k10 ?a11 ?l11 ?c11 ?k11 ?a12 ?l12 ?c12 ?k12 ?a13 ?l13 ?c13 ?k13 ?a14 ?l14 ?c14 ?k14 ?a15 ?l15 ?c15 ?k15 ?a16 ?l16 ?c16 ?k16 ?a17 ?l17 ?c17 ?k17 ?a18 ?l18 ?c18 ?k18 ?a19 ?l19 ?c19 ?k19 ?a20 ?l20 ?c20 ?k20 ?z_abs ?z_all ?z_bool ?z_int ?z_isinstance ?z_len ?z_list ?z_range ?z_str ?z_tuple
    (case a1 => k_is)
    (case l1 => k_is)
    (case c1 => k_is)
    (case k1 => k_is)
    (case a2 => k_is)
    (case l2 => k_is)
    (case c2 => k_is)
    (case k2 => k_is)
    (case a3 => k_is)
    (case l3 => k_is)
    (case c3 => k_is)
    (case k3 => k_is)
    (case a4 => k_is)
    (case l4 => k_is)
    (case c4 => k_is)
    (case k4 => k_is)
    (case a5 => k_is)
    (case l5 => k_is)
    (case c5 => k_is)
    (case k5 => k_is)
    (case a6 => k_is)
    (case l6 => k_is)
    (case c6 => k_is)
    (case k6 => k_is)
    (case a7 => k_is)
    (case l7 => k_is)
    (case c7 => k_is)
    (case k7 => k_is)
    (case a8 => k_is)
    (case l8 => k_is)
    (case c8 => k_is)
    (case k8 => k_is)
    (case a9 => k_is)
    (case l9 => k_is)
    (case c9 => k_is)
    (case k9 => k_is)
    (case a10 => k_is)
    (case l10 => k_is)
    (case c10 => k_is)
    (case k10 => k_is)
    (case a11 => k_is)
    (case l11 => k_is)
    (case c11 => k_is)
    (case k11 => k_is)
    (case a12 => k_is)
    (case l12 => k_is)
    (case c12 => k_is)
    (case k12 => k_is)
    (case a13 => k_is)
    (case l13 => k_is)
    (case c13 => k_is)
    (case k13 => k_is)
    (case a14 => k_is)
    (case l14 => k_is)
    (case c14 => k_is)
    (case k14 => k_is)
    (case a15 => k_is)
    (case l15 => k_is)
    (case c15 => k_is)
    (case k15 => k_is)
    (case a16 => k_is)
    (case l16 => k_is)
    (case c16 => k_is)
    (case k16 => k_is)
    (case a17 => k_is)
    (case l17 => k_is)
    (case c17 => k_is)
    (case k17 => k_is)
    (case a18 => k_is)
    (case l18 => k_is)
    (case c18 => k_is)
    (case k18 => k_is)
    (case a19 => k_is)
    (case l19 => k_is)
    (case c19 => k_is)
    (case k19 => k_is)
    (case a20 => k_is)
    (case l20 => k_is)
    (case c20 => k_is)
    (case k20 => k_is)
    (case z_abs => k_is)
    (case z_all => k_is)
    (case z_bool => k_is)
    (case z_int => k_is)
    (case z_isinstance => k_is)
    (case z_len => k_is)
    (case z_list => k_is)
    (case z_range => k_is)
    (case z_str => k_is)
    (case z_tuple => k_is)

